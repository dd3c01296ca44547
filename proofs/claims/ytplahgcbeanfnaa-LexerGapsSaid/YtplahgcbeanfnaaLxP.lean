/-
  Tokens of a text as plain functions on lists of bytes.
-/
namespace Go.Proofs.Ytplahgcbeanfnaa

abbrev Bs := List UInt8

def smallB (c : UInt8) : Bool := decide (97 ≤ c.toNat) && decide (c.toNat ≤ 122)
def bigB (c : UInt8) : Bool := decide (65 ≤ c.toNat) && decide (c.toNat ≤ 90)
def digB (c : UInt8) : Bool := decide (48 ≤ c.toNat) && decide (c.toNat ≤ 57)
def letB (c : UInt8) : Bool := smallB c || bigB c
def contB (c : UInt8) : Bool := smallB c || digB c || c.toNat == 95
def blankB (c : UInt8) : Bool := c.toNat == 32 || c.toNat == 9 || c.toNat == 10 || c.toNat == 13
def lineB (c : UInt8) : Bool := c.toNat != 10
def spanL (p : UInt8 → Bool) (l : Bs) : Nat := (l.takeWhile p).length

/-- the bytes of gaps at the head, in a comment or not -/
def gapS : Bool → Bs → Nat
  | _, [] => 0
  | false, c :: r => if blankB c then gapS false r + 1 else if c.toNat == 37 then gapS true r + 1 else 0
  | true, c :: r => if c.toNat == 10 then gapS false r + 1 else gapS true r + 1
def gapL (l : Bs) : Nat := gapS false l

def nameL : Bs → Nat
  | [] => 0
  | c :: r => if letB c then (if 20 < spanL contB r + 1 then 0 else spanL contB r + 1) else 0
def glued : Bs → Bool
  | [] => false
  | c :: _ => letB c || c.toNat == 95
def headZ : Bs → Bool
  | [] => false
  | c :: _ => c.toNat == 48
def numL (l : Bs) : Nat := if 4 < spanL digB l then 0 else if decide (1 < spanL digB l) && headZ l then 0 else if glued (l.drop (spanL digB l)) then 0 else spanL digB l
def oneB (c : UInt8) : Bool := [40, 41, 123, 125, 91, 93, 44, 59, 58, 61, 33, 38, 124].contains c
def twoB : Bs → Bool
  | c :: d :: _ => (c == 45 && d == 62) || (c == 33 && d == 61)
  | _ => false
def symL : Bs → Nat
  | [] => 0
  | c :: r => if twoB (c :: r) then 2 else if oneB c then 1 else 0

def tokK (l : Bs) : Nat := if nameL l ≠ 0 then 1 else if numL l ≠ 0 then 2 else 3
def tokN (l : Bs) : Nat := if nameL l ≠ 0 then nameL l else if numL l ≠ 0 then numL l else symL l

structure Tok where
  kind : Nat
  text : Bs
  pos : Nat

/-- the tokens of a text that begins with no gap, and the first error -/
def lexF : Nat → Nat → Nat → Bs → List Tok × Option (Nat × Nat)
  | 0, _, _, _ => ([], none)
  | _ + 1, _, _, [] => ([], none)
  | f + 1, p, n, c :: r =>
    if tokN (c :: r) = 0 then ([], some (40, p)) else if n = 2000 then ([], some (2, p)) else
      (⟨tokK (c :: r), (c :: r).take (tokN (c :: r)), p⟩ :: (lexF f (p + tokN (c :: r) + gapL ((c :: r).drop (tokN (c :: r)))) (n + 1) (((c :: r).drop (tokN (c :: r))).drop (gapL ((c :: r).drop (tokN (c :: r)))))).1,
        (lexF f (p + tokN (c :: r) + gapL ((c :: r).drop (tokN (c :: r)))) (n + 1) (((c :: r).drop (tokN (c :: r))).drop (gapL ((c :: r).drop (tokN (c :: r)))))).2)
def lexT (l : Bs) : List Tok × Option (Nat × Nat) := lexF (l.length + 1) (gapL l) 0 (l.drop (gapL l))
def lexL (l : Bs) : List Tok × Option (Nat × Nat) := if 6000 < l.length then ([], some (2, 6000)) else lexT l

/- spans -/
theorem spanL_nil (p : UInt8 → Bool) : spanL p [] = 0 := rfl
theorem spanL_cons (p : UInt8 → Bool) (c : UInt8) (r : Bs) : spanL p (c :: r) = if p c then spanL p r + 1 else 0 := by
  unfold spanL; rw [List.takeWhile_cons]; split <;> simp
theorem spanL_le (p : UInt8 → Bool) (l : Bs) : spanL p l ≤ l.length := by
  induction l with
  | nil => simp [spanL_nil]
  | cons c r ih => rw [spanL_cons]; split <;> simp <;> omega

theorem gapS_le (b : Bool) (l : Bs) : gapS b l ≤ l.length := by
  induction l generalizing b with
  | nil => simp [gapS]
  | cons c r ih =>
    have h1 := ih false
    have h2 := ih true
    cases b <;> simp only [gapS, List.length_cons] <;> (repeat' split) <;> omega
theorem gapL_le (l : Bs) : gapL l ≤ l.length := gapS_le _ _

/-- a comment's bytes are its line's, and what comes then -/
theorem gapS_true (l : Bs) : gapS true l = spanL lineB l + gapS false (l.drop (spanL lineB l)) := by
  induction l with
  | nil => rfl
  | cons c r ih =>
    rw [spanL_cons]
    by_cases h : c.toNat = 10
    · have h1 : lineB c = false := by simp [lineB, h]
      have h2 : blankB c = true := by simp [blankB, h]
      rw [h1]
      simp [gapS, h, h2]
    · have h1 : lineB c = true := by simp [lineB, h]
      rw [h1]
      simp [gapS, h, ih]
      omega

theorem gapS_blank {c : UInt8} {r : Bs} (h : blankB c = true) : gapS false (c :: r) = gapS false r + 1 := by simp [gapS, h]
theorem gapS_hash {c : UInt8} {r : Bs} (h : c.toNat = 37) : gapS false (c :: r) = spanL lineB (c :: r) + gapS false ((c :: r).drop (spanL lineB (c :: r))) := by
  have h1 : blankB c = false := by simp [blankB, h]
  have h2 : lineB c = true := by simp [lineB, h]
  rw [spanL_cons, h2]
  simp [gapS, h1, h, gapS_true]
  omega
theorem gapS_none {c : UInt8} {r : Bs} (h : blankB c = false) (h2 : c.toNat ≠ 37) : gapS false (c :: r) = 0 := by simp [gapS, h, h2]

end Go.Proofs.Ytplahgcbeanfnaa
