/-
  Canonical lists of formulas as plain functions: sorted, each once, without units, or the zero alone; canonical forms.
-/
import Derived.Test.YtbnnjbfbifihaaaGreatDoorFmG
import Derived.Test.YtbnnjbfbifihaaaGreatDoorFmC
namespace Go.Proofs.YtbnnjbfbifihaaaGreatDoor

theorem cmpF_self (x : Fm) : cmpF x x = 0 := (good_fm x).refl
theorem cmpF_eq0 {x y : Fm} : cmpF x y = 0 ↔ x = y := (good_fm x).eq y
theorem cmpF_anti (x y : Fm) : cmpF y x = - cmpF x y := (good_fm x).anti y
theorem cmpF_lt_trans {x y z : Fm} (h1 : cmpF x y < 0) (h2 : cmpF y z < 0) : cmpF x z < 0 := (good_fm x).strict (by omega) (by omega) (.inl h1)

/-- ascending, each once -/
def Asc (l : List Fm) : Prop := l.Pairwise fun a b => cmpF a b < 0
/-- a sorted list with a further formula, each once -/
def insF (x : Fm) : List Fm → List Fm
  | [] => [x]
  | y :: l => if cmpF y x < 0 then y :: insF x l else if cmpF y x = 0 then y :: l else x :: y :: l
/-- the formulas of a list, sorted, each once -/
def setF (l : List Fm) : List Fm := l.foldl (fun a x => insF x a) []

theorem mem_insF {x z : Fm} : ∀ {l : List Fm}, z ∈ insF x l ↔ z = x ∨ z ∈ l
  | [] => by simp [insF]
  | y :: l => by
    unfold insF
    split
    · rw [List.mem_cons, mem_insF, List.mem_cons]
      constructor
      · rintro (h | h | h)
        · exact .inr (.inl h)
        · exact .inl h
        · exact .inr (.inr h)
      · rintro (h | h | h)
        · exact .inr (.inl h)
        · exact .inl h
        · exact .inr (.inr h)
    · split
      · next h => rw [cmpF_eq0.1 h]; simp
      · simp
theorem asc_insF {x : Fm} : ∀ {l : List Fm}, Asc l → Asc (insF x l)
  | [], _ => by simp [insF, Asc]
  | y :: l, h => by
    obtain ⟨h1, h2⟩ := List.pairwise_cons.1 h
    unfold insF
    split
    · next hy =>
      refine List.pairwise_cons.2 ⟨fun z hz => ?_, asc_insF h2⟩
      rcases mem_insF.1 hz with rfl | hz
      · exact hy
      · exact h1 z hz
    · split
      · exact h
      · next h3 h4 =>
        have h5 : cmpF x y < 0 := by have := cmpF_anti y x; omega
        refine List.pairwise_cons.2 ⟨fun z hz => ?_, h⟩
        rcases List.mem_cons.1 hz with rfl | hz
        · exact h5
        · exact cmpF_lt_trans h5 (h1 z hz)
theorem fold_insF (l : List Fm) : ∀ (a : List Fm), Asc a → Asc (l.foldl (fun a x => insF x a) a) ∧ ∀ z, z ∈ l.foldl (fun a x => insF x a) a ↔ z ∈ a ∨ z ∈ l := by
  induction l with
  | nil => intro a h; exact ⟨h, fun z => by simp⟩
  | cons x l ih =>
    intro a h
    obtain ⟨h1, h2⟩ := ih (insF x a) (asc_insF h)
    refine ⟨h1, fun z => ?_⟩
    rw [List.foldl_cons, h2 z, mem_insF, List.mem_cons]
    constructor
    · rintro ((h | h) | h)
      · exact .inr (.inl h)
      · exact .inl h
      · exact .inr (.inr h)
    · rintro (h | h | h)
      · exact .inl (.inr h)
      · exact .inl (.inl h)
      · exact .inr h
theorem asc_setF (l : List Fm) : Asc (setF l) := (fold_insF l [] List.Pairwise.nil).1
theorem mem_setF {l : List Fm} {z : Fm} : z ∈ setF l ↔ z ∈ l := by rw [setF, (fold_insF l [] List.Pairwise.nil).2 z]; simp

theorem asc_unique : ∀ {l m : List Fm}, Asc l → Asc m → (∀ x, x ∈ l ↔ x ∈ m) → l = m
  | [], [], _, _, _ => rfl
  | [], y :: m, _, _, h => absurd ((h y).2 (by simp)) (by simp)
  | x :: l, [], _, _, h => absurd ((h x).1 (by simp)) (by simp)
  | x :: l, y :: m, hl, hm, h => by
    obtain ⟨l1, l2⟩ := List.pairwise_cons.1 hl
    obtain ⟨m1, m2⟩ := List.pairwise_cons.1 hm
    have e : x = y := by
      rcases List.mem_cons.1 ((h x).1 (by simp)) with e | hx
      · exact e
      · rcases List.mem_cons.1 ((h y).2 (by simp)) with e | hy
        · exact e.symm
        · have h1 := l1 y hy
          have h2 := m1 x hx
          have := cmpF_anti x y
          omega
    subst e
    rw [asc_unique l2 m2 fun z => ?_]
    constructor
    · intro hz
      rcases List.mem_cons.1 ((h z).1 (by simp [hz])) with e | h1
      · have := l1 z hz; rw [e, cmpF_self] at this; omega
      · exact h1
    · intro hz
      rcases List.mem_cons.1 ((h z).2 (by simp [hz])) with e | h1
      · have := m1 z hz; rw [e, cmpF_self] at this; omega
      · exact h1
theorem setF_eq {l m : List Fm} (hm : Asc m) (h : ∀ x, x ∈ m ↔ x ∈ l) : setF l = m := asc_unique (asc_setF l) hm fun x => mem_setF.trans (h x).symm
theorem setF_asc {l : List Fm} (h : Asc l) : setF l = l := setF_eq h fun _ => Iff.rfl
theorem setF_congr {l m : List Fm} (h : ∀ x, x ∈ l ↔ x ∈ m) : setF l = setF m := setF_eq (asc_setF m) fun x => mem_setF.trans (h x).symm

/-- whether a formula is in a list -/
def memB (z : Fm) (l : List Fm) : Bool := l.any fun y => decide (cmpF y z = 0)
theorem memB_iff {z : Fm} {l : List Fm} : memB z l = true ↔ z ∈ l := by
  unfold memB
  rw [List.any_eq_true]
  constructor
  · rintro ⟨y, hy, h⟩; rw [decide_eq_true_eq] at h; rw [← cmpF_eq0.1 h]; exact hy
  · intro h; exact ⟨z, h, by simp [cmpF_self]⟩

/-- what OpNot negates -/
def arg0F (f : Fm) : Fm := f.args.headD (mkOp 0 [])
/-- x is the zero, or a literal whose opposite is in the list -/
def badB (s : List Fm) (zero x : Fm) : Bool := decide (cmpF x zero = 0) || (x.op == 4 && memB (arg0F x) s)
/-- settle's result -/
def settleF (l : List Fm) (unit zero : Fm) : List Fm :=
  if (setF l).any (badB (setF l) zero) = true then [zero] else (setF l).filter fun x => !decide (cmpF x unit = 0)

/-- flat's result -/
def flatF (op : Int) (l : List Fm) : List Fm := l.flatMap fun f => if f.op = op then f.args else [f]
theorem flatF_snoc (op : Int) (l : List Fm) (f : Fm) : flatF op (l ++ [f]) = flatF op l ++ (if f.op = op then f.args else [f]) := by simp [flatF]

/-- unit and zero of an operator -/
def unitF (op : Int) : Fm := if op = 6 then mkOp 2 [] else mkOp 1 []
def nullF (op : Int) : Fm := if op = 6 then mkOp 1 [] else mkOp 2 []
/-- a node of a list: the unit, its element, or a node -/
def nodeOf (op : Int) : List Fm → Fm
  | [] => unitF op
  | [x] => x
  | l => mkOp op l
def joinF (op : Int) (args : List Fm) : Fm := nodeOf op (settleF (flatF op args) (unitF op) (nullF op))

def constF (f : Fm) : Bool := f.op == 1 || f.op == 2
/-- a node's canonical form, given its arguments' -/
def canonN (o : Int) (n : ByteArray) (v b : Int) (a : List Fm) : Fm :=
  if o = 5 ∨ o = 6 then joinF o a
  else if o = 8 then (if constF (a.headD (mkOp 0 [])) = true then a.headD (mkOp 0 []) else .mk o n v b a)
  else if o = 9 then (if constF (a.getD 1 (mkOp 0 [])) = true ∨ (a.headD (mkOp 0 [])).op = 2 then a.getD 1 (mkOp 0 []) else .mk o n v b a)
  else if o = 10 then (if constF (a.getD 1 (mkOp 0 [])) = true ∨ (a.headD (mkOp 0 [])).op = 1 then a.getD 1 (mkOp 0 []) else .mk o n v b a)
  else .mk o n v b a
mutual
def canonF : Fm → Fm
  | .mk o n v b a => canonN o n v b (canonL a)
def canonL : List Fm → List Fm
  | [] => []
  | x :: l => canonF x :: canonL l
end
theorem canonL_map (l : List Fm) : canonL l = l.map canonF := by
  induction l with
  | nil => rw [canonL]; rfl
  | cons x l ih => rw [canonL, ih]; rfl
theorem canonF_eq (f : Fm) : canonF f = canonN f.op f.name f.val f.bound (f.args.map canonF) := by cases f; rw [canonF, canonL_map]; rfl

end Go.Proofs.YtbnnjbfbifihaaaGreatDoor
