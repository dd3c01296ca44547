/-
  The plain functions that the signal package and its reference compute, on lists of signals; nothing of the program is imported.
-/
import Derived.WalkKit
namespace Go.Proofs.YtbnnjbfbifihaaaGreatDoor
open Go.RowKit

/-- a byte that a name may hold: a small letter, or behind the first place a digit or an underscore -/
def chB (first : Bool) (c : UInt8) : Bool := (decide (97 ≤ (c.toNat : Int)) && decide ((c.toNat : Int) ≤ 122)) || (!first && ((decide (48 ≤ (c.toNat : Int)) && decide ((c.toNat : Int) ≤ 57)) || (c.toNat : Int) == 95))

def chsB : Nat → List UInt8 → Bool
  | _, [] => true
  | k, c :: r => chB (k == 0) c && chsB (k + 1) r

structure Sig where
  name : ByteArray
  input : Bool
  size : Int

def kws : List (List UInt8) := [[105, 110, 112, 117, 116], [111, 117, 116, 112, 117, 116], [112, 97, 114, 116], [97, 115, 115, 117, 109, 101], [103, 117, 97, 114, 97, 110, 116, 101, 101], [116, 114, 117, 101], [102, 97, 108, 115, 101], [97, 100, 100], [100, 114, 111, 112], [114, 101, 112, 108, 97, 99, 101]]

def keyB (s : List UInt8) : Bool := kws.any fun k => s == k

def findFrom (nm : ByteArray) : Nat → List Sig → Int
  | _, [] => -1
  | k, s :: r => if s.name.toList == nm.toList then (k : Int) else findFrom nm (k + 1) r

def findI (l : List Sig) (nm : ByteArray) : Int := findFrom nm 0 l

def nameB (s : ByteArray) : Bool := decide (1 ≤ s.size) && decide (s.size ≤ 12) && !keyB s.toList && chsB 0 s.data.toList

/-- the rest of Valid's loop: behind k signals, with the product n -/
def validFrom (l : List Sig) : Nat → Int → List Sig → Bool
  | _, n, [] => decide (n ≤ 64)
  | k, n, s :: r => nameB s.name && (findI l s.name == (k : Int)) && decide (2 ≤ s.size) && decide (s.size ≤ 4) && validFrom l (k + 1) (wrap64 (n * s.size)) r

def validB (l : List Sig) : Bool := decide (1 ≤ l.length) && decide (l.length ≤ 6) && validFrom l 0 1 l

/-- the selected signals' indices with their weights, from index k and weight x on -/
def wl (p : Sig → Bool) : Nat → Int → List Sig → List (Nat × Int)
  | _, _, [] => []
  | k, x, s :: r => if p s then (k, x) :: wl p (k + 1) (wrap64 (x * s.size)) r else wl p (k + 1) x r

theorem mem_wl {p : Sig → Bool} : ∀ {l : List Sig} {k : Nat} {x : Int} {e : Nat × Int}, e ∈ wl p k x l → k ≤ e.1 ∧ e.1 < k + l.length
  | [], _, _, _, h => by simp [wl] at h
  | s :: r, k, x, e, h => by
    unfold wl at h
    split at h
    · rcases List.mem_cons.1 h with rfl | h
      · simp
      · have := mem_wl h; simp; omega
    · have := mem_wl h; simp; omega

theorem mem_wl0 {p : Sig → Bool} {l : List Sig} {e : Nat × Int} (h : e ∈ wl p 0 1 l) : e.1 < l.length := by
  have := mem_wl h; omega

/-- what count's loop has reckoned behind some elements -/
def countW (l : List Sig) (pre : List (Nat × Int)) : Int := pre.foldl (fun n x => wrap64 (n * (l.map (·.size)).getD x.1 0)) 1
theorem countW_snoc (l : List Sig) (pre : List (Nat × Int)) (x : Nat × Int) (h : x.1 < l.length) : countW l (pre ++ [x]) = wrap64 (countW l pre * l[x.1].size) := by
  simp [countW, h]

/-- what compose's loop has reckoned behind some elements -/
def composeW (vs : List Int) (pre : List (Nat × Int)) : Int := pre.foldl (fun n x => wrap64 (n + wrap64 (vs.getD x.1 0 * x.2))) 0
theorem composeW_snoc (vs : List Int) (pre : List (Nat × Int)) (x : Nat × Int) (h : x.1 < vs.length) : composeW vs (pre ++ [x]) = wrap64 (composeW vs pre + wrap64 (vs[x.1] * x.2)) := by
  simp [composeW, h]

/-- what decompose's loop has written behind some elements -/
def decW (l : List Sig) (n : Int) (vs : List Int) (pre : List (Nat × Int)) : List Int := pre.foldl (fun xs x => xs.set x.1 (n / x.2 % (l.map (·.size)).getD x.1 0)) vs
theorem decW_snoc (l : List Sig) (n : Int) (vs : List Int) (pre : List (Nat × Int)) (x : Nat × Int) (h : x.1 < l.length) : decW l n vs (pre ++ [x]) = (decW l n vs pre).set x.1 (n / x.2 % l[x.1].size) := by
  simp [decW, h]
theorem decW_length (l : List Sig) (n : Int) (pre : List (Nat × Int)) : ∀ vs : List Int, (decW l n vs pre).length = vs.length := by
  induction pre with
  | nil => intro vs; rfl
  | cons x r ih => intro vs; exact (ih _).trans (by simp)

end Go.Proofs.YtbnnjbfbifihaaaGreatDoor
