/-
  The operators' table as numbers; a node that is well-formed.
-/
import Derived.Test.YtbnnjbfbifihaaaGreatDoorFmR
namespace Go.Proofs.YtbnnjbfbifihaaaGreatDoor

/-- the table of operators, row by row: least and most arguments, named, greatest Val and Bound, tense, dual -/
def formsRows : List (Int × Int × Bool × Int × Int × Int × Int) :=
  [(0, 0, false, 0, 0, 0, 0), (0, 0, false, 0, 0, 0, 2), (0, 0, false, 0, 0, 0, 1), (0, 0, true, 3, 0, 0, 4), (1, 1, false, 0, 0, 0, 3), (2, 9223372036854775807, false, 0, 0, 0, 6), (2, 9223372036854775807, false, 0, 0, 0, 5), (2, 2, false, 0, 0, 0, 0), (1, 1, false, 0, 0, 2, 8), (2, 2, false, 0, 0, 2, 10), (2, 2, false, 0, 0, 2, 9), (1, 1, false, 0, 0, 2, 0), (1, 1, false, 0, 0, 2, 0), (1, 1, false, 0, 9, 2, 0), (1, 1, false, 0, 9, 2, 0), (1, 1, false, 1, 0, 1, 15), (2, 2, false, 1, 0, 1, 17), (2, 2, false, 1, 0, 1, 16), (1, 1, false, 0, 0, 1, 0), (1, 1, false, 0, 0, 1, 0)]

def formRow (k : Nat) : Int × Int × Bool × Int × Int × Int × Int := formsRows.getD k (0, 0, false, 0, 0, 0, 0)
def fLeast (k : Nat) : Int := (formRow k).1
def fMost (k : Nat) : Int := (formRow k).2.1
def fNamed (k : Nat) : Bool := (formRow k).2.2.1
def fVal (k : Nat) : Int := (formRow k).2.2.2.1
def fBound (k : Nat) : Int := (formRow k).2.2.2.2.1
def fTense (k : Nat) : Int := (formRow k).2.2.2.2.2.1
def fDual (k : Nat) : Int := (formRow k).2.2.2.2.2.2

def btwB (n a b : Int) : Bool := decide (a ≤ n) && decide (n ≤ b)
def knownB (o : Int) : Bool := btwB o 1 19
theorem knownB_iff (o : Int) : knownB o = true ↔ 1 ≤ o ∧ o ≤ 19 := by simp [knownB, btwB]

/-- the name is one that the operator may have -/
def nameOkB (f : Fm) : Bool := if fNamed f.op.toNat then nameB f.name else f.name.toList.isEmpty
/-- the fields of a node are those of its operator -/
def nodeB (f : Fm) : Bool :=
  knownB f.op && nameOkB f && btwB f.val 0 (fVal f.op.toNat) && btwB f.bound 0 (fBound f.op.toNat) && btwB f.args.length (fLeast f.op.toNat) (fMost f.op.toNat)

theorem op_cases {o : Int} (h : 1 ≤ o ∧ o ≤ 19) : o = 1 ∨ o = 2 ∨ o = 3 ∨ o = 4 ∨ o = 5 ∨ o = 6 ∨ o = 7 ∨ o = 8 ∨ o = 9 ∨ o = 10 ∨ o = 11 ∨ o = 12 ∨ o = 13 ∨ o = 14 ∨ o = 15 ∨ o = 16 ∨ o = 17 ∨ o = 18 ∨ o = 19 := by omega

theorem nodeB_not {f : Fm} (h : ¬ (1 ≤ f.op ∧ f.op ≤ 19)) : nodeB f = false := by
  have : knownB f.op = false := by rw [← Bool.not_eq_true, knownB_iff]; exact h
  simp [nodeB, this]
/-- the name of a node, by its operator -/
theorem nodeB_is {f : Fm} (h : f.op = 3) : nodeB f = (nameB f.name && btwB f.val 0 3 && btwB f.bound 0 0 && btwB f.args.length 0 0) := by
  unfold nodeB nameOkB
  rw [h]; rfl
theorem nodeB_plain {f : Fm} {vm bm l m : Int} {k : Nat} (h : f.op = k) (hk : knownB k = true) (hn : fNamed k = false) (hv : fVal k = vm) (hb : fBound k = bm) (hl : fLeast k = l) (hm : fMost k = m) :
    nodeB f = (f.name.toList.isEmpty && btwB f.val 0 vm && btwB f.bound 0 bm && btwB f.args.length l m) := by
  unfold nodeB nameOkB
  rw [h, hk, Int.toNat_natCast, hn, hv, hb, hl, hm]
  rfl

/-- the least and the greatest number of arguments as the reference says them -/
def cLeast (o : Int) : Int := if 1 ≤ o ∧ o ≤ 19 then fLeast o.toNat else 0
def cMost (o : Int) : Int := if 1 ≤ o ∧ o ≤ 19 then (if o = 5 ∨ o = 6 then -1 else fMost o.toNat) else 0
def cOk (o : Int) : Bool := decide (1 ≤ o ∧ o ≤ 19)

end Go.Proofs.YtbnnjbfbifihaaaGreatDoor
