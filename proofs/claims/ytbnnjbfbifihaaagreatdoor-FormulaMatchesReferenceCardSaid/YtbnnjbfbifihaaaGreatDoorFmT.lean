/-
  Formulas that are well-formed, loose kernels, kernels.
-/
import Derived.Test.YtbnnjbfbifihaaaGreatDoorFmC
namespace Go.Proofs.YtbnnjbfbifihaaaGreatDoor

/-- every node is well-formed -/
def nodesB (f : Fm) : Bool := f.all nodeB
theorem nodesB_eq (f : Fm) : nodesB f = (nodeB f && f.args.all nodesB) := Fm.all_eq _ f
theorem nodesB_arg {f g : Fm} (h : nodesB f = true) (hg : g ∈ f.args) : nodesB g = true := Fm.all_arg h hg
theorem nodesB_self {f : Fm} (h : nodesB f = true) : nodeB f = true := Fm.all_self h

/-- the operator of the first argument -/
def arg0 (f : Fm) : Int := (f.args.head?.map Fm.op).getD 0
theorem arg0_eq {f : Fm} (h : 0 < f.args.length) : arg0 f = f.args[0].op := by
  unfold arg0
  rw [List.head?_eq_getElem?, List.getElem?_eq_getElem h]
  rfl
/-- an operator that kernels have -/
def coreOpB (o : Int) : Bool := btwB o 1 6 || btwB o 8 10 || btwB o 15 17
/-- a node that kernels may have -/
def coreNodeB (f : Fm) : Bool := coreOpB f.op && (!(f.op == 4) || arg0 f == 3)
def coreB (f : Fm) : Bool := f.all coreNodeB
theorem coreB_eq (f : Fm) : coreB f = (coreNodeB f && f.args.all coreB) := Fm.all_eq _ f

theorem nodeB_known {f : Fm} (h : nodeB f = true) : 1 ≤ f.op ∧ f.op ≤ 19 := by
  unfold nodeB at h
  simp only [Bool.and_eq_true] at h
  exact (knownB_iff _).1 h.1.1.1.1
theorem nodeB_len {f : Fm} (h : nodeB f = true) : fLeast f.op.toNat ≤ f.args.length ∧ (f.args.length : Int) ≤ fMost f.op.toNat := by
  unfold nodeB btwB at h
  simp only [Bool.and_eq_true, decide_eq_true_eq] at h
  exact h.2

/-- well-formed; loose kernels; kernels -/
def fvalidB (f : Fm) : Bool := decide (f.nodes ≤ 60) && decide (f.depth ≤ 20) && nodesB f
def looseB (f : Fm) : Bool := decide (f.nodes ≤ 400) && decide (f.depth ≤ 60) && nodesB f && coreB f && layB f
def kernelB (f : Fm) : Bool := looseB f && fvalidB f

end Go.Proofs.YtbnnjbfbifihaaaGreatDoor
