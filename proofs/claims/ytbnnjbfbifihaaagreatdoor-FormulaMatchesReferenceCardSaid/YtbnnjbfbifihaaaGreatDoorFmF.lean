/-
  The positive and the negative form of a formula, without limits.
-/
import Derived.Test.YtbnnjbfbifihaaaGreatDoorFmT
namespace Go.Proofs.YtbnnjbfbifihaaaGreatDoor

def mkOp (o : Int) (l : List Fm) : Fm := .mk o ⟨#[]⟩ 0 0 l
def mkLate (o v : Int) (l : List Fm) : Fm := .mk o ⟨#[]⟩ v 0 l
/-- the operator of the negative form -/
def dualN (o : Int) : Int := if o == 1 then 2 else if o == 2 then 1 else if o == 5 then 6 else if o == 6 then 5 else if o == 9 then 10 else if o == 10 then 9 else if o == 16 then 17 else if o == 17 then 16 else o
/-- within or during n ticks -/
def repF (o : Int) : Nat → Fm → Fm
  | 0, f => f
  | n + 1, f => mkOp o [f, mkOp 8 [repF o n f]]

/-- a node's form, given its arguments' -/
def formN (o : Int) (n : ByteArray) (v b : Int) (a args : List Fm) (neg : Bool) : Fm :=
  if o = 3 then (if neg then mkOp 4 [.mk o n v b a] else .mk o n v b a)
  else if o = 4 then args.headD (mkOp 0 [])
  else if o = 7 then mkOp (if neg then 5 else 6) args
  else if o = 11 ∨ o = 12 then (if (o == 11) != neg then mkOp 9 [mkOp 1 [], args.headD (mkOp 0 [])] else mkOp 10 [mkOp 2 [], args.headD (mkOp 0 [])])
  else if o = 13 ∨ o = 14 then (if (o == 13) != neg then repF 6 b.toNat (args.headD (mkOp 0 [])) else repF 5 b.toNat (args.headD (mkOp 0 [])))
  else if o = 18 ∨ o = 19 then (if (o == 18) != neg then mkLate 16 0 [mkOp 1 [], args.headD (mkOp 0 [])] else mkLate 17 1 [mkOp 2 [], args.headD (mkOp 0 [])])
  else if o = 15 ∨ o = 16 ∨ o = 17 then mkLate (if neg then dualN o else o) (if neg then 1 - v else v) args
  else mkOp (if neg then dualN o else o) args

mutual
/-- the positive (false) or the negative form (true) -/
def formP : Fm → Bool → Fm
  | .mk o n v b a, neg => formN o n v b a (formPL a (neg != (o == 4 || o == 7)) (neg != (o == 4))) neg
def formPL : List Fm → Bool → Bool → List Fm
  | [], _, _ => []
  | x :: l, p, q => formP x p :: formPL l q q
end
theorem formP_eq (f : Fm) (neg : Bool) : formP f neg = formN f.op f.name f.val f.bound f.args (formPL f.args (neg != (f.op == 4 || f.op == 7)) (neg != (f.op == 4))) neg := by cases f; rw [formP]; rfl
theorem formPL_same (l : List Fm) (p : Bool) : formPL l p p = l.map fun x => formP x p := by
  induction l with
  | nil => rw [formPL]; rfl
  | cons x l ih => rw [formPL, ih]; rfl

/-- the operators of kernels but for OpNot -/
def plainOp (o : Int) : Prop := o = 1 ∨ o = 2 ∨ o = 3 ∨ o = 5 ∨ o = 6 ∨ o = 8 ∨ o = 9 ∨ o = 10 ∨ o = 15 ∨ o = 16 ∨ o = 17
theorem plain_dual {o : Int} (h : 1 ≤ o ∧ o ≤ 19) : plainOp o ↔ (o ≠ 4 ∧ fDual o.toNat ≠ 0) := by
  rcases op_cases h with rfl | rfl | rfl | rfl | rfl | rfl | rfl | rfl | rfl | rfl | rfl | rfl | rfl | rfl | rfl | rfl | rfl | rfl | rfl <;> simp [plainOp] <;> decide

/-- a well-formed node's fields -/
theorem nodeB_flds {f : Fm} (h : nodeB f = true) : (f.op ≠ 3 → f.name = ⟨#[]⟩) ∧ 0 ≤ f.val ∧ f.val ≤ fVal f.op.toNat ∧ 0 ≤ f.bound ∧ f.bound ≤ fBound f.op.toNat ∧ fLeast f.op.toNat ≤ f.args.length ∧ (f.args.length : Int) ≤ fMost f.op.toNat := by
  have hk := nodeB_known h
  have hl := nodeB_len h
  unfold nodeB btwB nameOkB at h
  simp only [Bool.and_eq_true, decide_eq_true_eq] at h
  obtain ⟨⟨⟨⟨-, h1⟩, h2⟩, h3⟩, -⟩ := h
  refine ⟨fun h3' => ?_, h2.1, h2.2, h3.1, h3.2, hl.1, hl.2⟩
  have hn : fNamed f.op.toNat = false := by
    rcases op_cases hk with e | e | e | e | e | e | e | e | e | e | e | e | e | e | e | e | e | e | e <;> rw [e] at h3' ⊢ <;> first | rfl | exact (h3' rfl).elim
  rw [hn] at h1
  simp only [Bool.false_eq_true, if_false] at h1
  have h4 : f.name.toList = [] := by simpa using h1
  exact bytes_inj (by rw [h4, ByteArray.toList_eq])

/-- the positive form of a node with an operator of kernels -/
theorem form_pos {f : Fm} (hn : nodeB f = true) (hp : plainOp f.op) : formP f false = .mk f.op f.name f.val f.bound (f.args.map fun x => formP x false) := by
  obtain ⟨h1, h2, h3, h4, h5, h6, h7⟩ := nodeB_flds hn
  rw [formP_eq]
  rcases hp with e | e | e | e | e | e | e | e | e | e | e <;> rw [e] at h1 h3 h5 h6 h7 ⊢
  case inr.inr.inl =>
    have h0 : f.args = [] := List.eq_nil_of_length_eq_zero (by have : fMost (3 : Int).toNat = 0 := rfl; omega)
    rw [h0]; rfl
  all_goals
    have e1 : f.name = ⟨#[]⟩ := h1 (by decide)
    have e3 : f.bound = 0 := by simp [fBound, formRow, formsRows] at h5; omega
    rw [e1, e3]
    simp only [formN, mkOp, mkLate]
    simp [formPL_same]
  all_goals (simp [fVal, formRow, formsRows] at h3; omega)
/-- the negative form of one -/
theorem form_neg {f : Fm} (_ : nodeB f = true) (hp : plainOp f.op) (h3 : f.op ≠ 3) : formP f true = .mk (fDual f.op.toNat) ⟨#[]⟩ (if fTense f.op.toNat = 1 then 1 - f.val else 0) 0 (f.args.map fun x => formP x true) := by
  rw [formP_eq]
  rcases hp with e | e | e | e | e | e | e | e | e | e | e <;> rw [e] at h3 ⊢
  case inr.inr.inl => exact (h3 rfl).elim
  all_goals
    simp only [formN, mkOp, mkLate]
    simp [formPL_same, dualN, fDual, fTense, formRow, formsRows]
theorem form_is {f : Fm} (h : f.op = 3) : formP f true = mkOp 4 [f] ∧ formP f false = f := by
  rw [formP_eq, formP_eq, h]
  cases f
  simp only [Fm.op] at h
  subst h
  exact ⟨rfl, rfl⟩
theorem form_not {f x : Fm} {l : List Fm} (h : f.op = 4) (ha : f.args = x :: l) (neg : Bool) : formP f neg = formP x (!neg) := by
  rw [formP_eq, h, ha, formPL]
  cases neg <;> rfl

/-- what a formula says whose operator kernels do not have -/
def meanF (f : Fm) : Fm :=
  let x := f.args.headD (mkOp 0 [])
  if f.op = 7 then mkOp 6 [mkOp 4 [x], f.args.getD 1 (mkOp 0 [])]
  else if f.op = 11 then mkOp 9 [mkOp 1 [], x]
  else if f.op = 12 then mkOp 10 [mkOp 2 [], x]
  else if f.op = 18 then mkLate 16 0 [mkOp 1 [], x]
  else if f.op = 19 then mkLate 17 1 [mkOp 2 [], x]
  else if f.op = 13 then (if f.bound = 0 then x else mkOp 6 [x, mkOp 8 [.mk 13 ⟨#[]⟩ 0 (f.bound - 1) f.args]])
  else (if f.bound = 0 then x else mkOp 5 [x, mkOp 8 [.mk 14 ⟨#[]⟩ 0 (f.bound - 1) f.args]])

end Go.Proofs.YtbnnjbfbifihaaaGreatDoor
