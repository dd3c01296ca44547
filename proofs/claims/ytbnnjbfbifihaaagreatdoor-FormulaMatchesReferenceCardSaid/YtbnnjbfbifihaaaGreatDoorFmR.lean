/-
  What is said of every node of a formula: past, layered, well-formed, of a kernel.
-/
import Derived.Test.YtbnnjbfbifihaaaGreatDoorFmQ
import Derived.Test.YtbnnjbfbifihaaaGreatDoorSigP
namespace Go.Proofs.YtbnnjbfbifihaaaGreatDoor
namespace Fm
mutual
/-- every node -/
def all (p : Fm → Bool) : Fm → Bool | .mk o n v b a => p (.mk o n v b a) && allL p a
def allL (p : Fm → Bool) : List Fm → Bool | [] => true | f :: l => f.all p && allL p l
end
theorem allL_eq (p : Fm → Bool) (l : List Fm) : allL p l = l.all (fun f => f.all p) := by
  induction l with
  | nil => rw [allL]; rfl
  | cons x l ih => rw [allL, ih, List.all_cons]
theorem all_eq (p : Fm → Bool) (f : Fm) : f.all p = (p f && f.args.all (fun g => g.all p)) := by
  cases f with
  | mk o n v b a => rw [all, allL_eq]; rfl
theorem all_self {p : Fm → Bool} {f : Fm} (h : f.all p = true) : p f = true := by
  rw [all_eq, Bool.and_eq_true] at h; exact h.1
theorem all_arg {p : Fm → Bool} {f g : Fm} (h : f.all p = true) (hg : g ∈ f.args) : g.all p = true := by
  rw [all_eq, Bool.and_eq_true, List.all_eq_true] at h; exact h.2 g hg
theorem all_mk {p : Fm → Bool} {f : Fm} (h : p f = true) (ha : ∀ g ∈ f.args, g.all p = true) : f.all p = true := by
  rw [all_eq, h, Bool.true_and, List.all_eq_true]; exact ha
theorem all_mono {p q : Fm → Bool} (h : ∀ f, p f = true → q f = true) (f : Fm) : f.all p = true → f.all q = true := by
  induction f using Fm.ind with
  | h f ih => intro hp; exact all_mk (h f (all_self hp)) fun g hg => ih g hg (all_arg hp hg)
theorem all_and (p q : Fm → Bool) (f : Fm) : f.all (fun g => p g && q g) = (f.all p && f.all q) := by
  induction f using Fm.ind with
  | h f ih =>
    rw [all_eq, all_eq p, all_eq q]
    have : f.args.all (fun g => g.all fun g => p g && q g) = (f.args.all (fun g => g.all p) && f.args.all (fun g => g.all q)) := by
      have h : ∀ l : List Fm, (∀ g ∈ l, g.all (fun g => p g && q g) = (g.all p && g.all q)) → l.all (fun g => g.all fun g => p g && q g) = (l.all (fun g => g.all p) && l.all (fun g => g.all q)) := by
        intro l
        induction l with
        | nil => intro _; rfl
        | cons x l ih2 =>
          intro hl
          rw [List.all_cons, List.all_cons, List.all_cons, ih2 (fun g hg => hl g (List.mem_cons_of_mem _ hg)), hl x (List.mem_cons_self ..)]
          cases x.all p <;> cases x.all q <;> cases l.all (fun g => g.all p) <;> rfl
      exact h f.args ih
    rw [this]
    cases p f <;> cases q f <;> cases f.args.all (fun g => g.all p) <;> rfl
end Fm

/-- an operator about the future -/
def futB (o : Int) : Bool := decide (8 ≤ o) && decide (o ≤ 14)
/-- an operator about the past -/
def lateB (o : Int) : Bool := decide (15 ≤ o) && decide (o ≤ 19)
def pastB (f : Fm) : Bool := f.all fun g => !futB g.op
def layB (f : Fm) : Bool := f.all fun g => !lateB g.op || g.args.all pastB

theorem pastB_eq (f : Fm) : pastB f = (!futB f.op && f.args.all pastB) := Fm.all_eq _ f
theorem layB_eq (f : Fm) : layB f = f.args.all fun g => layB g && (!lateB f.op || pastB g) := by
  have h : layB f = ((!lateB f.op || f.args.all pastB) && f.args.all layB) := Fm.all_eq _ f
  rw [h]
  generalize f.args = l
  cases lateB f.op
  · simp
  · induction l with
    | nil => rfl
    | cons x l ih =>
      simp only [List.all_cons, Bool.not_true, Bool.false_or] at ih ⊢
      rw [← ih]
      cases pastB x <;> cases layB x <;> cases l.all pastB <;> rfl

theorem args_drop {p : Fm → Bool} {xs : List Fm} {k : Nat} (h : k < xs.length) : (xs.drop k).all p = (p xs[k] && (xs.drop (k + 1)).all p) := by
  rw [List.drop_eq_getElem_cons h, List.all_cons]

end Go.Proofs.YtbnnjbfbifihaaaGreatDoor
