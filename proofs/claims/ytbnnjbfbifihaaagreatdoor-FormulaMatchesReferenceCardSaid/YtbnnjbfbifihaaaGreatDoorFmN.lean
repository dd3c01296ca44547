/-
  The nodes of a formula, each ahead of its arguments, with their depths and whether they stand within a past operator.
-/
import Derived.Test.YtbnnjbfbifihaaaGreatDoorFmT
namespace Go.Proofs.YtbnnjbfbifihaaaGreatDoor

/-- a node: the formula, its depth, whether it is within an argument of a past operator -/
abbrev PN := Fm × Nat × Bool

mutual
def nodesP : Fm → Nat → Bool → List PN
  | .mk o n v b a, d, p => (.mk o n v b a, d, p) :: nodesPL a (d + 1) (p || lateB o)
def nodesPL : List Fm → Nat → Bool → List PN
  | [], _, _ => []
  | f :: l, d, p => nodesP f d p ++ nodesPL l d p
end
theorem nodesP_eq (f : Fm) (d : Nat) (p : Bool) : nodesP f d p = (f, d, p) :: nodesPL f.args (d + 1) (p || lateB f.op) := by cases f; rw [nodesP]; rfl
theorem nodesPL_nil (d : Nat) (p : Bool) : nodesPL [] d p = [] := by rw [nodesPL]
theorem nodesPL_cons (f : Fm) (l : List Fm) (d : Nat) (p : Bool) : nodesPL (f :: l) d p = nodesP f d p ++ nodesPL l d p := by rw [nodesPL]
theorem nodesPL_append (a b : List Fm) (d : Nat) (p : Bool) : nodesPL (a ++ b) d p = nodesPL a d p ++ nodesPL b d p := by
  induction a with
  | nil => rw [nodesPL_nil]; rfl
  | cons x a ih => rw [List.cons_append, nodesPL_cons, nodesPL_cons, ih, List.append_assoc]
theorem nodesPL_take {l : List Fm} {k : Nat} (h : k < l.length) (d : Nat) (p : Bool) : nodesPL (l.take (k + 1)) d p = nodesPL (l.take k) d p ++ nodesP l[k] d p := by
  rw [List.take_succ_eq_append_getElem h, nodesPL_append, nodesPL_cons, nodesPL_nil, List.append_nil]
theorem nodesPL_split (l : List Fm) (k : Nat) (d : Nat) (p : Bool) : nodesPL (l.take k) d p ++ nodesPL (l.drop k) d p = nodesPL l d p := by
  rw [← nodesPL_append, List.take_append_drop]
theorem nodesP_length (f : Fm) : ∀ d p, (nodesP f d p).length = f.nodes := by
  induction f using Fm.ind with
  | h f ih =>
    intro d p
    rw [nodesP_eq, List.length_cons, Fm.nodes_eq]
    have : ∀ l : List Fm, (∀ g ∈ l, ∀ d p, (nodesP g d p).length = g.nodes) → ∀ d p, (nodesPL l d p).length = Fm.nodesL l := by
      intro l
      induction l with
      | nil => intro _ d p; rw [nodesPL_nil, Fm.nodesL_nil]; rfl
      | cons x l ih2 => intro h d p; rw [nodesPL_cons, List.length_append, h x (List.mem_cons_self ..), ih2 (fun g hg => h g (List.mem_cons_of_mem _ hg)), Fm.nodesL_cons]
    rw [this f.args ih]
    omega
theorem nodesPL_length (l : List Fm) (d : Nat) (p : Bool) : (nodesPL l d p).length = Fm.nodesL l := by
  induction l with
  | nil => rw [nodesPL_nil, Fm.nodesL_nil]; rfl
  | cons x l ih => rw [nodesPL_cons, List.length_append, ih, nodesP_length, Fm.nodesL_cons]

end Go.Proofs.YtbnnjbfbifihaaaGreatDoor
