/-
  Numbers of a formula: nodes, depth; the capped number of nodes.
-/
import Derived.Test.YtbnnjbfbifihaaaGreatDoorFmP
namespace Go.Proofs.YtbnnjbfbifihaaaGreatDoor
namespace Fm

mutual
/-- the number of nodes -/
def nodes : Fm → Nat | .mk _ _ _ _ a => 1 + nodesL a
def nodesL : List Fm → Nat | [] => 0 | f :: l => f.nodes + nodesL l
end
mutual
/-- the depth -/
def depth : Fm → Nat | .mk _ _ _ _ a => depthL a + 1
def depthL : List Fm → Nat | [] => 0 | f :: l => max f.depth (depthL l)
end

theorem nodes_eq (f : Fm) : f.nodes = 1 + nodesL f.args := by cases f; rw [nodes]; rfl
theorem depth_eq (f : Fm) : f.depth = depthL f.args + 1 := by cases f; rw [depth]; rfl
theorem nodes_pos (f : Fm) : 0 < f.nodes := by rw [nodes_eq]; omega
theorem depth_pos (f : Fm) : 0 < f.depth := by rw [depth_eq]; omega
theorem nodesL_nil : nodesL [] = 0 := by rw [nodesL]
theorem nodesL_cons (f : Fm) (l : List Fm) : nodesL (f :: l) = f.nodes + nodesL l := by rw [nodesL]
theorem depthL_nil : depthL [] = 0 := by rw [depthL]
theorem depthL_cons (f : Fm) (l : List Fm) : depthL (f :: l) = max f.depth (depthL l) := by rw [depthL]
theorem nodesL_append (a b : List Fm) : nodesL (a ++ b) = nodesL a + nodesL b := by
  induction a with
  | nil => rw [nodesL_nil]; simp
  | cons x a ih => rw [List.cons_append, nodesL_cons, nodesL_cons, ih]; omega
theorem depthL_append (a b : List Fm) : depthL (a ++ b) = max (depthL a) (depthL b) := by
  induction a with
  | nil => rw [depthL_nil]; simp
  | cons x a ih => rw [List.cons_append, depthL_cons, depthL_cons, ih]; omega
theorem nodesL_take {l : List Fm} {k : Nat} (h : k < l.length) : nodesL (l.take (k + 1)) = nodesL (l.take k) + l[k].nodes := by
  rw [List.take_succ_eq_append_getElem h, nodesL_append, nodesL_cons, nodesL_nil]; omega
theorem depthL_take {l : List Fm} {k : Nat} (h : k < l.length) : depthL (l.take (k + 1)) = max (depthL (l.take k)) l[k].depth := by
  rw [List.take_succ_eq_append_getElem h, depthL_append, depthL_cons, depthL_nil]; omega
theorem nodesL_take_le (l : List Fm) (k : Nat) : nodesL (l.take k) ≤ nodesL l := by
  have := nodesL_append (l.take k) (l.drop k)
  rw [List.take_append_drop] at this
  omega
theorem depthL_take_le (l : List Fm) (k : Nat) : depthL (l.take k) ≤ depthL l := by
  have := depthL_append (l.take k) (l.drop k)
  rw [List.take_append_drop] at this
  omega
theorem nodes_get {l : List Fm} {k : Nat} (h : k < l.length) : l[k].nodes ≤ nodesL l := by
  have := nodesL_take h
  have := nodesL_take_le l (k + 1)
  omega
theorem depth_get {l : List Fm} {k : Nat} (h : k < l.length) : l[k].depth ≤ depthL l := by
  have := depthL_take h
  have := depthL_take_le l (k + 1)
  omega
theorem depth_le_nodes (f : Fm) : f.depth ≤ f.nodes := by
  induction f using Fm.ind with
  | h f ih =>
    rw [nodes_eq, depth_eq]
    have : ∀ l : List Fm, (∀ g ∈ l, g.depth ≤ g.nodes) → depthL l ≤ nodesL l := by
      intro l
      induction l with
      | nil => intro _; rw [depthL_nil]; omega
      | cons x l ih => intro h; rw [depthL_cons, nodesL_cons]; have := ih (fun g hg => h g (List.mem_cons_of_mem _ hg)); have := h x (List.mem_cons_self ..); omega
    have := this f.args ih
    omega
theorem length_le_nodes (l : List Fm) : l.length ≤ nodesL l := by
  induction l with
  | nil => simp
  | cons x l ih => rw [nodesL_cons, List.length_cons]; have := x.nodes_pos; omega

end Fm
end Go.Proofs.YtbnnjbfbifihaaaGreatDoor
