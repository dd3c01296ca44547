/-
  What FormulaLattice says, of plain formulas: the canonical conjunctions and disjunctions of canonical forms are a lattice's.
-/
import Derived.Test.YtlkoacopknolnaaGreatDoorGi
import Derived.Test.YtlkoacopknolnaaGreatDoorFiR
namespace Go.Proofs.YtlkoacopknolnaaGreatDoor

theorem comb_eq {o : Int} (ho : gath o) {l : List Fm} (hl : ∀ x ∈ l, looseB x = true) (h1 : Fm.nodesL l ≤ 399) (h2 : Fm.depthL l ≤ 59) :
    combineF o l = normF o (flatF o (l.map canonF)) ∧ looseB (combineF o l) = true ∧ (combineF o l).nodes ≤ 1 + Fm.nodesL l ∧ (combineF o l).depth ≤ Fm.depthL l + 1 ∧ Can (combineF o l) := by
  have hall : l.all looseB = true := List.all_eq_true.2 hl
  have hn : ∀ x ∈ l, nodesB x = true := fun x hx => (loose_parts.1 (hl x hx)).2.2.1
  have hc : ∀ X ∈ l.map canonF, looseB X = true ∧ Can X := fun X hX => by
    obtain ⟨x, hx, rfl⟩ := List.mem_map.1 hX
    obtain ⟨-, -, h3, h4, -⟩ := loose_parts.1 (hl x hx)
    exact ⟨loose_canonF (hl x hx), can_canonF x h3 h4⟩
  have n1 := nodesL_canonF hn
  have n2 : Fm.depthL (l.map canonF) ≤ Fm.depthL l := depthL_le.2 fun X hX => by
    obtain ⟨x, hx, rfl⟩ := List.mem_map.1 hX
    exact Nat.le_trans (depth_canonF x (hn x hx)) (depthL_le.1 (Nat.le_refl _) x hx)
  have hj : looseB (joinF o (l.map canonF)) = true := loose_join ho (fun X hX => (loose_parts.1 (hc X hX).1).2.2) (by omega) (by omega)
  have e : combineF o l = joinF o (l.map canonF) := by unfold combineF; rw [if_pos hall, if_pos hj]
  rw [e]
  refine ⟨rfl, hj, ?_, ?_, ?_⟩
  · have := nodes_joinF o (l.map canonF); omega
  · rw [joinF_norm]
    have : ∀ x ∈ flatF o (l.map canonF), x.depth ≤ Fm.depthL l := depth_flat (depthL_le.1 n2)
    exact depth_norm this
  · rw [joinF_norm]; exact can_norm ho (flatF_can ho fun X hX => (hc X hX).2)
theorem comb_small (o : Int) (l : List Fm) : (combineF o l).nodes ≤ 400 := by
  unfold combineF
  split
  · split
    · next h => exact (loose_parts.1 h).1
    · decide
  · decide
theorem canonTop_loose {f : Fm} (h : looseB f = true) : canonTop f = canonF f := if_pos h
theorem canonTop_small (f : Fm) : (canonTop f).nodes ≤ 400 := by
  unfold canonTop
  split
  · next h => exact (loose_parts.1 (loose_canonF h)).1
  · decide

/-- a loose kernel that the law asks for -/
def LowP (f : Fm) : Prop := looseB f = true ∧ f.nodes ≤ 100 ∧ f.depth ≤ 50
/-- what a formula gives to a list, in its canonical form -/
def gives (o : Int) (f : Fm) : List Fm := flat1 o (canonF f)
theorem gives_can {o : Int} (ho : gath o) {f : Fm} (h : looseB f = true) : ∀ x ∈ gives o f, Can x ∧ x.op ≠ o :=
  flat1_can ho (can_canonF f (loose_parts.1 h).2.2.1 (loose_parts.1 h).2.2.2.1)
theorem app_can {o : Int} {s t : List Fm} (h1 : ∀ x ∈ s, Can x ∧ x.op ≠ o) (h2 : ∀ x ∈ t, Can x ∧ x.op ≠ o) : ∀ x ∈ s ++ t, Can x ∧ x.op ≠ o := fun x hx => (List.mem_append.1 hx).elim (h1 x) (h2 x)
theorem comb_two {o : Int} (ho : gath o) {f g : Fm} (hf : looseB f = true) (hg : looseB g = true) (h1 : f.nodes + g.nodes ≤ 399) (h2 : f.depth ≤ 59) (h3 : g.depth ≤ 59) :
    combineF o [f, g] = normF o (gives o f ++ gives o g) ∧ looseB (combineF o [f, g]) = true ∧ (combineF o [f, g]).nodes ≤ 1 + (f.nodes + g.nodes) ∧ (combineF o [f, g]).depth ≤ max f.depth g.depth + 1 ∧ Can (combineF o [f, g]) := by
  obtain ⟨e, q1, q2, q3, q4⟩ := comb_eq ho (l := [f, g]) (fun x hx => by
    simp only [List.mem_cons, List.not_mem_nil, or_false] at hx
    rcases hx with rfl | rfl <;> assumption) (by simp only [Fm.nodesL_cons, Fm.nodesL_nil]; omega) (by simp only [Fm.depthL_cons, Fm.depthL_nil]; omega)
  simp only [Fm.nodesL_cons, Fm.nodesL_nil, Fm.depthL_cons, Fm.depthL_nil] at q2 q3
  refine ⟨?_, q1, by omega, by omega, q4⟩
  rw [e]
  simp only [List.map_cons, List.map_nil, flatF_cons, flatF_nil, List.append_nil]
  rfl
theorem comb_comm {o : Int} (ho : gath o) {f g : Fm} (hf : LowP f) (hg : LowP g) : combineF o [g, f] = combineF o [f, g] := by
  obtain ⟨f1, f2, f3⟩ := hf
  obtain ⟨g1, g2, g3⟩ := hg
  rw [(comb_two ho f1 g1 (by omega) (by omega) (by omega)).1, (comb_two ho g1 f1 (by omega) (by omega) (by omega)).1]
  exact norm_same fun x => by simp only [List.mem_append]; exact or_comm
theorem comb_flat {o : Int} (ho : gath o) {f g : Fm} (hf : LowP f) (hg : LowP g) : gives o (combineF o [f, g]) = flat1 o (normF o (gives o f ++ gives o g)) := by
  obtain ⟨f1, f2, f3⟩ := hf
  obtain ⟨g1, g2, g3⟩ := hg
  obtain ⟨e, -, -, -, q⟩ := comb_two ho f1 g1 (by omega) (by omega) (by omega)
  unfold gives
  rw [canon_can _ q, e]
  rfl
theorem comb_left {o : Int} (ho : gath o) {f g h : Fm} (hf : LowP f) (hg : LowP g) (hh : LowP h) : combineF o [combineF o [f, g], h] = normF o (gives o f ++ gives o g ++ gives o h) := by
  have ef := comb_flat ho hf hg
  obtain ⟨f1, f2, f3⟩ := hf
  obtain ⟨g1, g2, g3⟩ := hg
  obtain ⟨h1, h2, h3⟩ := hh
  obtain ⟨e, q1, q2, q3, q4⟩ := comb_two ho f1 g1 (by omega) (by omega) (by omega)
  rw [(comb_two ho q1 h1 (by omega) (by omega) (by omega)).1, ef]
  exact norm_norm ho (app_can (gives_can ho f1) (gives_can ho g1)) fun x hx => (gives_can ho h1 x hx).1
theorem comb_right {o : Int} (ho : gath o) {f g h : Fm} (hf : LowP f) (hg : LowP g) (hh : LowP h) : combineF o [f, combineF o [g, h]] = normF o (gives o f ++ gives o g ++ gives o h) := by
  have ef := comb_flat ho hg hh
  obtain ⟨f1, f2, f3⟩ := hf
  obtain ⟨g1, g2, g3⟩ := hg
  obtain ⟨h1, h2, h3⟩ := hh
  obtain ⟨e, q1, q2, q3, q4⟩ := comb_two ho g1 h1 (by omega) (by omega) (by omega)
  rw [(comb_two ho f1 q1 (by omega) (by omega) (by omega)).1, ef]
  rw [norm_same (t := flat1 o (normF o (gives o g ++ gives o h)) ++ gives o f) fun x => by simp only [List.mem_append]; exact or_comm]
  rw [norm_norm ho (app_can (gives_can ho g1) (gives_can ho h1)) fun x hx => (gives_can ho f1 x hx).1]
  exact norm_same fun x => by simp only [List.mem_append]; constructor <;> rintro ((h | h) | h) <;> simp [h]
theorem comb_assoc {o : Int} (ho : gath o) {f g h : Fm} (hf : LowP f) (hg : LowP g) (hh : LowP h) : combineF o [combineF o [f, g], h] = combineF o [f, combineF o [g, h]] := by
  rw [comb_left ho hf hg hh, comb_right ho hf hg hh]
theorem comb_three {o : Int} (ho : gath o) {f g h : Fm} (hf : LowP f) (hg : LowP g) (hh : LowP h) : combineF o [f, g, h] = combineF o [combineF o [f, g], h] := by
  rw [comb_left ho hf hg hh]
  obtain ⟨f1, f2, f3⟩ := hf
  obtain ⟨g1, g2, g3⟩ := hg
  obtain ⟨h1, h2, h3⟩ := hh
  rw [(comb_eq ho (l := [f, g, h]) (fun x hx => by
    simp only [List.mem_cons, List.not_mem_nil, or_false] at hx
    rcases hx with rfl | rfl | rfl <;> assumption) (by simp only [Fm.nodesL_cons, Fm.nodesL_nil]; omega) (by simp only [Fm.depthL_cons, Fm.depthL_nil]; omega)).1]
  simp only [List.map_cons, List.map_nil, flatF_cons, flatF_nil, List.append_nil]
  rw [← List.append_assoc]
  rfl
theorem comb_self {o : Int} (ho : gath o) {f : Fm} (hf : LowP f) : combineF o [f, f] = canonTop f := by
  obtain ⟨f1, f2, f3⟩ := hf
  rw [(comb_two ho f1 f1 (by omega) (by omega) (by omega)).1, canonTop_loose f1, norm_same (t := gives o f) fun x => by simp]
  exact norm_one ho (can_canonF f (loose_parts.1 f1).2.2.1 (loose_parts.1 f1).2.2.2.1)
theorem loose_const {o : Int} (ho : o = 1 ∨ o = 2) : looseB (mkOp o []) = true ∧ canonF (mkOp o []) = mkOp o [] ∧ (mkOp o []).nodes = 1 ∧ (mkOp o []).depth = 1 := by
  have hn : (mkOp o []).nodes = 1 := by rw [nodes_mkOp, Fm.nodesL_nil]
  have hd : (mkOp o []).depth = 1 := by rw [depth_mkOp, Fm.depthL_nil]
  refine ⟨loose_parts.2 ⟨by omega, by omega, ?_, ?_, ?_⟩, canon_can _ (can_const ?_ rfl), hn, hd⟩
  · rcases ho with rfl | rfl
    · exact nodes_true
    · exact nodes_false
  all_goals rcases ho with rfl | rfl <;> rfl
theorem comb_unit {o : Int} (ho : gath o) {f : Fm} (hf : LowP f) : combineF o [f, unitF o] = canonTop f ∧ combineF o [unitF o, f] = canonTop f := by
  have hu : ∃ k, (k = 1 ∨ k = 2) ∧ unitF o = mkOp k [] := ho.elim (fun e => by subst e; exact ⟨1, .inl rfl, rfl⟩) (fun e => by subst e; exact ⟨2, .inr rfl, rfl⟩)
  obtain ⟨k, hk, hue⟩ := hu
  obtain ⟨u1, u2, u3, u4⟩ := loose_const hk
  rw [← hue] at u1 u2 u3 u4
  obtain ⟨f1, f2, f3⟩ := hf
  have hg : gives o (unitF o) = [unitF o] := by unfold gives; rw [u2, flat1_not (unit_op ho).1]
  have hc : ∀ x ∈ gives o f, Can x := fun x hx => (gives_can ho f1 x hx).1
  have hcu := can_unit ho
  have hone := norm_one ho (can_canonF f (loose_parts.1 f1).2.2.1 (loose_parts.1 f1).2.2.2.1)
  have hall : ∀ x ∈ gives o f ++ [unitF o], Can x := fun x hx => by
    rcases List.mem_append.1 hx with hx | hx
    · exact hc x hx
    · obtain rfl : x = unitF o := by simpa using hx
      exact hcu
  have key : normF o (gives o f ++ [unitF o]) = canonTop f := by
    rw [canonTop_loose f1, norm_units ho hall hc fun x hx => by simp [hx]]
    exact hone
  constructor
  · rw [(comb_two ho f1 u1 (by omega) (by omega) (by omega)).1, hg, key]
  · rw [(comb_two ho u1 f1 (by omega) (by omega) (by omega)).1, hg, ← key]
    exact norm_same fun x => by simp only [List.mem_append]; exact or_comm
theorem comb_null {o : Int} (ho : gath o) {f : Fm} (hf : LowP f) : combineF o [f, nullF o] = nullF o ∧ combineF o [nullF o, f] = nullF o := by
  have hu : ∃ k, (k = 1 ∨ k = 2) ∧ nullF o = mkOp k [] := ho.elim (fun e => by subst e; exact ⟨2, .inr rfl, rfl⟩) (fun e => by subst e; exact ⟨1, .inl rfl, rfl⟩)
  obtain ⟨k, hk, hue⟩ := hu
  obtain ⟨u1, u2, u3, u4⟩ := loose_const hk
  rw [← hue] at u1 u2 u3 u4
  obtain ⟨f1, f2, f3⟩ := hf
  have hg : gives o (nullF o) = [nullF o] := by unfold gives; rw [u2, flat1_not (null_op ho).1]
  constructor
  · rw [(comb_two ho f1 u1 (by omega) (by omega) (by omega)).1, hg, norm_bad (by simp)]
  · rw [(comb_two ho u1 f1 (by omega) (by omega) (by omega)).1, hg, norm_bad (by simp)]
theorem comb_nil {o : Int} (ho : gath o) : combineF o [] = unitF o := by
  rw [(comb_eq ho (l := []) (fun x hx => by cases hx) (by rw [Fm.nodesL_nil]; omega) (by rw [Fm.depthL_nil]; omega)).1]
  rcases ho with rfl | rfl <;> rfl

end Go.Proofs.YtlkoacopknolnaaGreatDoor
