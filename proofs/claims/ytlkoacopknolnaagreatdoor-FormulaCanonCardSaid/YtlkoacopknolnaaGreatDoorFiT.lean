/-
  What FormulaCanon says, of plain formulas: the order, repetition and nesting of arguments do not matter to canonical forms.
-/
import Derived.Test.YtlkoacopknolnaaGreatDoorFiR
namespace Go.Proofs.YtlkoacopknolnaaGreatDoor

/-- the last formula of a list twice, nested -/
def nestF (o : Int) (r : List Fm) : List Fm := r.dropLast ++ [mkOp o [r.getLastD zeroF, r.getLastD zeroF]]
/-- a node with reversed arguments, given those -/
def revN (o : Int) (n : ByteArray) (v b : Int) (l : List Fm) : Fm :=
  if o = 5 ∨ o = 6 then (if l.length ≤ 4 then .mk o n v b (nestF o l.reverse) else .mk o n v b l.reverse) else .mk o n v b l
mutual
/-- the arguments of conjunctions and disjunctions in the opposite order, the last one twice -/
def revF : Fm → Fm | .mk o n v b a => revN o n v b (revL a)
def revL : List Fm → List Fm | [] => [] | x :: l => revF x :: revL l
end
theorem revL_map (l : List Fm) : revL l = l.map revF := by
  induction l with
  | nil => rw [revL]; rfl
  | cons x l ih => rw [revL, ih]; rfl
theorem revF_eq (f : Fm) : revF f = revN f.op f.name f.val f.bound (f.args.map revF) := by cases f; rw [revF, revL_map]; rfl

theorem mem_flat_rev {o : Int} {l : List Fm} {x : Fm} : x ∈ flatF o l.reverse ↔ x ∈ flatF o l := by
  unfold flatF
  simp only [List.mem_flatMap, List.mem_reverse]
theorem flatF_append (o : Int) (a b : List Fm) : flatF o (a ++ b) = flatF o a ++ flatF o b := by simp [flatF]
theorem canon_gath {o : Int} (ho : gath o) (n : ByteArray) (v b : Int) (l : List Fm) : canonF (.mk o n v b l) = normF o (flatF o (l.map canonF)) := by
  rw [canonF_eq]
  unfold canonN
  rw [if_pos (show (Fm.mk o n v b l).op = 5 ∨ (Fm.mk o n v b l).op = 6 from ho)]
  rfl
theorem canon_nest {o : Int} (ho : gath o) {r : List Fm} (hr : r ≠ []) (hc : ∀ x ∈ r, Can (canonF x)) : normF o (flatF o ((nestF o r).map canonF)) = normF o (flatF o (r.map canonF)) := by
  have e : r = r.dropLast ++ [r.getLast hr] := (List.dropLast_concat_getLast hr).symm
  have hd : r.getLastD zeroF = r.getLast hr := by rw [List.getLastD_eq_getLast?, List.getLast?_eq_some_getLast hr]; rfl
  unfold nestF
  rw [hd]
  have hlast : Can (canonF (r.getLast hr)) := hc _ (List.getLast_mem hr)
  have hinit : ∀ x ∈ r.dropLast, Can (canonF x) := fun x hx => hc x ((List.dropLast_sublist _).subset hx)
  conv => rhs; rw [e]
  generalize r.getLast hr = y at hlast
  generalize r.dropLast = i at hinit
  rw [List.map_append, List.map_append, flatF_append, flatF_append]
  have e1 : canonF (mkOp o [y, y]) = normF o (flat1 o (canonF y) ++ flat1 o (canonF y)) := by
    rw [mkOp, canon_gath ho]
    simp only [List.map_cons, List.map_nil, flatF_cons, flatF_nil, List.append_nil]
  simp only [List.map_cons, List.map_nil, flatF_cons, flatF_nil, List.append_nil]
  rw [e1]
  have hi : ∀ x ∈ flatF o (i.map canonF), Can x := fun x hx => (flatF_can ho (fun z hz => by
    obtain ⟨q, hq, rfl⟩ := List.mem_map.1 hz
    exact hinit q hq) x hx).1
  rw [norm_same (t := flat1 o (normF o (flat1 o (canonF y) ++ flat1 o (canonF y))) ++ flatF o (i.map canonF)) fun x => by simp only [List.mem_append]; exact or_comm]
  rw [norm_norm ho (fun x hx => (List.mem_append.1 hx).elim (flat1_can ho hlast x) (flat1_can ho hlast x)) hi]
  exact norm_same fun x => by simp only [List.mem_append]; constructor <;> intro h <;> (first | (rcases h with (h | h) | h <;> simp [h]) | (rcases h with h | h <;> simp [h]))
/-- reversed formulas have the same canonical form -/
theorem canon_rev (f : Fm) : nodesB f = true → coreB f = true → canonF (revF f) = canonF f := by
  induction f using Fm.ind with
  | h f ih =>
    intro h hc
    have hm : (f.args.map revF).map canonF = f.args.map canonF := by
      rw [List.map_map]
      exact List.map_congr_left fun x hx => ih x hx (nodesB_arg h hx) (Fm.all_arg hc hx)
    have hcan : ∀ x ∈ f.args.map revF, Can (canonF x) := fun X hX => by
      obtain ⟨x, hx, rfl⟩ := List.mem_map.1 hX
      rw [ih x hx (nodesB_arg h hx) (Fm.all_arg hc hx)]
      exact can_canonF x (nodesB_arg h hx) (Fm.all_arg hc hx)
    have hn := nodesB_self h
    rw [revF_eq]
    by_cases ho : gath f.op
    · have hlen : f.args ≠ [] := by
        intro h0
        have := (nodeB_len hn).1
        rw [h0] at this
        rcases ho with ho | ho <;> rw [ho] at this
        · have h1 : fLeast (5 : Int).toNat = 2 := rfl
          rw [h1] at this; simp at this
        · have h1 : fLeast (6 : Int).toNat = 2 := rfl
          rw [h1] at this; simp at this
      have hr : normF f.op (flatF f.op ((f.args.map revF).reverse.map canonF)) = normF f.op (flatF f.op (f.args.map canonF)) := by
        rw [List.map_reverse, hm]
        exact norm_same fun x => mem_flat_rev
      have e0 : canonF f = normF f.op (flatF f.op (f.args.map canonF)) := by
        conv => lhs; rw [Fm.eta f]
        exact canon_gath ho _ _ _ _
      unfold revN
      rw [if_pos (show f.op = 5 ∨ f.op = 6 from ho), e0, ← hr]
      split
      · rw [canon_gath ho]
        exact canon_nest ho (by simpa using hlen) fun x hx => hcan x (List.mem_reverse.1 hx)
      · rw [canon_gath ho]
    · unfold revN
      rw [if_neg (show ¬ (f.op = 5 ∨ f.op = 6) from ho), canonF_eq, canonF_eq f]
      show canonN f.op f.name f.val f.bound ((f.args.map revF).map canonF) = _
      rw [hm]
theorem canon_twice {f : Fm} (h : looseB f = true) : canonF (canonF f) = canonF f :=
  canon_can _ (can_canonF f (loose_parts.1 h).2.2.1 (loose_parts.1 h).2.2.2.1)

end Go.Proofs.YtlkoacopknolnaaGreatDoor
