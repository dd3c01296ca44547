/-
  What a formula says whose operator kernels do not have: the same forms, well-formed.
-/
import Derived.Test.YtbnnjbfbifihaaaGreatDoorFmF
namespace Go.Proofs.YtbnnjbfbifihaaaGreatDoor

/-- the operators that are said by others -/
def saidOp (o : Int) : Prop := o = 7 ∨ o = 11 ∨ o = 12 ∨ o = 13 ∨ o = 14 ∨ o = 18 ∨ o = 19
theorem op_parts {o : Int} (h : 1 ≤ o ∧ o ≤ 19) : plainOp o ∨ o = 4 ∨ saidOp o := by unfold plainOp saidOp; omega
theorem said_dual {o : Int} (h : saidOp o) : fDual o.toNat = 0 ∧ o ≠ 4 := by rcases h with rfl | rfl | rfl | rfl | rfl | rfl | rfl <;> exact ⟨by rfl, by decide⟩

theorem args_one_of {f : Fm} (hn : nodeB f = true) (h : fLeast f.op.toNat = 1) (h' : fMost f.op.toNat = 1) : ∃ x, f.args = [x] := by
  obtain ⟨-, -, -, -, -, h6, h7⟩ := nodeB_flds hn
  rw [h] at h6; rw [h'] at h7
  match hA : f.args with
  | [] => rw [hA] at h6; simp at h6
  | [x] => exact ⟨x, rfl⟩
  | x :: y :: l => rw [hA] at h7; simp at h7; omega
theorem args_two_of {f : Fm} (hn : nodeB f = true) (h : fLeast f.op.toNat = 2) (h' : fMost f.op.toNat = 2) : ∃ x y, f.args = [x, y] := by
  obtain ⟨-, -, -, -, -, h6, h7⟩ := nodeB_flds hn
  rw [h] at h6; rw [h'] at h7
  match hA : f.args with
  | [] => rw [hA] at h6; simp at h6
  | [x] => rw [hA] at h6; simp at h6
  | [x, y] => exact ⟨x, y, rfl⟩
  | x :: y :: z :: l => rw [hA] at h7; simp at h7; omega

theorem said_one {f : Fm} (hn : nodeB f = true) (h : f.op = 11 ∨ f.op = 12 ∨ f.op = 13 ∨ f.op = 14 ∨ f.op = 18 ∨ f.op = 19) : ∃ x, f.args = [x] := by
  rcases h with h | h | h | h | h | h <;> exact args_one_of hn (by rw [h]; rfl) (by rw [h]; rfl)

theorem toNat_succ {b : Int} (h0 : 0 ≤ b) (h : b ≠ 0) : b.toNat = (b - 1).toNat + 1 := by omega

theorem mean_form {f : Fm} (hn : nodeB f = true) (h : saidOp f.op) (neg : Bool) : formP (meanF f) neg = formP f neg := by
  obtain ⟨h1, h2, h3, h4, h5, h6, h7⟩ := nodeB_flds hn
  have e1 : f.name = ⟨#[]⟩ := h1 (by rcases h with h | h | h | h | h | h | h <;> rw [h] <;> decide)
  obtain ⟨o, nm, v, b, a⟩ := f
  simp only [Fm.op, Fm.name, Fm.val, Fm.bound, Fm.args] at *
  subst e1
  rcases h with rfl | rfl | rfl | rfl | rfl | rfl | rfl
  · obtain ⟨x, y, rfl⟩ := args_two_of hn (by rfl) (by rfl)
    cases neg <;> simp [meanF, Fm.op, Fm.args, mkOp, formP, formPL, formN, dualN]
  · obtain ⟨x, rfl⟩ := said_one hn (by simp [Fm.op])
    cases neg <;> simp [meanF, Fm.op, Fm.args, mkOp, formP, formPL, formN, dualN]
  · obtain ⟨x, rfl⟩ := said_one hn (by simp [Fm.op])
    cases neg <;> simp [meanF, Fm.op, Fm.args, mkOp, formP, formPL, formN, dualN]
  · obtain ⟨x, rfl⟩ := said_one hn (by simp [Fm.op])
    by_cases hb : b = 0
    · subst hb
      cases neg <;> simp [meanF, Fm.op, Fm.args, Fm.bound, mkOp, formP, formPL, formN, repF]
    · have e := toNat_succ h4 hb
      obtain ⟨m, hm⟩ : ∃ m, (b - 1).toNat = m := ⟨_, rfl⟩
      rw [hm] at e
      cases neg <;> simp [meanF, Fm.op, Fm.args, Fm.bound, mkOp, formP, formPL, formN, dualN, hb, e, hm, repF]
  · obtain ⟨x, rfl⟩ := said_one hn (by simp [Fm.op])
    by_cases hb : b = 0
    · subst hb
      cases neg <;> simp [meanF, Fm.op, Fm.args, Fm.bound, mkOp, formP, formPL, formN, repF]
    · have e := toNat_succ h4 hb
      obtain ⟨m, hm⟩ : ∃ m, (b - 1).toNat = m := ⟨_, rfl⟩
      rw [hm] at e
      cases neg <;> simp [meanF, Fm.op, Fm.args, Fm.bound, mkOp, formP, formPL, formN, dualN, hb, e, hm, repF]
  · obtain ⟨x, rfl⟩ := said_one hn (by simp [Fm.op])
    cases neg <;> simp [meanF, Fm.op, Fm.args, mkOp, mkLate, formP, formPL, formN, dualN]
  · obtain ⟨x, rfl⟩ := said_one hn (by simp [Fm.op])
    cases neg <;> simp [meanF, Fm.op, Fm.args, mkOp, mkLate, formP, formPL, formN, dualN]

theorem nodes_mk {f : Fm} (h : nodeB f = true) (ha : ∀ x ∈ f.args, nodesB x = true) : nodesB f = true := Fm.all_mk h ha
theorem nodes_true : nodesB (mkOp 1 []) = true := nodes_mk (by simp [nodeB, knownB, btwB, nameOkB, fNamed, fVal, fBound, fLeast, fMost, formRow, formsRows, ByteArray.toList_eq, mkOp, Fm.op, Fm.name, Fm.val, Fm.bound, Fm.args]) (by intro x h; cases h)
theorem nodes_false : nodesB (mkOp 2 []) = true := nodes_mk (by simp [nodeB, knownB, btwB, nameOkB, fNamed, fVal, fBound, fLeast, fMost, formRow, formsRows, ByteArray.toList_eq, mkOp, Fm.op, Fm.name, Fm.val, Fm.bound, Fm.args]) (by intro x h; cases h)
theorem nodes_two {o v : Int} {x y : Fm} (ho : o = 5 ∨ o = 6 ∨ o = 9 ∨ o = 10 ∨ o = 16 ∨ o = 17) (hv : v = 0 ∨ (v = 1 ∧ o = 17)) (hx : nodesB x = true) (hy : nodesB y = true) : nodesB (.mk o ⟨#[]⟩ v 0 [x, y]) = true := by
  refine nodes_mk ?_ (by intro z hz; simp only [Fm.args, List.mem_cons, List.not_mem_nil, or_false] at hz; rcases hz with rfl | rfl <;> assumption)
  rcases ho with rfl | rfl | rfl | rfl | rfl | rfl <;> rcases hv with rfl | ⟨rfl, hv⟩ <;> first | (cases hv; done) | (simp [nodeB, knownB, btwB, nameOkB, fNamed, fVal, fBound, fLeast, fMost, formRow, formsRows, ByteArray.toList_eq, Fm.op, Fm.name, Fm.val, Fm.bound, Fm.args]; done)
theorem nodes_one {o : Int} {x : Fm} (ho : o = 4 ∨ o = 8) (hx : nodesB x = true) : nodesB (mkOp o [x]) = true := by
  refine nodes_mk ?_ (by intro z hz; simp only [mkOp, Fm.args, List.mem_cons, List.not_mem_nil, or_false] at hz; subst hz; exact hx)
  rcases ho with rfl | rfl <;> simp [nodeB, knownB, btwB, nameOkB, fNamed, fVal, fBound, fLeast, fMost, formRow, formsRows, ByteArray.toList_eq, mkOp, Fm.op, Fm.name, Fm.val, Fm.bound, Fm.args]
theorem nodes_bnd {o b : Int} {x : Fm} (ho : o = 13 ∨ o = 14) (hb : 0 ≤ b) (hb2 : b ≤ 9) (hx : nodesB x = true) : nodesB (.mk o ⟨#[]⟩ 0 b [x]) = true := by
  refine nodes_mk ?_ (by intro z hz; simp only [Fm.args, List.mem_cons, List.not_mem_nil, or_false] at hz; subst hz; exact hx)
  rcases ho with rfl | rfl <;> simp [nodeB, knownB, btwB, nameOkB, fNamed, fVal, fBound, fLeast, fMost, formRow, formsRows, ByteArray.toList_eq, Fm.op, Fm.name, Fm.val, Fm.bound, Fm.args, hb, hb2]

/-- how far a formula is from one with an operator of kernels other than OpNot -/
def farF (f : Fm) : Nat := if f.op = 1 ∨ f.op = 2 ∨ f.op = 3 ∨ f.op = 5 ∨ f.op = 6 ∨ f.op = 8 ∨ f.op = 9 ∨ f.op = 10 ∨ f.op = 15 ∨ f.op = 16 ∨ f.op = 17 then 0 else f.nodes
theorem far_le (f : Fm) : farF f ≤ f.nodes := by unfold farF; split <;> omega
theorem far_zero {f : Fm} (h : plainOp f.op) : farF f = 0 := if_pos h
theorem far_pos {f : Fm} (h : ¬ plainOp f.op) : farF f = f.nodes := if_neg h

/-- it stays well-formed, and comes nearer -/
theorem mean_ok {f : Fm} (hn : nodesB f = true) (h : saidOp f.op) : nodesB (meanF f) = true ∧ farF (meanF f) < farF f := by
  have hn0 := nodesB_self hn
  obtain ⟨h1, h2, h3, h4, h5, h6, h7⟩ := nodeB_flds hn0
  have hfar : farF f = f.nodes := far_pos (by intro hp; unfold plainOp at hp; unfold saidOp at h; omega)
  have hpos := f.nodes_pos
  have harg : ∀ x ∈ f.args, nodesB x = true := fun x hx => nodesB_arg hn hx
  have e1 : f.name = ⟨#[]⟩ := h1 (by rcases h with h | h | h | h | h | h | h <;> rw [h] <;> decide)
  have hlt : ∀ x ∈ f.args, x.nodes < f.nodes := fun x hx => by
    obtain ⟨k, hk, rfl⟩ := List.getElem_of_mem hx
    have := Fm.nodes_get hk
    rw [f.nodes_eq]; omega
  rcases h with h | h | h | h | h | h | h
  · obtain ⟨x, y, ha⟩ := args_two_of hn0 (by rw [h]; rfl) (by rw [h]; rfl)
    have hx := harg x (by rw [ha]; simp)
    have hy := harg y (by rw [ha]; simp)
    have e : meanF f = mkOp 6 [mkOp 4 [x], y] := by simp [meanF, h, ha]
    rw [e]
    exact ⟨nodes_two (by omega) (.inl rfl) (nodes_one (.inl rfl) hx) hy, by rw [far_zero (by unfold plainOp; simp [mkOp, Fm.op])]; omega⟩
  · obtain ⟨x, ha⟩ := said_one hn0 (by omega)
    have hx := harg x (by rw [ha]; simp)
    have e : meanF f = mkOp 9 [mkOp 1 [], x] := by simp [meanF, h, ha]
    rw [e]
    exact ⟨nodes_two (by omega) (.inl rfl) nodes_true hx, by rw [far_zero (by unfold plainOp; simp [mkOp, Fm.op])]; omega⟩
  · obtain ⟨x, ha⟩ := said_one hn0 (by omega)
    have hx := harg x (by rw [ha]; simp)
    have e : meanF f = mkOp 10 [mkOp 2 [], x] := by simp [meanF, h, ha]
    rw [e]
    exact ⟨nodes_two (by omega) (.inl rfl) nodes_false hx, by rw [far_zero (by unfold plainOp; simp [mkOp, Fm.op])]; omega⟩
  · obtain ⟨x, ha⟩ := said_one hn0 (by omega)
    have hx := harg x (by rw [ha]; simp)
    have h9 : f.bound ≤ 9 := by rw [h] at h5; exact h5
    by_cases hb : f.bound = 0
    · have e : meanF f = x := by simp [meanF, h, ha, hb]
      rw [e]
      exact ⟨hx, Nat.lt_of_le_of_lt (far_le x) (by rw [hfar]; exact hlt x (by rw [ha]; simp))⟩
    · have e : meanF f = mkOp 6 [x, mkOp 8 [.mk 13 ⟨#[]⟩ 0 (f.bound - 1) [x]]] := by simp [meanF, h, ha, hb]
      rw [e]
      exact ⟨nodes_two (by omega) (.inl rfl) hx (nodes_one (.inr rfl) (nodes_bnd (.inl rfl) (by omega) (by omega) hx)), by rw [far_zero (by unfold plainOp; simp [mkOp, Fm.op])]; omega⟩
  · obtain ⟨x, ha⟩ := said_one hn0 (by omega)
    have hx := harg x (by rw [ha]; simp)
    have h9 : f.bound ≤ 9 := by rw [h] at h5; exact h5
    by_cases hb : f.bound = 0
    · have e : meanF f = x := by simp [meanF, h, ha, hb]
      rw [e]
      exact ⟨hx, Nat.lt_of_le_of_lt (far_le x) (by rw [hfar]; exact hlt x (by rw [ha]; simp))⟩
    · have e : meanF f = mkOp 5 [x, mkOp 8 [.mk 14 ⟨#[]⟩ 0 (f.bound - 1) [x]]] := by simp [meanF, h, ha, hb]
      rw [e]
      exact ⟨nodes_two (by omega) (.inl rfl) hx (nodes_one (.inr rfl) (nodes_bnd (.inr rfl) (by omega) (by omega) hx)), by rw [far_zero (by unfold plainOp; simp [mkOp, Fm.op])]; omega⟩
  · obtain ⟨x, ha⟩ := said_one hn0 (by omega)
    have hx := harg x (by rw [ha]; simp)
    have e : meanF f = mkLate 16 0 [mkOp 1 [], x] := by simp [meanF, h, ha]
    rw [e]
    exact ⟨nodes_two (by omega) (.inl rfl) nodes_true hx, by rw [far_zero (by unfold plainOp; simp [mkLate, Fm.op])]; omega⟩
  · obtain ⟨x, ha⟩ := said_one hn0 (by omega)
    have hx := harg x (by rw [ha]; simp)
    have e : meanF f = mkLate 17 1 [mkOp 2 [], x] := by simp [meanF, h, ha]
    rw [e]
    exact ⟨nodes_two (by omega) (.inr ⟨rfl, rfl⟩) nodes_false hx, by rw [far_zero (by unfold plainOp; simp [mkLate, Fm.op])]; omega⟩

end Go.Proofs.YtbnnjbfbifihaaaGreatDoor
