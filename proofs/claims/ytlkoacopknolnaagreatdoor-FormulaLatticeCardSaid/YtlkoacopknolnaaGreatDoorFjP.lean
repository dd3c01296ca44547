/-
  The walk of the law FormulaLattice, given the contract of the law's head.
-/
import Derived.Test.YtlkoacopknolnaaGreatDoorFjC
import Derived.Test.YtlkoacopknolnaaGreatDoorFjL
import Derived.Test.YtlkoacopknolnaaGreatDoorFjM
import Derived.Test.YtlkoacopknolnaaGreatDoorFjN
import Derived.Test.YtlkoacopknolnaaGreatDoorFjO
import Derived.Test.YtlkoacopknolnaaGreatDoorFsC
namespace Go.Proofs.YtlkoacopknolnaaGreatDoor
open Go.RowKit

theorem lowB_nodes {f : Fm} (h : lowB f = true) : LowP f := by
  unfold lowB at h
  simp only [Bool.and_eq_true, decide_eq_true_eq] at h
  exact ⟨h.2, h.1.1, h.1.2⟩

set_option maxRecDepth 100000 in
set_option maxHeartbeats 8000000 in
theorem lat_high0 (hd : HeadOk) (f g h : Fm) (v1 v2 v3 : Value) (w : World) (hE : Env w) (h1 : FAt w.heap.size w v1 f) (h2 : FAt w.heap.size w v2 g) (h3 : FAt w.heap.size w v3 h) (s1 : Hid (lowB f = false)) :
    Calls Tryz.prog 10 #[v1, v2, v3] w fun e w' => e = .returned (.bool true) ∧ Below w.heap.size w w' := by
  obtain ⟨o1, c1, o2, c2, o3, c3, rfl, rfl, rfl, W0, hW0, HB, B3, B4, B5⟩ := bx3_open h1 h2 h3
  have hEc : Env W0 := hE.below HB
  go_enter Tryz.func10, Tryz.ntmps10
  go_wp2_with fail
  unfold boxO at hW0
  rw [hW0.out]
  refine (hd _ hEc).mono ?_
  rintro e V1 ⟨rfl, hs⟩
  replace B3 := hidi (B3.out.below hs)
  replace B4 := hidi (B4.out.below hs)
  replace B5 := hidi (B5.out.below hs)
  replace HB := HB.trans (hs.mono HB.size)
  replace hEc := hEc.below hs
  obtain ⟨o3, c3, ⟨d30, d31, d32, d33, d34⟩, q3⟩ := B3.out.cells
  go_wp2_with fail
  clear d30 d31 d32 d33 d34
  refine (low_any f V1.heap.size _ V1 (fm_at q3) (Nat.le_refl _)).mono ?_
  rintro e V2 ⟨rfl, hs⟩
  rw [s1.out]
  replace B3 := hidi (B3.out.below hs)
  replace B4 := hidi (B4.out.below hs)
  replace B5 := hidi (B5.out.below hs)
  replace HB := HB.trans (hs.mono HB.size)
  replace hEc := hEc.below hs
  go_wp2_with fail
  go_ret
  exact ⟨rfl, HB⟩

set_option maxRecDepth 100000 in
set_option maxHeartbeats 8000000 in
theorem lat_high1 (hd : HeadOk) (f g h : Fm) (v1 v2 v3 : Value) (w : World) (hE : Env w) (h1 : FAt w.heap.size w v1 f) (h2 : FAt w.heap.size w v2 g) (h3 : FAt w.heap.size w v3 h) (s1 : Hid (lowB f = true)) (s2 : Hid (lowB g = false)) :
    Calls Tryz.prog 10 #[v1, v2, v3] w fun e w' => e = .returned (.bool true) ∧ Below w.heap.size w w' := by
  obtain ⟨o1, c1, o2, c2, o3, c3, rfl, rfl, rfl, W0, hW0, HB, B3, B4, B5⟩ := bx3_open h1 h2 h3
  have hEc : Env W0 := hE.below HB
  go_enter Tryz.func10, Tryz.ntmps10
  go_wp2_with fail
  unfold boxO at hW0
  rw [hW0.out]
  refine (hd _ hEc).mono ?_
  rintro e V1 ⟨rfl, hs⟩
  replace B3 := hidi (B3.out.below hs)
  replace B4 := hidi (B4.out.below hs)
  replace B5 := hidi (B5.out.below hs)
  replace HB := HB.trans (hs.mono HB.size)
  replace hEc := hEc.below hs
  obtain ⟨o3, c3, ⟨d30, d31, d32, d33, d34⟩, q3⟩ := B3.out.cells
  go_wp2_with fail
  clear d30 d31 d32 d33 d34
  refine (low_any f V1.heap.size _ V1 (fm_at q3) (Nat.le_refl _)).mono ?_
  rintro e V2 ⟨rfl, hs⟩
  rw [s1.out]
  replace B3 := hidi (B3.out.below hs)
  replace B4 := hidi (B4.out.below hs)
  replace B5 := hidi (B5.out.below hs)
  replace HB := HB.trans (hs.mono HB.size)
  replace hEc := hEc.below hs
  obtain ⟨o4, c4, ⟨d40, d41, d42, d43, d44⟩, q4⟩ := B4.out.cells
  go_wp2_with fail
  clear d40 d41 d42 d43 d44
  refine (low_any g V2.heap.size _ V2 (fm_at q4) (Nat.le_refl _)).mono ?_
  rintro e V3 ⟨rfl, hs⟩
  rw [s2.out]
  replace B3 := hidi (B3.out.below hs)
  replace B4 := hidi (B4.out.below hs)
  replace B5 := hidi (B5.out.below hs)
  replace HB := HB.trans (hs.mono HB.size)
  replace hEc := hEc.below hs
  go_wp2_with fail
  go_ret
  exact ⟨rfl, HB⟩

set_option maxRecDepth 100000 in
set_option maxHeartbeats 8000000 in
theorem lat_high2 (hd : HeadOk) (f g h : Fm) (v1 v2 v3 : Value) (w : World) (hE : Env w) (h1 : FAt w.heap.size w v1 f) (h2 : FAt w.heap.size w v2 g) (h3 : FAt w.heap.size w v3 h) (s1 : Hid (lowB f = true)) (s2 : Hid (lowB g = true)) (s3 : Hid (lowB h = false)) :
    Calls Tryz.prog 10 #[v1, v2, v3] w fun e w' => e = .returned (.bool true) ∧ Below w.heap.size w w' := by
  obtain ⟨o1, c1, o2, c2, o3, c3, rfl, rfl, rfl, W0, hW0, HB, B3, B4, B5⟩ := bx3_open h1 h2 h3
  have hEc : Env W0 := hE.below HB
  go_enter Tryz.func10, Tryz.ntmps10
  go_wp2_with fail
  unfold boxO at hW0
  rw [hW0.out]
  refine (hd _ hEc).mono ?_
  rintro e V1 ⟨rfl, hs⟩
  replace B3 := hidi (B3.out.below hs)
  replace B4 := hidi (B4.out.below hs)
  replace B5 := hidi (B5.out.below hs)
  replace HB := HB.trans (hs.mono HB.size)
  replace hEc := hEc.below hs
  obtain ⟨o3, c3, ⟨d30, d31, d32, d33, d34⟩, q3⟩ := B3.out.cells
  go_wp2_with fail
  clear d30 d31 d32 d33 d34
  refine (low_any f V1.heap.size _ V1 (fm_at q3) (Nat.le_refl _)).mono ?_
  rintro e V2 ⟨rfl, hs⟩
  rw [s1.out]
  replace B3 := hidi (B3.out.below hs)
  replace B4 := hidi (B4.out.below hs)
  replace B5 := hidi (B5.out.below hs)
  replace HB := HB.trans (hs.mono HB.size)
  replace hEc := hEc.below hs
  obtain ⟨o4, c4, ⟨d40, d41, d42, d43, d44⟩, q4⟩ := B4.out.cells
  go_wp2_with fail
  clear d40 d41 d42 d43 d44
  refine (low_any g V2.heap.size _ V2 (fm_at q4) (Nat.le_refl _)).mono ?_
  rintro e V3 ⟨rfl, hs⟩
  rw [s2.out]
  replace B3 := hidi (B3.out.below hs)
  replace B4 := hidi (B4.out.below hs)
  replace B5 := hidi (B5.out.below hs)
  replace HB := HB.trans (hs.mono HB.size)
  replace hEc := hEc.below hs
  obtain ⟨o5, c5, ⟨d50, d51, d52, d53, d54⟩, q5⟩ := B5.out.cells
  go_wp2_with fail
  clear d50 d51 d52 d53 d54
  refine (low_any h V3.heap.size _ V3 (fm_at q5) (Nat.le_refl _)).mono ?_
  rintro e V4 ⟨rfl, hs⟩
  rw [s3.out]
  replace B3 := hidi (B3.out.below hs)
  replace B4 := hidi (B4.out.below hs)
  replace B5 := hidi (B5.out.below hs)
  replace HB := HB.trans (hs.mono HB.size)
  replace hEc := hEc.below hs
  go_wp2_with fail
  go_ret
  exact ⟨rfl, HB⟩

set_option maxRecDepth 100000 in
set_option maxHeartbeats 8000000 in
theorem lat_low (hd : HeadOk) (f g h : Fm) (v1 v2 v3 : Value) (w : World) (hE : Env w) (h1 : FAt w.heap.size w v1 f) (h2 : FAt w.heap.size w v2 g) (h3 : FAt w.heap.size w v3 h) (s1 : Hid (lowB f = true)) (s2 : Hid (lowB g = true)) (s3 : Hid (lowB h = true)) :
    Calls Tryz.prog 10 #[v1, v2, v3] w fun e w' => e = .returned (.bool true) ∧ Below w.heap.size w w' := by
  have L1 := lowB_nodes s1.out; have L2 := lowB_nodes s2.out; have L3 := lowB_nodes s3.out
  have n1 : f.nodes ≤ 1000 := by have := L1.2.1; omega
  have n2 : g.nodes ≤ 1000 := by have := L2.2.1; omega
  have n3 : h.nodes ≤ 1000 := by have := L3.2.1; omega
  obtain ⟨fga, ea0⟩ : ∃ x, Hid (combineF 5 [f, g] = x) := ⟨_, hidi rfl⟩
  obtain ⟨gha, ea9⟩ : ∃ x, Hid (combineF 5 [g, h] = x) := ⟨_, hidi rfl⟩
  obtain ⟨za, ea2⟩ : ∃ x, Hid (combineF 5 [fga, h] = x) := ⟨_, hidi rfl⟩
  have ea1 : Hid (combineF 5 [g, f] = fga) := hidi (by rw [comb_comm (.inl rfl) L1 L2, ea0.out])
  have ea3 : Hid (combineF 5 [f, gha] = za) := hidi (by rw [← ea9.out, ← comb_assoc (.inl rfl) L1 L2 L3, ea0.out, ea2.out])
  have ea4 : Hid (combineF 5 [f, g, h] = za) := hidi (by rw [comb_three (.inl rfl) L1 L2 L3, ea0.out, ea2.out])
  have ma1 : fga.nodes ≤ 1000 := by rw [← ea0.out]; exact Nat.le_trans (comb_small _ _) (by omega)
  have ma2 : gha.nodes ≤ 1000 := by rw [← ea9.out]; exact Nat.le_trans (comb_small _ _) (by omega)
  obtain ⟨fgb, eb0⟩ : ∃ x, Hid (combineF 6 [f, g] = x) := ⟨_, hidi rfl⟩
  obtain ⟨ghb, eb9⟩ : ∃ x, Hid (combineF 6 [g, h] = x) := ⟨_, hidi rfl⟩
  obtain ⟨zb, eb2⟩ : ∃ x, Hid (combineF 6 [fgb, h] = x) := ⟨_, hidi rfl⟩
  have eb1 : Hid (combineF 6 [g, f] = fgb) := hidi (by rw [comb_comm (.inr rfl) L1 L2, eb0.out])
  have eb3 : Hid (combineF 6 [f, ghb] = zb) := hidi (by rw [← eb9.out, ← comb_assoc (.inr rfl) L1 L2 L3, eb0.out, eb2.out])
  have eb4 : Hid (combineF 6 [f, g, h] = zb) := hidi (by rw [comb_three (.inr rfl) L1 L2 L3, eb0.out, eb2.out])
  have mb1 : fgb.nodes ≤ 1000 := by rw [← eb0.out]; exact Nat.le_trans (comb_small _ _) (by omega)
  have mb2 : ghb.nodes ≤ 1000 := by rw [← eb9.out]; exact Nat.le_trans (comb_small _ _) (by omega)
  obtain ⟨c, ec⟩ : ∃ x, Hid (canonTop f = x) := ⟨_, hidi rfl⟩
  have r1 : Hid (combineF 5 [f, f] = c) := hidi (by rw [comb_self (.inl rfl) L1, ec.out])
  have r2 : Hid (combineF 6 [f, f] = c) := hidi (by rw [comb_self (.inr rfl) L1, ec.out])
  have r3 : Hid (combineF 5 [f, fTrue] = c) := hidi (by rw [← ec.out]; exact (comb_unit (.inl rfl) L1).1)
  have r4 : Hid (combineF 6 [fFalse, f] = c) := hidi (by rw [← ec.out]; exact (comb_unit (.inr rfl) L1).2)
  have t1 : Hid (combineF 5 [f, fFalse] = nullF 5) := hidi (comb_null (.inl rfl) L1).1
  have t2 : Hid (combineF 6 [fTrue, f] = nullF 6) := hidi (comb_null (.inr rfl) L1).2
  have t3 : Hid (combineF 5 [] = unitF 5) := hidi (comb_nil (.inl rfl))
  have t4 : Hid (combineF 6 [] = unitF 6) := hidi (comb_nil (.inr rfl))
  have nT : fTrue.nodes ≤ 1000 := by decide
  have nF : fFalse.nodes ≤ 1000 := by decide
  obtain ⟨o1, c1, o2, c2, o3, c3, rfl, rfl, rfl, W0, hW0, HB, B3, B4, B5⟩ := bx3_open h1 h2 h3
  have hEc : Env W0 := hE.below HB
  go_enter Tryz.func10, Tryz.ntmps10
  go_wp2_with fail
  unfold boxO at hW0
  rw [hW0.out]
  refine (hd _ hEc).mono ?_
  rintro e V1 ⟨rfl, hs⟩
  replace B3 := hidi (B3.out.below hs)
  replace B4 := hidi (B4.out.below hs)
  replace B5 := hidi (B5.out.below hs)
  replace HB := HB.trans (hs.mono HB.size)
  replace hEc := hEc.below hs
  obtain ⟨o3, c3, ⟨d30, d31, d32, d33, d34⟩, q3⟩ := B3.out.cells
  go_wp2_with fail
  clear d30 d31 d32 d33 d34
  refine (low_any f V1.heap.size _ V1 (fm_at q3) (Nat.le_refl _)).mono ?_
  rintro e V2 ⟨rfl, hs⟩
  rw [s1.out]
  replace B3 := hidi (B3.out.below hs)
  replace B4 := hidi (B4.out.below hs)
  replace B5 := hidi (B5.out.below hs)
  replace HB := HB.trans (hs.mono HB.size)
  replace hEc := hEc.below hs
  obtain ⟨o4, c4, ⟨d40, d41, d42, d43, d44⟩, q4⟩ := B4.out.cells
  go_wp2_with fail
  clear d40 d41 d42 d43 d44
  refine (low_any g V2.heap.size _ V2 (fm_at q4) (Nat.le_refl _)).mono ?_
  rintro e V3 ⟨rfl, hs⟩
  rw [s2.out]
  replace B3 := hidi (B3.out.below hs)
  replace B4 := hidi (B4.out.below hs)
  replace B5 := hidi (B5.out.below hs)
  replace HB := HB.trans (hs.mono HB.size)
  replace hEc := hEc.below hs
  obtain ⟨o5, c5, ⟨d50, d51, d52, d53, d54⟩, q5⟩ := B5.out.cells
  go_wp2_with fail
  clear d50 d51 d52 d53 d54
  refine (low_any h V3.heap.size _ V3 (fm_at q5) (Nat.le_refl _)).mono ?_
  rintro e V4 ⟨rfl, hs⟩
  rw [s3.out]
  replace B3 := hidi (B3.out.below hs)
  replace B4 := hidi (B4.out.below hs)
  replace B5 := hidi (B5.out.below hs)
  replace HB := HB.trans (hs.mono HB.size)
  replace hEc := hEc.below hs
  obtain ⟨o3, c3, ⟨d30, d31, d32, d33, d34⟩, q3⟩ := B3.out.cells
  go_wp2_with fail
  clear d30 d31 d32 d33 d34
  refine (canontop_any (fun b => b < V4.heap.size ∧ True) f _ V4 hEc q3 (fun b hb => hb.1) (by omega)).mono ?_
  rintro e V5 ⟨r, rfl, hN, hs⟩
  rw [ec.out] at hN
  have hq := fm_got (Ok := fun _ => True) hN hs (fun _ _ => trivial)
  replace B3 := hidi (B3.out.below hs)
  replace B4 := hidi (B4.out.below hs)
  replace B5 := hidi (B5.out.below hs)
  replace HB := HB.trans (hs.mono HB.size)
  replace hEc := hEc.below hs
  obtain ⟨oo, cc, rfl, V6, hV, hs, B8, hz⟩ := bx_new hq
  unfold boxO at hV
  replace B3 := hidi (B3.out.below hs)
  replace B4 := hidi (B4.out.below hs)
  replace B5 := hidi (B5.out.below hs)
  replace HB := HB.trans (hs.mono HB.size)
  replace hEc := hEc.below hs
  clear hN hq
  obtain ⟨o3, c3, ⟨d30, d31, d32, d33, d34⟩, q3⟩ := B3.out.cells
  obtain ⟨o4, c4, ⟨d40, d41, d42, d43, d44⟩, q4⟩ := B4.out.cells
  rw [← hV.out] at d30 d31 d32 d33 d34 d40 d41 d42 d43 d44
  go_wp2_with fail
  rw [hV.out]
  clear d30 d31 d32 d33 d34 d40 d41 d42 d43 d44
  obtain ⟨V7, hR, hs, hrow⟩ := row_new2 q3 q4
  rw [hz.out] at hrow
  rw [hR.out]
  replace B3 := hidi (B3.out.below hs)
  replace B4 := hidi (B4.out.below hs)
  replace B5 := hidi (B5.out.below hs)
  replace B8 := hidi (B8.out.below hs)
  replace HB := HB.trans (hs.mono HB.size)
  replace hEc := hEc.below hs
  refine (and_any (fun b => b < V7.heap.size ∧ True) [f, g] _ V7 hEc hrow (fun b hb => hb.1) (by simp only [Fm.nodesL_cons, Fm.nodesL_nil]; omega)).mono ?_
  rintro e V8 ⟨r, rfl, hN, hs⟩
  rw [ea0.out] at hN
  have hq := fm_got (Ok := fun _ => True) hN hs (fun _ _ => trivial)
  replace B3 := hidi (B3.out.below hs)
  replace B4 := hidi (B4.out.below hs)
  replace B5 := hidi (B5.out.below hs)
  replace B8 := hidi (B8.out.below hs)
  replace HB := HB.trans (hs.mono HB.size)
  replace hEc := hEc.below hs
  obtain ⟨oo, cc, rfl, V9, hV, hs, B9, hz⟩ := bx_new hq
  unfold boxO at hV
  replace B3 := hidi (B3.out.below hs)
  replace B4 := hidi (B4.out.below hs)
  replace B5 := hidi (B5.out.below hs)
  replace B8 := hidi (B8.out.below hs)
  replace HB := HB.trans (hs.mono HB.size)
  replace hEc := hEc.below hs
  clear hN hq
  obtain ⟨o4, c4, ⟨d40, d41, d42, d43, d44⟩, q4⟩ := B4.out.cells
  obtain ⟨o5, c5, ⟨d50, d51, d52, d53, d54⟩, q5⟩ := B5.out.cells
  rw [← hV.out] at d40 d41 d42 d43 d44 d50 d51 d52 d53 d54
  go_wp2_with fail
  rw [hV.out]
  clear d40 d41 d42 d43 d44 d50 d51 d52 d53 d54
  obtain ⟨V10, hR, hs, hrow⟩ := row_new2 q4 q5
  rw [hz.out] at hrow
  rw [hR.out]
  replace B3 := hidi (B3.out.below hs)
  replace B4 := hidi (B4.out.below hs)
  replace B5 := hidi (B5.out.below hs)
  replace B8 := hidi (B8.out.below hs)
  replace B9 := hidi (B9.out.below hs)
  replace HB := HB.trans (hs.mono HB.size)
  replace hEc := hEc.below hs
  refine (and_any (fun b => b < V10.heap.size ∧ True) [g, h] _ V10 hEc hrow (fun b hb => hb.1) (by simp only [Fm.nodesL_cons, Fm.nodesL_nil]; omega)).mono ?_
  rintro e V11 ⟨r, rfl, hN, hs⟩
  rw [ea9.out] at hN
  have hq := fm_got (Ok := fun _ => True) hN hs (fun _ _ => trivial)
  replace B3 := hidi (B3.out.below hs)
  replace B4 := hidi (B4.out.below hs)
  replace B5 := hidi (B5.out.below hs)
  replace B8 := hidi (B8.out.below hs)
  replace B9 := hidi (B9.out.below hs)
  replace HB := HB.trans (hs.mono HB.size)
  replace hEc := hEc.below hs
  obtain ⟨oo, cc, rfl, V12, hV, hs, B10, hz⟩ := bx_new hq
  unfold boxO at hV
  replace B3 := hidi (B3.out.below hs)
  replace B4 := hidi (B4.out.below hs)
  replace B5 := hidi (B5.out.below hs)
  replace B8 := hidi (B8.out.below hs)
  replace B9 := hidi (B9.out.below hs)
  replace HB := HB.trans (hs.mono HB.size)
  replace hEc := hEc.below hs
  clear hN hq
  go_wp2_with fail
  rw [hV.out]
  refine lata_r7 _ V12 _ hEc (by rfl) (by rfl) (by rfl) (by rfl) (by rfl) (by rfl) B3 B4 B5 B9 B10 ea1 ea2 ea3 ea4 n1 n2 n3 ma1 ma2 ?_
  intro x13 V13 hs
  simp only [Act.put, List.setIfInBounds_toArray, List.set_cons_zero, List.set_cons_succ]
  replace B3 := hidi (B3.out.below hs)
  replace B4 := hidi (B4.out.below hs)
  replace B5 := hidi (B5.out.below hs)
  replace B8 := hidi (B8.out.below hs)
  replace B9 := hidi (B9.out.below hs)
  replace B10 := hidi (B10.out.below hs)
  replace HB := HB.trans (hs.mono HB.size)
  replace hEc := hEc.below hs
  obtain ⟨o3, c3, ⟨d30, d31, d32, d33, d34⟩, q3⟩ := B3.out.cells
  obtain ⟨o4, c4, ⟨d40, d41, d42, d43, d44⟩, q4⟩ := B4.out.cells
  go_wp2_with fail
  clear d30 d31 d32 d33 d34 d40 d41 d42 d43 d44
  obtain ⟨V14, hR, hs, hrow⟩ := row_new2 q3 q4
  rw [hR.out]
  replace B3 := hidi (B3.out.below hs)
  replace B4 := hidi (B4.out.below hs)
  replace B5 := hidi (B5.out.below hs)
  replace B8 := hidi (B8.out.below hs)
  replace B9 := hidi (B9.out.below hs)
  replace B10 := hidi (B10.out.below hs)
  replace HB := HB.trans (hs.mono HB.size)
  replace hEc := hEc.below hs
  refine (or_any (fun b => b < V14.heap.size ∧ True) [f, g] _ V14 hEc hrow (fun b hb => hb.1) (by simp only [Fm.nodesL_cons, Fm.nodesL_nil]; omega)).mono ?_
  rintro e V15 ⟨r, rfl, hN, hs⟩
  rw [eb0.out] at hN
  have hq := fm_got (Ok := fun _ => True) hN hs (fun _ _ => trivial)
  replace B3 := hidi (B3.out.below hs)
  replace B4 := hidi (B4.out.below hs)
  replace B5 := hidi (B5.out.below hs)
  replace B8 := hidi (B8.out.below hs)
  replace B9 := hidi (B9.out.below hs)
  replace B10 := hidi (B10.out.below hs)
  replace HB := HB.trans (hs.mono HB.size)
  replace hEc := hEc.below hs
  obtain ⟨oo, cc, rfl, V16, hV, hs, B12, hz⟩ := bx_new hq
  unfold boxO at hV
  replace B3 := hidi (B3.out.below hs)
  replace B4 := hidi (B4.out.below hs)
  replace B5 := hidi (B5.out.below hs)
  replace B8 := hidi (B8.out.below hs)
  replace B9 := hidi (B9.out.below hs)
  replace B10 := hidi (B10.out.below hs)
  replace HB := HB.trans (hs.mono HB.size)
  replace hEc := hEc.below hs
  clear hN hq
  obtain ⟨o4, c4, ⟨d40, d41, d42, d43, d44⟩, q4⟩ := B4.out.cells
  obtain ⟨o5, c5, ⟨d50, d51, d52, d53, d54⟩, q5⟩ := B5.out.cells
  rw [← hV.out] at d40 d41 d42 d43 d44 d50 d51 d52 d53 d54
  go_wp2_with fail
  rw [hV.out]
  clear d40 d41 d42 d43 d44 d50 d51 d52 d53 d54
  obtain ⟨V17, hR, hs, hrow⟩ := row_new2 q4 q5
  rw [hz.out] at hrow
  rw [hR.out]
  replace B3 := hidi (B3.out.below hs)
  replace B4 := hidi (B4.out.below hs)
  replace B5 := hidi (B5.out.below hs)
  replace B8 := hidi (B8.out.below hs)
  replace B9 := hidi (B9.out.below hs)
  replace B10 := hidi (B10.out.below hs)
  replace B12 := hidi (B12.out.below hs)
  replace HB := HB.trans (hs.mono HB.size)
  replace hEc := hEc.below hs
  refine (or_any (fun b => b < V17.heap.size ∧ True) [g, h] _ V17 hEc hrow (fun b hb => hb.1) (by simp only [Fm.nodesL_cons, Fm.nodesL_nil]; omega)).mono ?_
  rintro e V18 ⟨r, rfl, hN, hs⟩
  rw [eb9.out] at hN
  have hq := fm_got (Ok := fun _ => True) hN hs (fun _ _ => trivial)
  replace B3 := hidi (B3.out.below hs)
  replace B4 := hidi (B4.out.below hs)
  replace B5 := hidi (B5.out.below hs)
  replace B8 := hidi (B8.out.below hs)
  replace B9 := hidi (B9.out.below hs)
  replace B10 := hidi (B10.out.below hs)
  replace B12 := hidi (B12.out.below hs)
  replace HB := HB.trans (hs.mono HB.size)
  replace hEc := hEc.below hs
  obtain ⟨oo, cc, rfl, V19, hV, hs, B13, hz⟩ := bx_new hq
  unfold boxO at hV
  replace B3 := hidi (B3.out.below hs)
  replace B4 := hidi (B4.out.below hs)
  replace B5 := hidi (B5.out.below hs)
  replace B8 := hidi (B8.out.below hs)
  replace B9 := hidi (B9.out.below hs)
  replace B10 := hidi (B10.out.below hs)
  replace B12 := hidi (B12.out.below hs)
  replace HB := HB.trans (hs.mono HB.size)
  replace hEc := hEc.below hs
  clear hN hq
  go_wp2_with fail
  rw [hV.out]
  refine latb_r10 _ V19 _ hEc (by rfl) (by rfl) (by rfl) (by rfl) (by rfl) (by rfl) B3 B4 B5 B12 B13 eb1 eb2 eb3 eb4 n1 n2 n3 mb1 mb2 ?_
  intro x20 V20 hs
  simp only [Act.put, List.setIfInBounds_toArray, List.set_cons_zero, List.set_cons_succ]
  replace B3 := hidi (B3.out.below hs)
  replace B4 := hidi (B4.out.below hs)
  replace B5 := hidi (B5.out.below hs)
  replace B8 := hidi (B8.out.below hs)
  replace B9 := hidi (B9.out.below hs)
  replace B10 := hidi (B10.out.below hs)
  replace B12 := hidi (B12.out.below hs)
  replace B13 := hidi (B13.out.below hs)
  replace HB := HB.trans (hs.mono HB.size)
  replace hEc := hEc.below hs
  go_wp2_with fail
  refine latc_r11 _ V20 _ hEc (by rfl) (by rfl) (by rfl) B3 B8 r1 r2 r3 r4 n1 nT nF ?_
  intro x21 V21 hs
  simp only [Act.put, List.setIfInBounds_toArray, List.set_cons_zero, List.set_cons_succ]
  replace B3 := hidi (B3.out.below hs)
  replace B4 := hidi (B4.out.below hs)
  replace B5 := hidi (B5.out.below hs)
  replace B8 := hidi (B8.out.below hs)
  replace B9 := hidi (B9.out.below hs)
  replace B10 := hidi (B10.out.below hs)
  replace B12 := hidi (B12.out.below hs)
  replace B13 := hidi (B13.out.below hs)
  replace HB := HB.trans (hs.mono HB.size)
  replace hEc := hEc.below hs
  go_wp2_with fail
  refine latd_r12 _ V21 _ hEc (by rfl) (by rfl) (by rfl) (by rfl) (by rfl) (by rfl) B3 t1 t2 t3 t4 (hidi rfl) (hidi rfl) (hidi rfl) (hidi rfl) n1 nT nF ?_
  intro x22 V22 hs
  simp only [Act.put, List.setIfInBounds_toArray, List.set_cons_zero, List.set_cons_succ]
  replace B3 := hidi (B3.out.below hs)
  replace B4 := hidi (B4.out.below hs)
  replace B5 := hidi (B5.out.below hs)
  replace B8 := hidi (B8.out.below hs)
  replace B9 := hidi (B9.out.below hs)
  replace B10 := hidi (B10.out.below hs)
  replace B12 := hidi (B12.out.below hs)
  replace B13 := hidi (B13.out.below hs)
  replace HB := HB.trans (hs.mono HB.size)
  replace hEc := hEc.below hs
  go_wp2_with fail
  go_ret
  exact ⟨rfl, HB⟩

theorem lat_any (hd : HeadOk) (f g h : Fm) (v1 v2 v3 : Value) (w : World) (hE : Env w) (h1 : FAt w.heap.size w v1 f) (h2 : FAt w.heap.size w v2 g) (h3 : FAt w.heap.size w v3 h) :
    Calls Tryz.prog 10 #[v1, v2, v3] w fun e w' => e = .returned (.bool true) ∧ Below w.heap.size w w' := by
  cases s1 : lowB f
  · exact lat_high0 hd f g h v1 v2 v3 w hE h1 h2 h3 (hidi s1)
  · cases s2 : lowB g
    · exact lat_high1 hd f g h v1 v2 v3 w hE h1 h2 h3 (hidi s1) (hidi s2)
    · cases s3 : lowB h
      · exact lat_high2 hd f g h v1 v2 v3 w hE h1 h2 h3 (hidi s1) (hidi s2) (hidi s3)
      · exact lat_low hd f g h v1 v2 v3 w hE h1 h2 h3 (hidi s1) (hidi s2) (hidi s3)

end Go.Proofs.YtlkoacopknolnaaGreatDoor
