/-
  The walk of the law FormulaDuality, given the contract of the law's head.
-/
import Derived.Test.YtlkoacopknolnaaGreatDoorFjC
import Derived.Test.YtlkoacopknolnaaGreatDoorFjR
import Derived.Test.YtlkoacopknolnaaGreatDoorGt
import Derived.Test.YtlkoacopknolnaaGreatDoorFiV
import Derived.Test.YtlkoacopknolnaaGreatDoorFsC
namespace Go.Proofs.YtlkoacopknolnaaGreatDoor
open Go.RowKit

theorem lowB_low {f : Fm} (h : lowB f = true) : LowP f := by
  unfold lowB at h
  simp only [Bool.and_eq_true, decide_eq_true_eq] at h
  exact ⟨h.2, h.1.1, h.1.2⟩

set_option maxRecDepth 100000 in
set_option maxHeartbeats 8000000 in
theorem dual_high0 (hd : HeadOk) (f g : Fm) (v1 v2 : Value) (w : World) (hE : Env w) (h1 : FAt w.heap.size w v1 f) (h2 : FAt w.heap.size w v2 g) (s1 : Hid (lowB f = false)) :
    Calls Tryz.prog 11 #[v1, v2] w fun e w' => e = .returned (.bool true) ∧ Below w.heap.size w w' := by
  obtain ⟨o1, c1, o2, c2, rfl, rfl, W0, hW0, HB, B2, B3⟩ := bx2_open h1 h2
  have hEc : Env W0 := hE.below HB
  go_enter Tryz.func11, Tryz.ntmps11
  go_wp2_with fail
  unfold boxO at hW0
  rw [hW0.out]
  refine (hd _ hEc).mono ?_
  rintro e V1 ⟨rfl, hs⟩
  replace B2 := hidi (B2.out.below hs)
  replace B3 := hidi (B3.out.below hs)
  replace HB := HB.trans (hs.mono HB.size)
  replace hEc := hEc.below hs
  obtain ⟨o2, c2, ⟨d20, d21, d22, d23, d24⟩, q2⟩ := B2.out.cells
  go_wp2_with fail
  clear d20 d21 d22 d23 d24
  refine (low_any f V1.heap.size _ V1 (fm_at q2) (Nat.le_refl _)).mono ?_
  rintro e V2 ⟨rfl, hs⟩
  rw [s1.out]
  replace B2 := hidi (B2.out.below hs)
  replace B3 := hidi (B3.out.below hs)
  replace HB := HB.trans (hs.mono HB.size)
  replace hEc := hEc.below hs
  go_wp2_with fail
  go_ret
  exact ⟨rfl, HB⟩

set_option maxRecDepth 100000 in
set_option maxHeartbeats 8000000 in
theorem dual_high1 (hd : HeadOk) (f g : Fm) (v1 v2 : Value) (w : World) (hE : Env w) (h1 : FAt w.heap.size w v1 f) (h2 : FAt w.heap.size w v2 g) (s1 : Hid (lowB f = true)) (s2 : Hid (lowB g = false)) :
    Calls Tryz.prog 11 #[v1, v2] w fun e w' => e = .returned (.bool true) ∧ Below w.heap.size w w' := by
  obtain ⟨o1, c1, o2, c2, rfl, rfl, W0, hW0, HB, B2, B3⟩ := bx2_open h1 h2
  have hEc : Env W0 := hE.below HB
  go_enter Tryz.func11, Tryz.ntmps11
  go_wp2_with fail
  unfold boxO at hW0
  rw [hW0.out]
  refine (hd _ hEc).mono ?_
  rintro e V1 ⟨rfl, hs⟩
  replace B2 := hidi (B2.out.below hs)
  replace B3 := hidi (B3.out.below hs)
  replace HB := HB.trans (hs.mono HB.size)
  replace hEc := hEc.below hs
  obtain ⟨o2, c2, ⟨d20, d21, d22, d23, d24⟩, q2⟩ := B2.out.cells
  go_wp2_with fail
  clear d20 d21 d22 d23 d24
  refine (low_any f V1.heap.size _ V1 (fm_at q2) (Nat.le_refl _)).mono ?_
  rintro e V2 ⟨rfl, hs⟩
  rw [s1.out]
  replace B2 := hidi (B2.out.below hs)
  replace B3 := hidi (B3.out.below hs)
  replace HB := HB.trans (hs.mono HB.size)
  replace hEc := hEc.below hs
  obtain ⟨o3, c3, ⟨d30, d31, d32, d33, d34⟩, q3⟩ := B3.out.cells
  go_wp2_with fail
  clear d30 d31 d32 d33 d34
  refine (low_any g V2.heap.size _ V2 (fm_at q3) (Nat.le_refl _)).mono ?_
  rintro e V3 ⟨rfl, hs⟩
  rw [s2.out]
  replace B2 := hidi (B2.out.below hs)
  replace B3 := hidi (B3.out.below hs)
  replace HB := HB.trans (hs.mono HB.size)
  replace hEc := hEc.below hs
  go_wp2_with fail
  go_ret
  exact ⟨rfl, HB⟩

set_option maxRecDepth 100000 in
set_option maxHeartbeats 8000000 in
theorem dual_low (hd : HeadOk) (f g : Fm) (v1 v2 : Value) (w : World) (hE : Env w) (h1 : FAt w.heap.size w v1 f) (h2 : FAt w.heap.size w v2 g) (s1 : Hid (lowB f = true)) (s2 : Hid (lowB g = true)) :
    Calls Tryz.prog 11 #[v1, v2] w fun e w' => e = .returned (.bool true) ∧ Below w.heap.size w w' := by
  have L1 := lowB_low s1.out; have L2 := lowB_low s2.out
  have n1 : f.nodes ≤ 1000 := by have := L1.2.1; omega
  have n2 : g.nodes ≤ 1000 := by have := L2.2.1; omega
  obtain ⟨n, en⟩ : ∃ x, Hid (notF f = x) := ⟨_, hidi rfl⟩
  obtain ⟨m, em⟩ : ∃ x, Hid (notF g = x) := ⟨_, hidi rfl⟩
  obtain ⟨c, ec⟩ : ∃ x, Hid (canonTop n = x) := ⟨_, hidi rfl⟩
  obtain ⟨cf, ecf⟩ : ∃ x, Hid (canonTop f = x) := ⟨_, hidi rfl⟩
  obtain ⟨ncf, encf⟩ : ∃ x, Hid (notF cf = x) := ⟨_, hidi rfl⟩
  have e3 : Hid (canonTop ncf = c) := hidi (by rw [← encf.out, ← ecf.out, ← ec.out, ← en.out]; exact (dual_one L1).symm)
  obtain ⟨k5, ek5⟩ : ∃ x, Hid (combineF 5 [f, g] = x) := ⟨_, hidi rfl⟩
  obtain ⟨k6, ek6⟩ : ∃ x, Hid (combineF 6 [f, g] = x) := ⟨_, hidi rfl⟩
  obtain ⟨both, eb⟩ : ∃ x, Hid (notF k5 = x) := ⟨_, hidi rfl⟩
  obtain ⟨one, eo⟩ : ∃ x, Hid (notF k6 = x) := ⟨_, hidi rfl⟩
  obtain ⟨z1, ez1⟩ : ∃ x, Hid (canonTop both = x) := ⟨_, hidi rfl⟩
  obtain ⟨z2, ez2⟩ : ∃ x, Hid (canonTop one = x) := ⟨_, hidi rfl⟩
  have ez3 : Hid (combineF 6 [n, m] = z1) := hidi (by rw [← ez1.out, ← eb.out, ← ek5.out, ← en.out, ← em.out]; exact (dual_two (.inl rfl) L1 L2).symm)
  have ez4 : Hid (combineF 5 [n, m] = z2) := hidi (by rw [← ez2.out, ← eo.out, ← ek6.out, ← en.out, ← em.out]; exact (dual_two (.inr rfl) L1 L2).symm)
  have m_n : n.nodes ≤ 1000 := by rw [← en.out]; exact Nat.le_trans (not_small _) (by omega)
  have m_m : m.nodes ≤ 1000 := by rw [← em.out]; exact Nat.le_trans (not_small _) (by omega)
  have m_ncf : ncf.nodes ≤ 1000 := by rw [← encf.out]; exact Nat.le_trans (not_small _) (by omega)
  have m_both : both.nodes ≤ 1000 := by rw [← eb.out]; exact Nat.le_trans (not_small _) (by omega)
  have m_one : one.nodes ≤ 1000 := by rw [← eo.out]; exact Nat.le_trans (not_small _) (by omega)
  have m_cf : cf.nodes ≤ 1000 := by rw [← ecf.out]; exact Nat.le_trans (canonTop_small _) (by omega)
  have m_k5 : k5.nodes ≤ 1000 := by rw [← ek5.out]; exact Nat.le_trans (comb_small _ _) (by omega)
  have m_k6 : k6.nodes ≤ 1000 := by rw [← ek6.out]; exact Nat.le_trans (comb_small _ _) (by omega)
  obtain ⟨o1, c1, o2, c2, rfl, rfl, W0, hW0, HB, B2, B3⟩ := bx2_open h1 h2
  have hEc : Env W0 := hE.below HB
  go_enter Tryz.func11, Tryz.ntmps11
  go_wp2_with fail
  unfold boxO at hW0
  rw [hW0.out]
  refine (hd _ hEc).mono ?_
  rintro e V1 ⟨rfl, hs⟩
  replace B2 := hidi (B2.out.below hs)
  replace B3 := hidi (B3.out.below hs)
  replace HB := HB.trans (hs.mono HB.size)
  replace hEc := hEc.below hs
  obtain ⟨o2, c2, ⟨d20, d21, d22, d23, d24⟩, q2⟩ := B2.out.cells
  go_wp2_with fail
  clear d20 d21 d22 d23 d24
  refine (low_any f V1.heap.size _ V1 (fm_at q2) (Nat.le_refl _)).mono ?_
  rintro e V2 ⟨rfl, hs⟩
  rw [s1.out]
  replace B2 := hidi (B2.out.below hs)
  replace B3 := hidi (B3.out.below hs)
  replace HB := HB.trans (hs.mono HB.size)
  replace hEc := hEc.below hs
  obtain ⟨o3, c3, ⟨d30, d31, d32, d33, d34⟩, q3⟩ := B3.out.cells
  go_wp2_with fail
  clear d30 d31 d32 d33 d34
  refine (low_any g V2.heap.size _ V2 (fm_at q3) (Nat.le_refl _)).mono ?_
  rintro e V3 ⟨rfl, hs⟩
  rw [s2.out]
  replace B2 := hidi (B2.out.below hs)
  replace B3 := hidi (B3.out.below hs)
  replace HB := HB.trans (hs.mono HB.size)
  replace hEc := hEc.below hs
  obtain ⟨o2, c2, ⟨d20, d21, d22, d23, d24⟩, q2⟩ := B2.out.cells
  go_wp2_with fail
  clear d20 d21 d22 d23 d24
  refine (not_any (fun b => b < V3.heap.size ∧ True) f _ V3 hEc q2 (fun b hb => hb.1) (by omega)).mono ?_
  rintro e V4 ⟨r, rfl, hN, hs⟩
  rw [en.out] at hN
  have hq := fm_got (Ok := fun _ => True) hN hs (fun _ _ => trivial)
  replace B2 := hidi (B2.out.below hs)
  replace B3 := hidi (B3.out.below hs)
  replace HB := HB.trans (hs.mono HB.size)
  replace hEc := hEc.below hs
  obtain ⟨oo, cc, rfl, V5, hV, hs, B6, hz⟩ := bx_new hq
  unfold boxO at hV
  replace B2 := hidi (B2.out.below hs)
  replace B3 := hidi (B3.out.below hs)
  replace HB := HB.trans (hs.mono HB.size)
  replace hEc := hEc.below hs
  clear hN hq
  obtain ⟨o3, c3, ⟨d30, d31, d32, d33, d34⟩, q3⟩ := B3.out.cells
  rw [← hV.out] at d30 d31 d32 d33 d34
  go_wp2_with fail
  rw [hV.out]
  clear d30 d31 d32 d33 d34
  refine (not_any (fun b => b < V5.heap.size ∧ True) g _ V5 hEc q3 (fun b hb => hb.1) (by omega)).mono ?_
  rintro e V6 ⟨r, rfl, hN, hs⟩
  rw [em.out] at hN
  have hq := fm_got (Ok := fun _ => True) hN hs (fun _ _ => trivial)
  replace B2 := hidi (B2.out.below hs)
  replace B3 := hidi (B3.out.below hs)
  replace B6 := hidi (B6.out.below hs)
  replace HB := HB.trans (hs.mono HB.size)
  replace hEc := hEc.below hs
  obtain ⟨oo, cc, rfl, V7, hV, hs, B7, hz⟩ := bx_new hq
  unfold boxO at hV
  replace B2 := hidi (B2.out.below hs)
  replace B3 := hidi (B3.out.below hs)
  replace B6 := hidi (B6.out.below hs)
  replace HB := HB.trans (hs.mono HB.size)
  replace hEc := hEc.below hs
  clear hN hq
  obtain ⟨o6, c6, ⟨d60, d61, d62, d63, d64⟩, q6⟩ := B6.out.cells
  rw [← hV.out] at d60 d61 d62 d63 d64
  go_wp2_with fail
  rw [hV.out]
  clear d60 d61 d62 d63 d64
  refine (canontop_any (fun b => b < V7.heap.size ∧ True) n _ V7 hEc q6 (fun b hb => hb.1) (by omega)).mono ?_
  rintro e V8 ⟨r, rfl, hN, hs⟩
  rw [ec.out] at hN
  have hq := fm_got (Ok := fun _ => True) hN hs (fun _ _ => trivial)
  replace B2 := hidi (B2.out.below hs)
  replace B3 := hidi (B3.out.below hs)
  replace B6 := hidi (B6.out.below hs)
  replace B7 := hidi (B7.out.below hs)
  replace HB := HB.trans (hs.mono HB.size)
  replace hEc := hEc.below hs
  obtain ⟨oo, cc, rfl, V9, hV, hs, B8, hz⟩ := bx_new hq
  unfold boxO at hV
  replace B2 := hidi (B2.out.below hs)
  replace B3 := hidi (B3.out.below hs)
  replace B6 := hidi (B6.out.below hs)
  replace B7 := hidi (B7.out.below hs)
  replace HB := HB.trans (hs.mono HB.size)
  replace hEc := hEc.below hs
  clear hN hq
  go_wp2_with fail
  rw [hV.out]
  refine dua_r7 _ V9 _ hEc (by rfl) (by rfl) (by rfl) B2 B8 ecf encf e3 n1 m_cf m_ncf ?_
  intro x10 V10 hs
  simp only [Act.put, List.setIfInBounds_toArray, List.set_cons_zero, List.set_cons_succ]
  replace B2 := hidi (B2.out.below hs)
  replace B3 := hidi (B3.out.below hs)
  replace B6 := hidi (B6.out.below hs)
  replace B7 := hidi (B7.out.below hs)
  replace B8 := hidi (B8.out.below hs)
  replace HB := HB.trans (hs.mono HB.size)
  replace hEc := hEc.below hs
  obtain ⟨o2, c2, ⟨d20, d21, d22, d23, d24⟩, q2⟩ := B2.out.cells
  obtain ⟨o3, c3, ⟨d30, d31, d32, d33, d34⟩, q3⟩ := B3.out.cells
  go_wp2_with fail
  clear d20 d21 d22 d23 d24 d30 d31 d32 d33 d34
  obtain ⟨V11, hR, hs, hrow⟩ := row_new2 q2 q3
  rw [hR.out]
  replace B2 := hidi (B2.out.below hs)
  replace B3 := hidi (B3.out.below hs)
  replace B6 := hidi (B6.out.below hs)
  replace B7 := hidi (B7.out.below hs)
  replace B8 := hidi (B8.out.below hs)
  replace HB := HB.trans (hs.mono HB.size)
  replace hEc := hEc.below hs
  refine (and_any (fun b => b < V11.heap.size ∧ True) [f, g] _ V11 hEc hrow (fun b hb => hb.1) (by simp only [Fm.nodesL_cons, Fm.nodesL_nil]; omega)).mono ?_
  rintro e V12 ⟨r1, rfl, hN1, hs⟩
  rw [ek5.out] at hN1
  have hq1 := fm_got (Ok := fun _ => True) hN1 hs (fun _ _ => trivial)
  replace B2 := hidi (B2.out.below hs)
  replace B3 := hidi (B3.out.below hs)
  replace B6 := hidi (B6.out.below hs)
  replace B7 := hidi (B7.out.below hs)
  replace B8 := hidi (B8.out.below hs)
  replace HB := HB.trans (hs.mono HB.size)
  replace hEc := hEc.below hs
  clear hN1
  go_wp2_with fail
  refine (not_any (fun b => b < V12.heap.size ∧ True) k5 _ V12 hEc hq1 (fun b hb => hb.1) (by omega)).mono ?_
  rintro e V13 ⟨r, rfl, hN, hs⟩
  rw [eb.out] at hN
  have hq := fm_got (Ok := fun _ => True) hN hs (fun _ _ => trivial)
  replace B2 := hidi (B2.out.below hs)
  replace B3 := hidi (B3.out.below hs)
  replace B6 := hidi (B6.out.below hs)
  replace B7 := hidi (B7.out.below hs)
  replace B8 := hidi (B8.out.below hs)
  replace HB := HB.trans (hs.mono HB.size)
  replace hEc := hEc.below hs
  obtain ⟨oo, cc, rfl, V14, hV, hs, B9, hz⟩ := bx_new hq
  unfold boxO at hV
  replace B2 := hidi (B2.out.below hs)
  replace B3 := hidi (B3.out.below hs)
  replace B6 := hidi (B6.out.below hs)
  replace B7 := hidi (B7.out.below hs)
  replace B8 := hidi (B8.out.below hs)
  replace HB := HB.trans (hs.mono HB.size)
  replace hEc := hEc.below hs
  clear hN hq
  obtain ⟨o2, c2, ⟨d20, d21, d22, d23, d24⟩, q2⟩ := B2.out.cells
  obtain ⟨o3, c3, ⟨d30, d31, d32, d33, d34⟩, q3⟩ := B3.out.cells
  rw [← hV.out] at d20 d21 d22 d23 d24 d30 d31 d32 d33 d34
  go_wp2_with fail
  rw [hV.out]
  clear d20 d21 d22 d23 d24 d30 d31 d32 d33 d34
  obtain ⟨V15, hR, hs, hrow⟩ := row_new2 q2 q3
  rw [hz.out] at hrow
  rw [hR.out]
  replace B2 := hidi (B2.out.below hs)
  replace B3 := hidi (B3.out.below hs)
  replace B6 := hidi (B6.out.below hs)
  replace B7 := hidi (B7.out.below hs)
  replace B8 := hidi (B8.out.below hs)
  replace B9 := hidi (B9.out.below hs)
  replace HB := HB.trans (hs.mono HB.size)
  replace hEc := hEc.below hs
  refine (or_any (fun b => b < V15.heap.size ∧ True) [f, g] _ V15 hEc hrow (fun b hb => hb.1) (by simp only [Fm.nodesL_cons, Fm.nodesL_nil]; omega)).mono ?_
  rintro e V16 ⟨r1, rfl, hN1, hs⟩
  rw [ek6.out] at hN1
  have hq1 := fm_got (Ok := fun _ => True) hN1 hs (fun _ _ => trivial)
  replace B2 := hidi (B2.out.below hs)
  replace B3 := hidi (B3.out.below hs)
  replace B6 := hidi (B6.out.below hs)
  replace B7 := hidi (B7.out.below hs)
  replace B8 := hidi (B8.out.below hs)
  replace B9 := hidi (B9.out.below hs)
  replace HB := HB.trans (hs.mono HB.size)
  replace hEc := hEc.below hs
  clear hN1
  go_wp2_with fail
  refine (not_any (fun b => b < V16.heap.size ∧ True) k6 _ V16 hEc hq1 (fun b hb => hb.1) (by omega)).mono ?_
  rintro e V17 ⟨r, rfl, hN, hs⟩
  rw [eo.out] at hN
  have hq := fm_got (Ok := fun _ => True) hN hs (fun _ _ => trivial)
  replace B2 := hidi (B2.out.below hs)
  replace B3 := hidi (B3.out.below hs)
  replace B6 := hidi (B6.out.below hs)
  replace B7 := hidi (B7.out.below hs)
  replace B8 := hidi (B8.out.below hs)
  replace B9 := hidi (B9.out.below hs)
  replace HB := HB.trans (hs.mono HB.size)
  replace hEc := hEc.below hs
  obtain ⟨oo, cc, rfl, V18, hV, hs, B10, hz⟩ := bx_new hq
  unfold boxO at hV
  replace B2 := hidi (B2.out.below hs)
  replace B3 := hidi (B3.out.below hs)
  replace B6 := hidi (B6.out.below hs)
  replace B7 := hidi (B7.out.below hs)
  replace B8 := hidi (B8.out.below hs)
  replace B9 := hidi (B9.out.below hs)
  replace HB := HB.trans (hs.mono HB.size)
  replace hEc := hEc.below hs
  clear hN hq
  go_wp2_with fail
  rw [hV.out]
  refine dub_r11 _ V18 _ hEc (by rfl) (by rfl) (by rfl) (by rfl) (by rfl) (by rfl) B6 B7 B9 B10 ez1 ez3 ez2 ez4 m_n m_m m_both m_one ?_
  intro x19 V19 hs
  simp only [Act.put, List.setIfInBounds_toArray, List.set_cons_zero, List.set_cons_succ]
  replace B2 := hidi (B2.out.below hs)
  replace B3 := hidi (B3.out.below hs)
  replace B6 := hidi (B6.out.below hs)
  replace B7 := hidi (B7.out.below hs)
  replace B8 := hidi (B8.out.below hs)
  replace B9 := hidi (B9.out.below hs)
  replace B10 := hidi (B10.out.below hs)
  replace HB := HB.trans (hs.mono HB.size)
  replace hEc := hEc.below hs
  go_wp2_with fail
  go_ret
  exact ⟨rfl, HB⟩

theorem dual_any (hd : HeadOk) (f g : Fm) (v1 v2 : Value) (w : World) (hE : Env w) (h1 : FAt w.heap.size w v1 f) (h2 : FAt w.heap.size w v2 g) :
    Calls Tryz.prog 11 #[v1, v2] w fun e w' => e = .returned (.bool true) ∧ Below w.heap.size w w' := by
  cases s1 : lowB f
  · exact dual_high0 hd f g v1 v2 w hE h1 h2 (hidi s1)
  · cases s2 : lowB g
    · exact dual_high1 hd f g v1 v2 w hE h1 h2 (hidi s1) (hidi s2)
    · exact dual_low hd f g v1 v2 w hE h1 h2 (hidi s1) (hidi s2)

end Go.Proofs.YtlkoacopknolnaaGreatDoor
