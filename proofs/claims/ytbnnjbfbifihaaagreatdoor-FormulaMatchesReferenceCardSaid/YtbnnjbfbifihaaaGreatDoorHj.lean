/-
  Contracts that FormulaMatchesReference stands on, part Hj.
-/
import Derived.Test.YtbnnjbfbifihaaaGreatDoorH0
import Derived.Test.YtbnnjbfbifihaaaGreatDoorHi
import Derived.Test.YtbnnjbfbifihaaaGreatDoorGr
namespace Go.Proofs.YtbnnjbfbifihaaaGreatDoor
open Go.RowKit
open Go.ChangeShapes Go.WideShapes Go.ChangeAt Go.RowKit Go.Deep
set_option maxRecDepth 100000
set_option maxHeartbeats 80000000

theorem smalls_nodes {l : List Fm} (h : smallsB l 100 = true) : l.length ≤ 12 ∧ Fm.nodesL l ≤ 1200 := by
  unfold smallsB at h
  simp only [Bool.and_eq_true, decide_eq_true_eq, List.all_eq_true] at h
  refine ⟨h.1, ?_⟩
  have key : ∀ l : List Fm, (∀ x ∈ l, x.nodes ≤ 100) → Fm.nodesL l ≤ 100 * l.length := by
    intro l
    induction l with
    | nil => intro _; simp [Fm.nodesL_nil]
    | cons x t ih =>
      intro hx
      rw [Fm.nodesL_cons, List.length_cons]
      have h1 := hx x (by simp)
      have h2 := ih fun y hy => hx y (by simp [hy])
      omega
  have := key l h.2
  omega
theorem mr_f (hd : HeadOk) (f g : Fm) (v1 v2 : Value) (l : List Fm) (v9 : Value) (w : World) (hE : Env w) (h1 : FAt w.heap.size w v1 f) (h2 : FAt w.heap.size w v2 g) (h9 : FArgs w.heap.size w v9 l) (s1 : Hid (¬ f.nodes ≤ 420)) :
    Calls Tryz.prog 3 #[v1, v2, v9] w fun e w' => e = .returned (.bool true) ∧ Below w.heap.size w w' := by
  obtain ⟨o9, c9, rfl⟩ := h9.shape
  have h9' := hidi h9
  clear h9
  obtain ⟨o1, c1, o2, c2, rfl, rfl, W0, hW0, HB, B3, B4⟩ := bx2_open h1 h2
  have hEc : Env W0 := hE.below HB
  go_enter Tryz.func3, Tryz.ntmps3
  go_wp2_with fail
  unfold boxO at hW0
  rw [hW0.out]
  refine (hd _ hEc).mono ?_
  rintro e V1 ⟨rfl, hs⟩
  replace B3 := hidi (B3.out.below hs)
  replace B4 := hidi (B4.out.below hs)
  replace HB := HB.trans (hs.mono HB.size)
  replace hEc := hEc.below hs
  obtain ⟨o3, c3, ⟨d30, d31, d32, d33, d34⟩, q3⟩ := B3.out.cells
  go_wp2_with fail
  clear d30 d31 d32 d33 d34
  refine (small420_no f V1.heap.size _ V1 (fm_at q3) (Nat.le_refl _) s1).mono ?_
  rintro e V2 ⟨rfl, hs⟩
  replace B3 := hidi (B3.out.below hs)
  replace B4 := hidi (B4.out.below hs)
  replace HB := HB.trans (hs.mono HB.size)
  replace hEc := hEc.below hs
  go_wp2_with fail
  go_ret
  exact ⟨rfl, HB⟩
theorem mr_g (hd : HeadOk) (f g : Fm) (v1 v2 : Value) (l : List Fm) (v9 : Value) (w : World) (hE : Env w) (h1 : FAt w.heap.size w v1 f) (h2 : FAt w.heap.size w v2 g) (h9 : FArgs w.heap.size w v9 l) (s1 : Hid (f.nodes ≤ 420)) (s2 : Hid (¬ g.nodes ≤ 420)) :
    Calls Tryz.prog 3 #[v1, v2, v9] w fun e w' => e = .returned (.bool true) ∧ Below w.heap.size w w' := by
  obtain ⟨o9, c9, rfl⟩ := h9.shape
  have h9' := hidi h9
  clear h9
  obtain ⟨o1, c1, o2, c2, rfl, rfl, W0, hW0, HB, B3, B4⟩ := bx2_open h1 h2
  have hEc : Env W0 := hE.below HB
  go_enter Tryz.func3, Tryz.ntmps3
  go_wp2_with fail
  unfold boxO at hW0
  rw [hW0.out]
  refine (hd _ hEc).mono ?_
  rintro e V1 ⟨rfl, hs⟩
  replace B3 := hidi (B3.out.below hs)
  replace B4 := hidi (B4.out.below hs)
  replace HB := HB.trans (hs.mono HB.size)
  replace hEc := hEc.below hs
  obtain ⟨o3, c3, ⟨d30, d31, d32, d33, d34⟩, q3⟩ := B3.out.cells
  go_wp2_with fail
  clear d30 d31 d32 d33 d34
  refine (small420 f V1.heap.size _ V1 (fm_at q3) (Nat.le_refl _) s1).mono ?_
  rintro e V2 ⟨rfl, hs⟩
  replace B3 := hidi (B3.out.below hs)
  replace B4 := hidi (B4.out.below hs)
  replace HB := HB.trans (hs.mono HB.size)
  replace hEc := hEc.below hs
  obtain ⟨o4, c4, ⟨d40, d41, d42, d43, d44⟩, q4⟩ := B4.out.cells
  go_wp2_with fail
  clear d40 d41 d42 d43 d44
  refine (small420_no g V2.heap.size _ V2 (fm_at q4) (Nat.le_refl _) s2).mono ?_
  rintro e V3 ⟨rfl, hs⟩
  replace B3 := hidi (B3.out.below hs)
  replace B4 := hidi (B4.out.below hs)
  replace HB := HB.trans (hs.mono HB.size)
  replace hEc := hEc.below hs
  go_wp2_with fail
  go_ret
  exact ⟨rfl, HB⟩
theorem mr_l (hd : HeadOk) (f g : Fm) (v1 v2 : Value) (l : List Fm) (v9 : Value) (w : World) (hE : Env w) (h1 : FAt w.heap.size w v1 f) (h2 : FAt w.heap.size w v2 g) (h9 : FArgs w.heap.size w v9 l) (s1 : Hid (f.nodes ≤ 420)) (s2 : Hid (g.nodes ≤ 420)) (s3 : Hid (smallsB l 100 = false)) :
    Calls Tryz.prog 3 #[v1, v2, v9] w fun e w' => e = .returned (.bool true) ∧ Below w.heap.size w w' := by
  obtain ⟨o9, c9, rfl⟩ := h9.shape
  have h9' := hidi h9
  clear h9
  obtain ⟨o1, c1, o2, c2, rfl, rfl, W0, hW0, HB, B3, B4⟩ := bx2_open h1 h2
  have hEc : Env W0 := hE.below HB
  go_enter Tryz.func3, Tryz.ntmps3
  go_wp2_with fail
  unfold boxO at hW0
  rw [hW0.out]
  refine (hd _ hEc).mono ?_
  rintro e V1 ⟨rfl, hs⟩
  replace B3 := hidi (B3.out.below hs)
  replace B4 := hidi (B4.out.below hs)
  replace HB := HB.trans (hs.mono HB.size)
  replace hEc := hEc.below hs
  obtain ⟨o3, c3, ⟨d30, d31, d32, d33, d34⟩, q3⟩ := B3.out.cells
  go_wp2_with fail
  clear d30 d31 d32 d33 d34
  refine (small420 f V1.heap.size _ V1 (fm_at q3) (Nat.le_refl _) s1).mono ?_
  rintro e V2 ⟨rfl, hs⟩
  replace B3 := hidi (B3.out.below hs)
  replace B4 := hidi (B4.out.below hs)
  replace HB := HB.trans (hs.mono HB.size)
  replace hEc := hEc.below hs
  obtain ⟨o4, c4, ⟨d40, d41, d42, d43, d44⟩, q4⟩ := B4.out.cells
  go_wp2_with fail
  clear d40 d41 d42 d43 d44
  refine (small420 g V2.heap.size _ V2 (fm_at q4) (Nat.le_refl _) s2).mono ?_
  rintro e V3 ⟨rfl, hs⟩
  replace B3 := hidi (B3.out.below hs)
  replace B4 := hidi (B4.out.below hs)
  replace HB := HB.trans (hs.mono HB.size)
  replace hEc := hEc.below hs
  go_wp2_with fail
  refine (refsmalls_any l 100 w.heap.size _ V3 (FArgsP.kept h9'.out HB (fun _ h => h)) HB.size (by omega)).mono ?_
  rintro e V4 ⟨rfl, hs⟩
  rw [s3.out]
  replace B3 := hidi (B3.out.below hs)
  replace B4 := hidi (B4.out.below hs)
  replace HB := HB.trans (hs.mono HB.size)
  replace hEc := hEc.below hs
  go_wp2_with fail
  go_ret
  exact ⟨rfl, HB⟩
theorem mr_ok (hd : HeadOk) (f g : Fm) (v1 v2 : Value) (l : List Fm) (v9 : Value) (w : World) (hE : Env w) (h1 : FAt w.heap.size w v1 f) (h2 : FAt w.heap.size w v2 g) (h9 : FArgs w.heap.size w v9 l) (s1 : Hid (f.nodes ≤ 420)) (s2 : Hid (g.nodes ≤ 420)) (s3 : Hid (smallsB l 100 = true)) :
    Calls Tryz.prog 3 #[v1, v2, v9] w fun e w' => e = .returned (.bool true) ∧ Below w.heap.size w w' := by
  obtain ⟨o9, c9, rfl⟩ := h9.shape
  have h9' := hidi h9
  clear h9
  have n1 : f.nodes ≤ 1000 := by have := s1.out; omega
  have n2 : f.depth ≤ 1000 := by have := s1.out; have := Fm.depth_le_nodes f; omega
  obtain ⟨t1, t2⟩ := smalls_nodes s3.out
  obtain ⟨va, e_va⟩ : ∃ x, Hid (fvalidB f = x) := ⟨_, hidi rfl⟩
  obtain ⟨pa, e_pa⟩ : ∃ x, Hid (pastB f = x) := ⟨_, hidi rfl⟩
  obtain ⟨la, e_la⟩ : ∃ x, Hid (layB f = x) := ⟨_, hidi rfl⟩
  obtain ⟨ke, e_ke⟩ : ∃ x, Hid (kernelB f = x) := ⟨_, hidi rfl⟩
  obtain ⟨sz, e_sz⟩ : ∃ x, Hid ((f.nodes : Int) = x) := ⟨_, hidi rfl⟩
  obtain ⟨cm, e_cm⟩ : ∃ x, Hid (cmpF f g = x) := ⟨_, hidi rfl⟩
  obtain ⟨nm, e_nm⟩ : ∃ x, Hid (namesF f = x) := ⟨_, hidi rfl⟩
  obtain ⟨nf, e_nf⟩ : ∃ x, Hid (notF f = x) := ⟨_, hidi rfl⟩
  obtain ⟨cf, e_cf⟩ : ∃ x, Hid (canonTop f = x) := ⟨_, hidi rfl⟩
  obtain ⟨kf, e_kf⟩ : ∃ x, Hid ((kernelF f).1 = x) := ⟨_, hidi rfl⟩
  obtain ⟨kn, e_kn⟩ : ∃ x, Hid ((kernelF f).2 = x) := ⟨_, hidi rfl⟩
  obtain ⟨k5, e_k5⟩ : ∃ x, Hid (combineF 5 l = x) := ⟨_, hidi rfl⟩
  obtain ⟨k6, e_k6⟩ : ∃ x, Hid (combineF 6 l = x) := ⟨_, hidi rfl⟩
  obtain ⟨o1, c1, o2, c2, rfl, rfl, W0, hW0, HB, B3, B4⟩ := bx2_open h1 h2
  have hEc : Env W0 := hE.below HB
  go_enter Tryz.func3, Tryz.ntmps3
  go_wp2_with fail
  unfold boxO at hW0
  rw [hW0.out]
  refine (hd _ hEc).mono ?_
  rintro e V1 ⟨rfl, hs⟩
  replace B3 := hidi (B3.out.below hs)
  replace B4 := hidi (B4.out.below hs)
  replace HB := HB.trans (hs.mono HB.size)
  replace hEc := hEc.below hs
  obtain ⟨o3, c3, ⟨d30, d31, d32, d33, d34⟩, q3⟩ := B3.out.cells
  go_wp2_with fail
  clear d30 d31 d32 d33 d34
  refine (small420 f V1.heap.size _ V1 (fm_at q3) (Nat.le_refl _) s1).mono ?_
  rintro e V2 ⟨rfl, hs⟩
  replace B3 := hidi (B3.out.below hs)
  replace B4 := hidi (B4.out.below hs)
  replace HB := HB.trans (hs.mono HB.size)
  replace hEc := hEc.below hs
  obtain ⟨o4, c4, ⟨d40, d41, d42, d43, d44⟩, q4⟩ := B4.out.cells
  go_wp2_with fail
  clear d40 d41 d42 d43 d44
  refine (small420 g V2.heap.size _ V2 (fm_at q4) (Nat.le_refl _) s2).mono ?_
  rintro e V3 ⟨rfl, hs⟩
  replace B3 := hidi (B3.out.below hs)
  replace B4 := hidi (B4.out.below hs)
  replace HB := HB.trans (hs.mono HB.size)
  replace hEc := hEc.below hs
  go_wp2_with fail
  refine (refsmalls_any l 100 w.heap.size _ V3 (FArgsP.kept h9'.out HB (fun _ h => h)) HB.size (by omega)).mono ?_
  rintro e V4 ⟨rfl, hs⟩
  rw [s3.out]
  replace B3 := hidi (B3.out.below hs)
  replace B4 := hidi (B4.out.below hs)
  replace HB := HB.trans (hs.mono HB.size)
  replace hEc := hEc.below hs
  go_wp2_with fail
  refine mr_r4 _ V4 _ hEc (by rfl) (by rfl) (by rfl) B3 B4 e_va e_pa e_la e_ke e_sz e_cm e_nm n1 n2 ?_
  intro x5 V5 hs
  simp only [Act.put, List.setIfInBounds_toArray, List.set_cons_zero, List.set_cons_succ]
  replace B3 := hidi (B3.out.below hs)
  replace B4 := hidi (B4.out.below hs)
  replace HB := HB.trans (hs.mono HB.size)
  replace hEc := hEc.below hs
  obtain ⟨o3, c3, ⟨d30, d31, d32, d33, d34⟩, q3⟩ := B3.out.cells
  go_wp2_with fail
  clear d30 d31 d32 d33 d34
  refine (kernel_any (fun b => b < V5.heap.size ∧ True) f _ V5 hEc q3 (fun b hb => hb.1) (by omega)).mono ?_
  rintro e V6 ⟨r, rfl, hN, hs⟩
  rw [e_kf.out] at hN
  have hq := fm_got (Ok := fun _ => True) hN hs (fun _ _ => trivial)
  replace B3 := hidi (B3.out.below hs)
  replace B4 := hidi (B4.out.below hs)
  replace HB := HB.trans (hs.mono HB.size)
  replace hEc := hEc.below hs
  obtain ⟨oo, cc, rfl, V7, hV, hs, B9, hz⟩ := bx_new hq
  unfold boxO at hV
  replace B3 := hidi (B3.out.below hs)
  replace B4 := hidi (B4.out.below hs)
  replace HB := HB.trans (hs.mono HB.size)
  replace hEc := hEc.below hs
  clear hN hq
  rw [e_kn.out]
  obtain ⟨o3, c3, ⟨d30, d31, d32, d33, d34⟩, q3⟩ := B3.out.cells
  rw [← hV.out] at d30 d31 d32 d33 d34
  go_wp2_with fail
  rw [hV.out]
  clear d30 d31 d32 d33 d34
  refine (refkern_any (fun b => b < V7.heap.size ∧ True) _ f V7 q3 (fun b hb => hb.1)).mono ?_
  rintro e V8 ⟨r, rfl, hN, hs⟩
  rw [e_kf.out] at hN
  have hq := fm_got (Ok := fun _ => True) hN hs (fun _ _ => trivial)
  replace B3 := hidi (B3.out.below hs)
  replace B4 := hidi (B4.out.below hs)
  replace B9 := hidi (B9.out.below hs)
  replace HB := HB.trans (hs.mono HB.size)
  replace hEc := hEc.below hs
  obtain ⟨oo, cc, rfl, V9, hV, hs, B11, hz⟩ := bx_new hq
  unfold boxO at hV
  replace B3 := hidi (B3.out.below hs)
  replace B4 := hidi (B4.out.below hs)
  replace B9 := hidi (B9.out.below hs)
  replace HB := HB.trans (hs.mono HB.size)
  replace hEc := hEc.below hs
  clear hN hq
  rw [e_kn.out]
  go_wp2_with fail
  rw [hV.out]
  refine mr_r7 _ V9 _ hEc (by rfl) (by rfl) (by rfl) (by rfl) (by rfl) (by rfl) B3 B9 B11 e_nf e_cf n1 ?_
  intro x10 V10 hs
  simp only [Act.put, List.setIfInBounds_toArray, List.set_cons_zero, List.set_cons_succ]
  replace B3 := hidi (B3.out.below hs)
  replace B4 := hidi (B4.out.below hs)
  replace B9 := hidi (B9.out.below hs)
  replace B11 := hidi (B11.out.below hs)
  replace HB := HB.trans (hs.mono HB.size)
  replace hEc := hEc.below hs
  go_wp2_with fail
  refine (and_any (fun b => b < w.heap.size) l _ V10 hEc (FArgsP.kept h9'.out HB (fun _ h => h)) (fun b hb => Nat.lt_of_lt_of_le hb HB.size) (by omega)).mono ?_
  rintro e V11 ⟨r5a, rfl, hN, hs⟩
  replace B3 := hidi (B3.out.below hs)
  replace B4 := hidi (B4.out.below hs)
  replace B9 := hidi (B9.out.below hs)
  replace B11 := hidi (B11.out.below hs)
  replace HB := HB.trans (hs.mono HB.size)
  replace hEc := hEc.below hs
  rw [e_k5.out] at hN
  have hF5 := hidi (hN.mono (NewP.lt (P := fun b => b < w.heap.size) fun b hb => Nat.lt_of_lt_of_le hb HB.size))
  clear hN
  go_wp2_with fail
  refine (refand_any (fun b => b < w.heap.size) _ l V11 (by omega) (by omega) (FArgsP.kept h9'.out HB (fun _ h => h)) (fun b hb => Nat.lt_of_lt_of_le hb HB.size)).mono ?_
  rintro e V12 ⟨r5b, rfl, hN, hs⟩
  replace B3 := hidi (B3.out.below hs)
  replace B4 := hidi (B4.out.below hs)
  replace B9 := hidi (B9.out.below hs)
  replace B11 := hidi (B11.out.below hs)
  replace HB := HB.trans (hs.mono HB.size)
  replace hEc := hEc.below hs
  rw [e_k5.out] at hN
  have hG5 := hidi (hN.mono (NewP.lt (P := fun b => b < w.heap.size) fun b hb => Nat.lt_of_lt_of_le hb HB.size))
  have hFF5 := hidi ((hF5.out.kept hs (fun _ h => h)).mono fun b hb => Nat.lt_of_lt_of_le hb hs.size)
  clear hN
  go_wp2_with fail
  refine (refsame_any k5 k5 V12.heap.size _ _ V12 hFF5.out hG5.out (Nat.le_refl _)).mono ?_
  rintro e V13 ⟨rfl, hs⟩
  rw [same_self]
  replace B3 := hidi (B3.out.below hs)
  replace B4 := hidi (B4.out.below hs)
  replace B9 := hidi (B9.out.below hs)
  replace B11 := hidi (B11.out.below hs)
  replace HB := HB.trans (hs.mono HB.size)
  replace hEc := hEc.below hs
  go_wp2_with fail
  refine (or_any (fun b => b < w.heap.size) l _ V13 hEc (FArgsP.kept h9'.out HB (fun _ h => h)) (fun b hb => Nat.lt_of_lt_of_le hb HB.size) (by omega)).mono ?_
  rintro e V14 ⟨r6a, rfl, hN, hs⟩
  replace B3 := hidi (B3.out.below hs)
  replace B4 := hidi (B4.out.below hs)
  replace B9 := hidi (B9.out.below hs)
  replace B11 := hidi (B11.out.below hs)
  replace HB := HB.trans (hs.mono HB.size)
  replace hEc := hEc.below hs
  rw [e_k6.out] at hN
  have hF6 := hidi (hN.mono (NewP.lt (P := fun b => b < w.heap.size) fun b hb => Nat.lt_of_lt_of_le hb HB.size))
  clear hN
  go_wp2_with fail
  refine (refor_any (fun b => b < w.heap.size) _ l V14 (by omega) (by omega) (FArgsP.kept h9'.out HB (fun _ h => h)) (fun b hb => Nat.lt_of_lt_of_le hb HB.size)).mono ?_
  rintro e V15 ⟨r6b, rfl, hN, hs⟩
  replace B3 := hidi (B3.out.below hs)
  replace B4 := hidi (B4.out.below hs)
  replace B9 := hidi (B9.out.below hs)
  replace B11 := hidi (B11.out.below hs)
  replace HB := HB.trans (hs.mono HB.size)
  replace hEc := hEc.below hs
  rw [e_k6.out] at hN
  have hG6 := hidi (hN.mono (NewP.lt (P := fun b => b < w.heap.size) fun b hb => Nat.lt_of_lt_of_le hb HB.size))
  have hFF6 := hidi ((hF6.out.kept hs (fun _ h => h)).mono fun b hb => Nat.lt_of_lt_of_le hb hs.size)
  clear hN
  go_wp2_with fail
  refine (refsame_any k6 k6 V15.heap.size _ _ V15 hFF6.out hG6.out (Nat.le_refl _)).mono ?_
  rintro e V16 ⟨rfl, hs⟩
  rw [same_self]
  replace B3 := hidi (B3.out.below hs)
  replace B4 := hidi (B4.out.below hs)
  replace B9 := hidi (B9.out.below hs)
  replace B11 := hidi (B11.out.below hs)
  replace HB := HB.trans (hs.mono HB.size)
  replace hEc := hEc.below hs
  go_wp2_with fail
  go_ret
  exact ⟨rfl, HB⟩
theorem matches_any (hd : HeadOk) (f g : Fm) (l : List Fm) (v1 v2 v9 : Value) (w : World) (hE : Env w) (h1 : FAt w.heap.size w v1 f) (h2 : FAt w.heap.size w v2 g) (h9 : FArgs w.heap.size w v9 l) :
    Calls Tryz.prog 3 #[v1, v2, v9] w fun e w' => e = .returned (.bool true) ∧ Below w.heap.size w w' := by
  by_cases s1 : f.nodes ≤ 420
  · by_cases s2 : g.nodes ≤ 420
    · cases s3 : smallsB l 100
      · exact mr_l hd f g v1 v2 l v9 w hE h1 h2 h9 (hidi s1) (hidi s2) (hidi s3)
      · exact mr_ok hd f g v1 v2 l v9 w hE h1 h2 h9 (hidi s1) (hidi s2) (hidi s3)
    · exact mr_g hd f g v1 v2 l v9 w hE h1 h2 h9 (hidi s1) (hidi s2)
  · exact mr_f hd f g v1 v2 l v9 w hE h1 h2 h9 (hidi s1)
theorem matches_par : ∀ t ∈ Tryz.f3.params.toList, Tryz.prog.readableRec t = true ∧ t < Tryz.prog.types.size := by
  rw [Tryz.params3]
  intro t ht
  simp at ht
  rcases ht with rfl | rfl
  · exact ⟨by kernel_rfl, of_decide_eq_true (by kernel_rfl)⟩
  · exact ⟨by kernel_rfl, of_decide_eq_true (by kernel_rfl)⟩
theorem matches_lifted (hd : HeadOk) (os : Os) (started : os.Started) (H : Type) (enc : TypeId × Value → H) :
    ReturnsInHanded {} Tryz.checked os 3 .any (fun w args => (Rows.formulaMatchesReferenceSpec.pre enc Tryz.prog Tryz.f3 Rows.formulaMatchesReferenceRow.domain false w args ∧ laidMetH Tryz.prog laidForms w) ∧ sizedMet enc Tryz.prog Tryz.f3 (OpenSpec.ofChange Rows.formulaMatchesReferenceSpec) false w args)
      (Rows.formulaMatchesReferenceSpec.post enc Tryz.prog Tryz.f3 false true false false) := by
  refine returnsInHanded_of_change_and (C := Tryz.checked) (X := fun w _ => laidMetH Tryz.prog laidForms w) (fun _ _ _ hh h => h.of_heap hh) Tryz.own started (by kernel_rfl) Tryz.func3
    (ChangeSpec.witness_shaped (enc := enc) (C := Tryz.checked) (os := os) (X := fun w _ => laidMetH Tryz.prog laidForms w) false (World.laidAll Tryz.prog os laidForms)
      #[.agg #[.int .i64 0, .string ⟨#[]⟩, .int .i64 0, .int .i64 0, .slice none 0 0], .agg #[.int .i64 0, .string ⟨#[]⟩, .int .i64 0, .int .i64 0, .slice none 0 0], .slice none 0 0] 8 (World.laidAll_os _ _ _)
      (World.shaped_of_ZipB (by kernel_rfl) (by kernel_rfl)) (by kernel_rfl) (by kernel_rfl) (by kernel_rfl)
      (by rw [MakeChecks.laidMetH_plain _ _ _ (by kernel_rfl)]; exact laidMet_laidAll _ (by kernel_rfl) (by kernel_rfl))) ?_
  intro W base args ds gs before hval0 hW _ _ hL _
  have hval : ∀ (j : Nat) t v, Tryz.f3.params[j]? = some t → args[j]? = some v → Value.okWide Tryz.prog W .any base t v := hval0
  have hW' := hW
  obtain ⟨p, q, hA0, hV, rfl, hfz, hnd⟩ := hW
  have hA : DataW.TrodAll enc Tryz.prog W 0 (fun _ => true) true Tryz.f3.params.toList args.toList ds p := hA0
  rw [Tryz.params3] at hA hval
  obtain ⟨v0, v1, v2, d0, d1, d2, p0, p1, p2, rfl, rfl, rfl, h0, h1, h2⟩ := trodAll_three hA
  obtain ⟨rfl, rfl⟩ := trodVars_none hV
  obtain ⟨f0, hf0⟩ := fm_openT (hval 0 24 v0 rfl rfl) h0
  obtain ⟨f1, hf1⟩ := fm_openT (hval 1 24 v1 rfl rfl) h1
  obtain ⟨l2, hl2⟩ := fms_openT (hval 2 22 v2 rfl rfl) h2
  exact law_post hW' rfl rfl matches_par rfl rfl rfl (matches_any hd f0 f1 l2 v0 v1 v2 W (env_open hL) hf0 hf1 hl2)
theorem matches_holds (hd : HeadOk) : Rows.FormulaMatchesReferenceSaid :=
  OpenClaim.holds_of_wide 3 Tryz.f3 rfl rfl rfl rfl rfl rfl rfl ⟨rfl, rfl, rfl, rfl, rfl⟩ rfl rfl rfl rfl rfl (by kernel_rfl) Tryz.func3 (by kernel_rfl)
    (of_decide_eq_true (by kernel_rfl)) (by unfold Func.isWrapper; rw [if_neg (of_decide_eq_false (by kernel_rfl))]; exact ⟨rfl, rfl⟩)
    (fun os started H enc _ => matches_lifted hd os started H enc)
theorem matches_card (hd : HeadOk) : Rows.FormulaMatchesReferenceCardSaid :=
  Claim7.holds_tied_plain_at .later [] [.data] true Rows.formulaMatchesReferenceCard.stood.harness false (matches_holds hd) (fun _ h => by cases h) (by kernel_rfl) (fun _ h => by cases h) formulaMatchesReference_row_tie rfl ⟨rfl, rfl⟩ (by kernel_rfl) rfl
    (fun f fn hf hfn => by
      obtain rfl : f = 3 := Option.some.inj ((show Tryz.prog.funcNamed "foresight/foresightlaw03.FormulaMatchesReference" = some 3 by kernel_rfl).symm.trans hf) |>.symm
      obtain rfl : fn = Tryz.f3 := (Option.some.inj (Tryz.func3.symm.trans hfn)).symm
      exact ⟨by kernel_rfl, fun j t ht => by
        rw [Tryz.params3] at ht
        have hm : t ∈ [24, 22] := by simpa using Array.mem_of_getElem? ht
        have hall : ([24, 22].all fun u => !Tryz.prog.wantsStandIn u) = true := by kernel_rfl
        exact (show Tryz.prog.wantsStandIn t = false by simpa using List.all_eq_true.1 hall t hm)⟩)
    (by kernel_rfl)

end Go.Proofs.YtbnnjbfbifihaaaGreatDoor
