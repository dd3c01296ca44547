/-
  The walk of the law FormulaKernels, given the contract of the law's head.
-/
import Derived.Test.YtlkoacopknolnaaGreatDoorGt
import Derived.Test.YtlkoacopknolnaaGreatDoorGp
import Derived.Test.YtlkoacopknolnaaGreatDoorGe
import Derived.Test.YtlkoacopknolnaaGreatDoorGb
import Derived.Test.YtlkoacopknolnaaGreatDoorGj
import Derived.Test.YtlkoacopknolnaaGreatDoorGd
namespace Go.Proofs.YtlkoacopknolnaaGreatDoor
open Go.RowKit

set_option maxRecDepth 100000 in
set_option maxHeartbeats 8000000 in
theorem ker_big (hd : HeadOk) (f : Fm) (v1 : Value) (w : World) (hE : Env w) (h1 : FAt w.heap.size w v1 f) (s1 : Hid (¬ f.nodes ≤ 420)) :
    Calls Tryz.prog 6 #[v1] w fun e w' => e = .returned (.bool true) ∧ Below w.heap.size w w' := by
  obtain ⟨o1, c1, rfl, -, hA1⟩ := h1.open
  obtain ⟨W0, hW0, hB0, hc, hlt⟩ := fm_open w (.int .i64 f.op) (.string f.name) (.int .i64 f.val) (.int .i64 f.bound) (.slice o1 f.args.length c1)
  have hE0 : Env W0 := hE.below hB0
  go_enter Tryz.func6, Tryz.ntmps6
  go_wp2_with fail
  rw [hW0.out]
  refine (hd _ hE0).mono ?_
  rintro e w1 ⟨rfl, hb1⟩
  obtain ⟨d0, d1, d2, d3, d4⟩ := hc.out.later hb1 hlt
  rw [Nat.zero_add] at d1 d2 d3 d4
  have hB1 := hB0.trans (hb1.mono hB0.size)
  go_wp2_with fail
  refine (small420_no f w.heap.size _ _ (h1.kept hB1 (Nat.le_refl _)) hB1.size s1).mono ?_
  rintro e w2 ⟨rfl, hb2⟩
  have hB2 := hB1.trans (hb2.mono hB1.size)
  have hx2 := hb1.trans (hb2.mono hb1.size)
  clear d0 d1 d2 d3 d4
  obtain ⟨d0, d1, d2, d3, d4⟩ := hc.out.later hx2 hlt
  rw [Nat.zero_add] at d1 d2 d3 d4
  go_wp2_with fail
  go_ret
  exact ⟨rfl, hB2⟩

set_option maxRecDepth 100000 in
set_option maxHeartbeats 8000000 in
theorem ker_bad (hd : HeadOk) (f : Fm) (v1 : Value) (w : World) (hE : Env w) (h1 : FAt w.heap.size w v1 f) (s1 : Hid (f.nodes ≤ 420)) (s2 : Hid (fvalidB f = false)) :
    Calls Tryz.prog 6 #[v1] w fun e w' => e = .returned (.bool true) ∧ Below w.heap.size w w' := by
  obtain ⟨o1, c1, rfl, -, hA1⟩ := h1.open
  obtain ⟨W0, hW0, hB0, hc, hlt⟩ := fm_open w (.int .i64 f.op) (.string f.name) (.int .i64 f.val) (.int .i64 f.bound) (.slice o1 f.args.length c1)
  have hE0 : Env W0 := hE.below hB0
  go_enter Tryz.func6, Tryz.ntmps6
  go_wp2_with fail
  rw [hW0.out]
  refine (hd _ hE0).mono ?_
  rintro e w1 ⟨rfl, hb1⟩
  obtain ⟨d0, d1, d2, d3, d4⟩ := hc.out.later hb1 hlt
  rw [Nat.zero_add] at d1 d2 d3 d4
  have hB1 := hB0.trans (hb1.mono hB0.size)
  go_wp2_with fail
  refine (small420 f w.heap.size _ _ (h1.kept hB1 (Nat.le_refl _)) hB1.size s1).mono ?_
  rintro e w2 ⟨rfl, hb2⟩
  have hB2 := hB1.trans (hb2.mono hB1.size)
  have hx2 := hb1.trans (hb2.mono hb1.size)
  clear d0 d1 d2 d3 d4
  obtain ⟨d0, d1, d2, d3, d4⟩ := hc.out.later hx2 hlt
  rw [Nat.zero_add] at d1 d2 d3 d4
  go_wp2_with fail
  refine (refvalid_any f w.heap.size _ _ (h1.kept hB2 (Nat.le_refl _)) hB2.size).mono ?_
  rintro e w3 ⟨rfl, hb3⟩
  rw [s2.out]
  have hB3 := hB2.trans (hb3.mono hB2.size)
  have hx3 := hx2.trans (hb3.mono hx2.size)
  clear d0 d1 d2 d3 d4
  obtain ⟨d0, d1, d2, d3, d4⟩ := hc.out.later hx3 hlt
  rw [Nat.zero_add] at d1 d2 d3 d4
  go_wp2_with fail
  go_ret
  exact ⟨rfl, hB3⟩

set_option maxRecDepth 100000 in
set_option maxHeartbeats 8000000 in
theorem ker_flat (hd : HeadOk) (f : Fm) (v1 : Value) (w : World) (hE : Env w) (h1 : FAt w.heap.size w v1 f) (s1 : Hid (f.nodes ≤ 420)) (s2 : Hid (fvalidB f = true)) (s3 : Hid (layB f = false)) :
    Calls Tryz.prog 6 #[v1] w fun e w' => e = .returned (.bool true) ∧ Below w.heap.size w w' := by
  obtain ⟨o1, c1, rfl, -, hA1⟩ := h1.open
  obtain ⟨W0, hW0, hB0, hc, hlt⟩ := fm_open w (.int .i64 f.op) (.string f.name) (.int .i64 f.val) (.int .i64 f.bound) (.slice o1 f.args.length c1)
  have hE0 : Env W0 := hE.below hB0
  go_enter Tryz.func6, Tryz.ntmps6
  go_wp2_with fail
  rw [hW0.out]
  refine (hd _ hE0).mono ?_
  rintro e w1 ⟨rfl, hb1⟩
  obtain ⟨d0, d1, d2, d3, d4⟩ := hc.out.later hb1 hlt
  rw [Nat.zero_add] at d1 d2 d3 d4
  have hB1 := hB0.trans (hb1.mono hB0.size)
  go_wp2_with fail
  refine (small420 f w.heap.size _ _ (h1.kept hB1 (Nat.le_refl _)) hB1.size s1).mono ?_
  rintro e w2 ⟨rfl, hb2⟩
  have hB2 := hB1.trans (hb2.mono hB1.size)
  have hx2 := hb1.trans (hb2.mono hb1.size)
  clear d0 d1 d2 d3 d4
  obtain ⟨d0, d1, d2, d3, d4⟩ := hc.out.later hx2 hlt
  rw [Nat.zero_add] at d1 d2 d3 d4
  go_wp2_with fail
  refine (refvalid_any f w.heap.size _ _ (h1.kept hB2 (Nat.le_refl _)) hB2.size).mono ?_
  rintro e w3 ⟨rfl, hb3⟩
  rw [s2.out]
  have hB3 := hB2.trans (hb3.mono hB2.size)
  have hx3 := hx2.trans (hb3.mono hx2.size)
  clear d0 d1 d2 d3 d4
  obtain ⟨d0, d1, d2, d3, d4⟩ := hc.out.later hx3 hlt
  rw [Nat.zero_add] at d1 d2 d3 d4
  go_wp2_with fail
  refine (reflayered_any f w.heap.size _ _ (h1.kept hB3 (Nat.le_refl _)) hB3.size).mono ?_
  rintro e w4 ⟨rfl, hb4⟩
  rw [s3.out]
  have hB4 := hB3.trans (hb4.mono hB3.size)
  have hx4 := hx3.trans (hb4.mono hx3.size)
  clear d0 d1 d2 d3 d4
  obtain ⟨d0, d1, d2, d3, d4⟩ := hc.out.later hx4 hlt
  rw [Nat.zero_add] at d1 d2 d3 d4
  go_wp2_with fail
  go_ret
  exact ⟨rfl, hB4⟩

set_option maxRecDepth 100000 in
set_option maxHeartbeats 8000000 in
theorem ker_limit (hd : HeadOk) (f : Fm) (v1 : Value) (w : World) (hE : Env w) (h1 : FAt w.heap.size w v1 f) (s1 : Hid (f.nodes ≤ 420)) (s2 : Hid (fvalidB f = true)) (s3 : Hid (layB f = true)) (k : Fm) (hke : Hid (kernelF f = (k, 2))) (hkb : Hid (kernelB f = false)) :
    Calls Tryz.prog 6 #[v1] w fun e w' => e = .returned (.bool true) ∧ Below w.heap.size w w' := by
  obtain ⟨o1, c1, rfl, -, hA1⟩ := h1.open
  obtain ⟨W0, hW0, hB0, hc, hlt⟩ := fm_open w (.int .i64 f.op) (.string f.name) (.int .i64 f.val) (.int .i64 f.bound) (.slice o1 f.args.length c1)
  have hE0 : Env W0 := hE.below hB0
  go_enter Tryz.func6, Tryz.ntmps6
  go_wp2_with fail
  rw [hW0.out]
  refine (hd _ hE0).mono ?_
  rintro e w1 ⟨rfl, hb1⟩
  obtain ⟨d0, d1, d2, d3, d4⟩ := hc.out.later hb1 hlt
  rw [Nat.zero_add] at d1 d2 d3 d4
  have hB1 := hB0.trans (hb1.mono hB0.size)
  go_wp2_with fail
  refine (small420 f w.heap.size _ _ (h1.kept hB1 (Nat.le_refl _)) hB1.size s1).mono ?_
  rintro e w2 ⟨rfl, hb2⟩
  have hB2 := hB1.trans (hb2.mono hB1.size)
  have hx2 := hb1.trans (hb2.mono hb1.size)
  clear d0 d1 d2 d3 d4
  obtain ⟨d0, d1, d2, d3, d4⟩ := hc.out.later hx2 hlt
  rw [Nat.zero_add] at d1 d2 d3 d4
  go_wp2_with fail
  refine (refvalid_any f w.heap.size _ _ (h1.kept hB2 (Nat.le_refl _)) hB2.size).mono ?_
  rintro e w3 ⟨rfl, hb3⟩
  rw [s2.out]
  have hB3 := hB2.trans (hb3.mono hB2.size)
  have hx3 := hx2.trans (hb3.mono hx2.size)
  clear d0 d1 d2 d3 d4
  obtain ⟨d0, d1, d2, d3, d4⟩ := hc.out.later hx3 hlt
  rw [Nat.zero_add] at d1 d2 d3 d4
  go_wp2_with fail
  refine (reflayered_any f w.heap.size _ _ (h1.kept hB3 (Nat.le_refl _)) hB3.size).mono ?_
  rintro e w4 ⟨rfl, hb4⟩
  rw [s3.out]
  have hB4 := hB3.trans (hb4.mono hB3.size)
  have hx4 := hx3.trans (hb4.mono hx3.size)
  clear d0 d1 d2 d3 d4
  obtain ⟨d0, d1, d2, d3, d4⟩ := hc.out.later hx4 hlt
  rw [Nat.zero_add] at d1 d2 d3 d4
  go_wp2_with fail
  have hP0 : ∀ b, b < w.heap.size → b < w4.heap.size := fun b hb => Nat.lt_of_lt_of_le hb hB4.size
  refine (kernel_any (· < w.heap.size) f _ w4 (hE.below hB4) (h1.kept hB4 (Nat.le_refl _)) hP0 (by have := s1.out; omega)).mono ?_
  rintro e wk ⟨rk, rfl, hK, hbk⟩
  rw [hke.out] at hK ⊢
  obtain ⟨ok, ck, rfl, hfk, hAk⟩ := hK.open
  have hBk := hB4.trans (hbk.mono hB4.size)
  have hb0k := hx4.trans (hbk.mono hx4.size)
  obtain ⟨WK, hWK, hBK, hzK, hcK⟩ := box_new wk k ok ck
  have hBK' := hBk.trans (hBK.mono hBk.size)
  have hb0K := hb0k.trans (hBK.mono hb0k.size)
  clear d0 d1 d2 d3 d4
  obtain ⟨d0, d1, d2, d3, d4⟩ := hc.out.later hb0K hlt
  rw [Nat.zero_add] at d1 d2 d3 d4
  rw [← hWK.out] at d0 d1 d2 d3 d4
  go_wp2_with fail
  rw [hWK.out]
  refine (iskernel_any f w.heap.size _ WK (h1.kept hBK' (Nat.le_refl _)) hBK'.size (hE.below hBK') (by have := s1.out; omega)).mono ?_
  rintro e w5 ⟨rfl, hb5⟩
  rw [hkb.out]
  have hB5 := hBK'.trans (hb5.mono hBK'.size)
  go_wp2_with fail
  go_ret
  exact ⟨rfl, hB5⟩

set_option maxRecDepth 100000 in
set_option maxHeartbeats 8000000 in
theorem ker_yes (hd : HeadOk) (f : Fm) (v1 : Value) (w : World) (hE : Env w) (h1 : FAt w.heap.size w v1 f) (s1 : Hid (f.nodes ≤ 420)) (s2 : Hid (fvalidB f = true)) (s3 : Hid (layB f = true)) (k : Fm) (hke : Hid (kernelF f = (k, 0))) (hkk : Hid (kernelF k = (k, 0))) (hkb : Hid (kernelB k = true)) (hkn : Hid (k.nodes ≤ 60)) (hkm : Hid (namesF k = namesF f)) (kf : Bool) (hkf : Hid (kernelB f = kf)) (hkf0 : Hid (kf = true)) (hcm : Hid (cmpF f k = 0)) :
    Calls Tryz.prog 6 #[v1] w fun e w' => e = .returned (.bool true) ∧ Below w.heap.size w w' := by
  obtain ⟨o1, c1, rfl, -, hA1⟩ := h1.open
  obtain ⟨W0, hW0, hB0, hc, hlt⟩ := fm_open w (.int .i64 f.op) (.string f.name) (.int .i64 f.val) (.int .i64 f.bound) (.slice o1 f.args.length c1)
  have hE0 : Env W0 := hE.below hB0
  go_enter Tryz.func6, Tryz.ntmps6
  go_wp2_with fail
  rw [hW0.out]
  refine (hd _ hE0).mono ?_
  rintro e w1 ⟨rfl, hb1⟩
  obtain ⟨d0, d1, d2, d3, d4⟩ := hc.out.later hb1 hlt
  rw [Nat.zero_add] at d1 d2 d3 d4
  have hB1 := hB0.trans (hb1.mono hB0.size)
  go_wp2_with fail
  refine (small420 f w.heap.size _ _ (h1.kept hB1 (Nat.le_refl _)) hB1.size s1).mono ?_
  rintro e w2 ⟨rfl, hb2⟩
  have hB2 := hB1.trans (hb2.mono hB1.size)
  have hx2 := hb1.trans (hb2.mono hb1.size)
  clear d0 d1 d2 d3 d4
  obtain ⟨d0, d1, d2, d3, d4⟩ := hc.out.later hx2 hlt
  rw [Nat.zero_add] at d1 d2 d3 d4
  go_wp2_with fail
  refine (refvalid_any f w.heap.size _ _ (h1.kept hB2 (Nat.le_refl _)) hB2.size).mono ?_
  rintro e w3 ⟨rfl, hb3⟩
  rw [s2.out]
  have hB3 := hB2.trans (hb3.mono hB2.size)
  have hx3 := hx2.trans (hb3.mono hx2.size)
  clear d0 d1 d2 d3 d4
  obtain ⟨d0, d1, d2, d3, d4⟩ := hc.out.later hx3 hlt
  rw [Nat.zero_add] at d1 d2 d3 d4
  go_wp2_with fail
  refine (reflayered_any f w.heap.size _ _ (h1.kept hB3 (Nat.le_refl _)) hB3.size).mono ?_
  rintro e w4 ⟨rfl, hb4⟩
  rw [s3.out]
  have hB4 := hB3.trans (hb4.mono hB3.size)
  have hx4 := hx3.trans (hb4.mono hx3.size)
  clear d0 d1 d2 d3 d4
  obtain ⟨d0, d1, d2, d3, d4⟩ := hc.out.later hx4 hlt
  rw [Nat.zero_add] at d1 d2 d3 d4
  go_wp2_with fail
  have hP0 : ∀ b, b < w.heap.size → b < w4.heap.size := fun b hb => Nat.lt_of_lt_of_le hb hB4.size
  refine (kernel_any (· < w.heap.size) f _ w4 (hE.below hB4) (h1.kept hB4 (Nat.le_refl _)) hP0 (by have := s1.out; omega)).mono ?_
  rintro e wk ⟨rk, rfl, hK, hbk⟩
  rw [hke.out] at hK ⊢
  obtain ⟨ok, ck, rfl, hfk, hAk⟩ := hK.open
  have hBk := hB4.trans (hbk.mono hB4.size)
  have hb0k := hx4.trans (hbk.mono hx4.size)
  obtain ⟨WK, hWK, hBK, hzK, hcK⟩ := box_new wk k ok ck
  have hBK' := hBk.trans (hBK.mono hBk.size)
  have hb0K := hb0k.trans (hBK.mono hb0k.size)
  have hKk : FAtP (· < WK.heap.size) WK (.agg #[.int .i64 k.op, .string k.name, .int .i64 k.val, .int .i64 k.bound, .slice ok k.args.length ck]) k :=
    FAtP.mono (hK.kept hBK (fun b hb => hb.elim (fun h => Nat.lt_of_lt_of_le h hBk.size) (fun h => h.2))) (fun b hb => hb.elim (fun h => Nat.lt_of_lt_of_le h hBK'.size) (fun h => Nat.lt_of_lt_of_le h.2 hBK.size))
  obtain ⟨k0, k1, k2, k3, k4⟩ := hcK.out
  rw [Nat.zero_add] at k1 k2 k3 k4
  rw [← hWK.out] at k0 k1 k2 k3 k4
  clear d0 d1 d2 d3 d4
  go_wp2_with fail
  rw [hWK.out]
  refine (kernel_any (· < WK.heap.size) k _ WK (hE.below hBK') hKk (fun b hb => hb) (by have := hkn.out; omega)).mono ?_
  rintro e wm ⟨rm, rfl, hM, hbm⟩
  rw [hkk.out] at hM ⊢
  obtain ⟨om, cm, rfl, hfm, hAm⟩ := hM.open
  have hBm := hBK'.trans (hbm.mono hBK'.size)
  obtain ⟨WM, hWM, hBM, hzM, hcM⟩ := box_new wm k om cm
  have hKM : Below WK.heap.size WK WM := hbm.trans (hBM.mono hbm.size)
  have hBM' := hBK'.trans (hKM.mono hBK'.size)
  have hb0M := hb0K.trans (hKM.mono hb0K.size)
  have hKkM := hKk.kept hKM fun b hb => hb
  have hMM : FAtP (· < WM.heap.size) WM (.agg #[.int .i64 k.op, .string k.name, .int .i64 k.val, .int .i64 k.bound, .slice om k.args.length cm]) k :=
    FAtP.mono (hM.kept hBM (fun b hb => hb.elim (fun h => Nat.lt_of_lt_of_le h hbm.size) (fun h => h.2))) (fun b hb => hb.elim (fun h => Nat.lt_of_lt_of_le h hKM.size) (fun h => Nat.lt_of_lt_of_le h.2 hBM.size))
  clear k0 k1 k2 k3 k4
  obtain ⟨k0, k1, k2, k3, k4⟩ := hcK.out.below hKM (by omega)
  obtain ⟨m0, m1, m2, m3, m4⟩ := hcM.out
  rw [Nat.zero_add] at k1 k2 k3 k4 m1 m2 m3 m4
  rw [← hWM.out] at k0 k1 k2 k3 k4 m0 m1 m2 m3 m4
  go_wp2_with fail
  rw [hWM.out]
  refine (iskernel_any k WM.heap.size _ WM (hKkM.mono fun b hb => Nat.lt_of_lt_of_le hb hKM.size) (Nat.le_refl _) (hE.below hBM') (by have := hkn.out; omega)).mono ?_
  rintro e w6 ⟨rfl, hb6⟩
  rw [hkb.out]
  have hKM6 := hKM.trans (hb6.mono hKM.size)
  clear k0 k1 k2 k3 k4 m0 m1 m2 m3 m4
  obtain ⟨k0, k1, k2, k3, k4⟩ := hcK.out.below hKM6 (by omega)
  obtain ⟨m0, m1, m2, m3, m4⟩ := hcM.out.below hb6 (by omega)
  rw [Nat.zero_add] at k1 k2 k3 k4 m1 m2 m3 m4
  go_wp2_with fail
  have hcmp := compare_any k k WM.heap.size _ _ w6 ((hKkM.mono fun b hb => Nat.lt_of_lt_of_le hb hKM.size).kept hb6 fun b hb => hb) (hMM.kept hb6 fun b hb => hb) hb6.size
  rw [(good_fm k).refl] at hcmp
  refine hcmp.mono ?_
  rintro e w7 ⟨rfl, hb7⟩
  have hb67 := hb6.trans (hb7.mono hb6.size)
  have hKM7 := hKM.trans (hb67.mono hKM.size)
  have hB7 := hBM'.trans (hb67.mono hBM'.size)
  have hb07 := hb0M.trans (hb67.mono hb0M.size)
  have hKk7 := hKk.kept hKM7 fun b hb => hb
  have hz7 := hKM7.size
  clear k0 k1 k2 k3 k4 m0 m1 m2 m3 m4
  have hD : Below w7.heap.size w7 w7.drew := (Below.refl _ w7).drew
  have hSB : Hid (∀ W, Below w7.heap.size w7 W → W.cell? ⟨w.heap.size, 0, none⟩ = some (.int .i64 f.op) ∧ W.cell? ⟨w.heap.size, 1, none⟩ = some (.string f.name) ∧ W.cell? ⟨w.heap.size, 2, none⟩ = some (.int .i64 f.val) ∧ W.cell? ⟨w.heap.size, 3, none⟩ = some (.int .i64 f.bound) ∧ W.cell? ⟨w.heap.size, 4, none⟩ = some (.slice o1 f.args.length c1) ∧ W.cell? ⟨wk.heap.size, 0, none⟩ = some (.int .i64 k.op) ∧ W.cell? ⟨wk.heap.size, 1, none⟩ = some (.string k.name) ∧ W.cell? ⟨wk.heap.size, 2, none⟩ = some (.int .i64 k.val) ∧ W.cell? ⟨wk.heap.size, 3, none⟩ = some (.int .i64 k.bound) ∧ W.cell? ⟨wk.heap.size, 4, none⟩ = some (.slice ok k.args.length ck)) := by
    intro W hB
    obtain ⟨a0, a1, a2, a3, a4⟩ := hc.out.later (hb07.trans (hB.mono hb07.size)) hlt
    obtain ⟨b0, b1, b2, b3, b4⟩ := hcK.out.below (hKM7.trans (hB.mono hKM7.size)) (by omega)
    rw [Nat.zero_add] at a1 a2 a3 a4 b1 b2 b3 b4
    exact ⟨a0, a1, a2, a3, a4, b0, b1, b2, b3, b4⟩
  have hk0 : Hid (w7.drew.cell? ⟨w.heap.size, 0, none⟩ = some (.int .i64 f.op) ∧ w7.drew.cell? ⟨w.heap.size, 1, none⟩ = some (.string f.name) ∧ w7.drew.cell? ⟨w.heap.size, 2, none⟩ = some (.int .i64 f.val) ∧ w7.drew.cell? ⟨w.heap.size, 3, none⟩ = some (.int .i64 f.bound) ∧ w7.drew.cell? ⟨w.heap.size, 4, none⟩ = some (.slice o1 f.args.length c1) ∧ w7.drew.cell? ⟨wk.heap.size, 0, none⟩ = some (.int .i64 k.op) ∧ w7.drew.cell? ⟨wk.heap.size, 1, none⟩ = some (.string k.name) ∧ w7.drew.cell? ⟨wk.heap.size, 2, none⟩ = some (.int .i64 k.val) ∧ w7.drew.cell? ⟨wk.heap.size, 3, none⟩ = some (.int .i64 k.bound) ∧ w7.drew.cell? ⟨wk.heap.size, 4, none⟩ = some (.slice ok k.args.length ck)) := hSB.out _ hD
  have hk1 : Hid (∀ W, Below w7.drew.heap.size w7.drew W → W.cell? ⟨w.heap.size, 0, none⟩ = some (.int .i64 f.op) ∧ W.cell? ⟨w.heap.size, 1, none⟩ = some (.string f.name) ∧ W.cell? ⟨w.heap.size, 2, none⟩ = some (.int .i64 f.val) ∧ W.cell? ⟨w.heap.size, 3, none⟩ = some (.int .i64 f.bound) ∧ W.cell? ⟨w.heap.size, 4, none⟩ = some (.slice o1 f.args.length c1) ∧ W.cell? ⟨wk.heap.size, 0, none⟩ = some (.int .i64 k.op) ∧ W.cell? ⟨wk.heap.size, 1, none⟩ = some (.string k.name) ∧ W.cell? ⟨wk.heap.size, 2, none⟩ = some (.int .i64 k.val) ∧ W.cell? ⟨wk.heap.size, 3, none⟩ = some (.int .i64 k.bound) ∧ W.cell? ⟨wk.heap.size, 4, none⟩ = some (.slice ok k.args.length ck)) := fun W hB => hSB.out _ (hD.trans hB)
  have hFW : Hid (∀ W, Below w7.heap.size w7 W → FAt W.heap.size W (.agg #[.int .i64 f.op, .string f.name, .int .i64 f.val, .int .i64 f.bound, .slice o1 f.args.length c1]) f) := fun W hB => by
    have h5 := hB7.trans (hB.mono hB7.size)
    exact (h1.kept h5 (Nat.le_refl _)).mono h5.size
  have hKW : Hid (∀ W, Below w7.heap.size w7 W → FAt W.heap.size W (.agg #[.int .i64 k.op, .string k.name, .int .i64 k.val, .int .i64 k.bound, .slice ok k.args.length ck]) k) := fun W hB => by
    have h5 := hKM7.trans (hB.mono hKM7.size)
    exact FAtP.mono (hKk7.kept hB fun b hb => Nat.lt_of_lt_of_le hb hz7) fun b hb => Nat.lt_of_lt_of_le hb h5.size
  have hEW : Hid (∀ W, Below w7.heap.size w7 W → Env W) := fun W hB => hE.below (hB7.trans (hB.mono hB7.size))
  have hC1 := hidi (names_any f w7.drew.heap.size _ w7.drew (hFW.out _ hD) (Nat.le_refl _) (hEW.out _ hD) (by have := s1.out; omega))
  have hC2 : Hid (∀ W, Below w7.drew.heap.size w7.drew W → Calls Tryz.prog 26 #[.agg #[.int .i64 k.op, .string k.name, .int .i64 k.val, .int .i64 k.bound, .slice ok k.args.length ck]] W fun e w' => ∃ r, e = .returned r ∧ StrsP (fun b => W.heap.size ≤ b ∧ b < w'.heap.size) w' r (namesF f) ∧ Below W.heap.size W w') := by
    intro W hB
    have := names_any k W.heap.size _ W (hKW.out _ (hD.trans hB)) (Nat.le_refl _) (hEW.out _ (hD.trans hB)) (by have := hkn.out; omega)
    rw [hkm.out] at this
    exact this
  have hC3 : Hid (∀ (W0 W1 W2 : World) (r s : Value), Below W1.heap.size W1 W2 → StrsP (fun b => W0.heap.size ≤ b ∧ b < W1.heap.size) W1 r (namesF f) → StrsP (fun b => W1.heap.size ≤ b ∧ b < W2.heap.size) W2 s (namesF f) → Calls Tryz.prog 25 #[r, s] W2 fun e w' => e = .returned (.bool true) ∧ Below W2.heap.size W2 w') := by
    intro W0 W1 W2 r s hB hr hs
    have hz := hB.size
    have := strings_any W2.heap.size r s _ _ W2 ((hr.kept hB fun b (hb : W0.heap.size ≤ b ∧ b < W1.heap.size) => hb.2).mono fun b (hb : W0.heap.size ≤ b ∧ b < W1.heap.size) => Nat.lt_of_lt_of_le hb.2 hz) (hs.mono fun b (hb : W1.heap.size ≤ b ∧ b < W2.heap.size) => hb.2) (Nat.le_refl _)
    rw [strsB_self] at this
    exact this
  have hC4 : Hid (∀ W, Below w7.drew.heap.size w7.drew W → Calls Tryz.prog 28 #[.agg #[.int .i64 f.op, .string f.name, .int .i64 f.val, .int .i64 f.bound, .slice o1 f.args.length c1]] W fun e w' => e = .returned (.bool kf) ∧ Below W.heap.size W w') := by
    intro W hB
    have := iskernel_any f W.heap.size _ W (hFW.out _ (hD.trans hB)) (Nat.le_refl _) (hEW.out _ (hD.trans hB)) (by have := s1.out; omega)
    rw [hkf.out] at this
    exact this
  obtain rfl := hkf0.out
  have hC5 : Hid (∀ W, Below w7.drew.heap.size w7.drew W → Calls Tryz.prog 19 #[.agg #[.int .i64 f.op, .string f.name, .int .i64 f.val, .int .i64 f.bound, .slice o1 f.args.length c1], .agg #[.int .i64 k.op, .string k.name, .int .i64 k.val, .int .i64 k.bound, .slice ok k.args.length ck]] W fun e w' => e = .returned (.int .i64 0) ∧ Below W.heap.size W w') := by
    intro W hB
    have := compare_any f k W.heap.size _ _ W (hFW.out _ (hD.trans hB)) (hKW.out _ (hD.trans hB)) (Nat.le_refl _)
    rw [hcm.out] at this
    exact this
  go_wp2_with fail
  go_region_held3 (fun X => X.cell? ⟨w.heap.size, 0, none⟩ = some (.int .i64 f.op) ∧ X.cell? ⟨w.heap.size, 1, none⟩ = some (.string f.name) ∧ X.cell? ⟨w.heap.size, 2, none⟩ = some (.int .i64 f.val) ∧ X.cell? ⟨w.heap.size, 3, none⟩ = some (.int .i64 f.bound) ∧ X.cell? ⟨w.heap.size, 4, none⟩ = some (.slice o1 f.args.length c1) ∧ X.cell? ⟨wk.heap.size, 0, none⟩ = some (.int .i64 k.op) ∧ X.cell? ⟨wk.heap.size, 1, none⟩ = some (.string k.name) ∧ X.cell? ⟨wk.heap.size, 2, none⟩ = some (.int .i64 k.val) ∧ X.cell? ⟨wk.heap.size, 3, none⟩ = some (.int .i64 k.bound) ∧ X.cell? ⟨wk.heap.size, 4, none⟩ = some (.slice ok k.args.length ck))
    (first | with_reducible exact hk0.out | with_reducible exact hk1.out _ hb9 | with_reducible exact hk1.out _ hb8.out | with_reducible exact hk1.out _ hb10.out | with_reducible exact hk1.out _ hb11.out | with_reducible exact hk1.out _ hb12.out)
    (first | (go_at_call 26; (with_reducible refine hC1.out.mono ?_); rintro e w9 ⟨r9, rfl, hS9, hb9⟩; have hS9' := hidi hS9; have hb9' := hidi hb9) | (go_at_call 26; (with_reducible refine (hC2.out _ hb9'.out).mono ?_); rintro e w10 ⟨r10, rfl, hS10, hb10'⟩; have hS10' := hidi hS10; have hb10h := hidi hb10'; have hb8 := hidi (hb9'.out.trans (hb10'.mono hb9'.out.size))) | (go_at_call 25; (with_reducible refine (hC3.out _ _ _ _ _ hb10h.out hS9'.out hS10'.out).mono ?_); rintro e w11 ⟨rfl, hb11'⟩; have hb10 := hidi (hb8.out.trans (hb11'.mono hb8.out.size))) | (go_at_call 28; (with_reducible refine (hC4.out _ hb10.out).mono ?_); rintro e w12 ⟨rfl, hb12'⟩; have hb11 := hidi (hb10.out.trans (hb12'.mono hb10.out.size))) | (go_at_call 19; (with_reducible refine (hC5.out _ hb11.out).mono ?_); rintro e w13 ⟨rfl, hb13'⟩; have hb12 := hidi (hb11.out.trans (hb13'.mono hb11.out.size))))
  go_wp2_with fail
  go_ret
  exact ⟨rfl, hB7.drew.trans (hb12.out.mono hB7.drew.size)⟩

end Go.Proofs.YtlkoacopknolnaaGreatDoor
