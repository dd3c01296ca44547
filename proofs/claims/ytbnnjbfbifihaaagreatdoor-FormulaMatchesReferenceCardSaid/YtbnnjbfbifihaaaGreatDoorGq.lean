/-
  Contracts that the formula laws stand on, part Gq.
-/
import Derived.Test.YtbnnjbfbifihaaaGreatDoorGl
import Derived.Test.YtbnnjbfbifihaaaGreatDoorGn
import Derived.Test.YtbnnjbfbifihaaaGreatDoorGo
import Derived.Test.YtbnnjbfbifihaaaGreatDoorGp

/-
  The law's head returns true.
-/
namespace Go.Proofs.YtbnnjbfbifihaaaGreatDoor
open Go.RowKit

theorem fm_new {W W2 : World} {r : Value} {f : Fm} (h : FAtP (NewP (fun b => b < W.heap.size) W W2) W2 r f) (hB : Below W.heap.size W W2) : FAt W2.heap.size W2 r f :=
  FAtP.mono h fun b hb => by
    have := hB.size
    rcases hb with h1 | ⟨h1, h2⟩
    · omega
    · exact h2
theorem BoxF.cells {n0 : Nat} {W : World} {k : Nat} {f : Fm} {o : Option Addr} {c : Nat} (h : BoxF n0 W k f o c) : W.cell? ⟨k, 0, none⟩ = some (.int .i64 f.op) ∧ W.cell? ⟨k, 1, none⟩ = some (.string f.name) ∧ W.cell? ⟨k, 2, none⟩ = some (.int .i64 f.val) ∧ W.cell? ⟨k, 3, none⟩ = some (.int .i64 f.bound) ∧ W.cell? ⟨k, 4, none⟩ = some (.slice o f.args.length c) := by
  obtain ⟨-, ⟨b0, b1, b2, b3, b4⟩, -, -⟩ := h
  rw [Nat.zero_add] at b1 b2 b3 b4
  exact ⟨b0, b1, b2, b3, b4⟩
theorem BoxF.fat {n0 : Nat} {W : World} {k : Nat} {f : Fm} {o : Option Addr} {c : Nat} (h : BoxF n0 W k f o c) : FAt n0 W (.agg #[.int .i64 f.op, .string f.name, .int .i64 f.val, .int .i64 f.bound, .slice o f.args.length c]) f := ⟨_, rfl, h.2.2.1, h.2.2.2⟩
theorem box_made (W : World) (f : Fm) (o : Option Addr) (c : Nat) (hf : Fits f) (ha : FArgs W.heap.size W (.slice o f.args.length c) f.args) :
    BoxF (W.alloc (.cells #[.int .i64 f.op, .string f.name, .int .i64 f.val, .int .i64 f.bound, .slice o f.args.length c] 24)).heap.size (W.alloc (.cells #[.int .i64 f.op, .string f.name, .int .i64 f.val, .int .i64 f.bound, .slice o f.args.length c] 24)) W.heap.size f o c :=
  ⟨by simp, box5 W _ _ _ _ _ _, hf, ha.next (below_box W _)⟩

theorem fits_k2 : Fits hK2 := ⟨i64_of (z := 13) (by decide) (by decide), size_0, i64_0, i64_of (z := 2) (by decide) (by decide)⟩
theorem fits_k4 : Fits hK4 := ⟨i64_of (z := 13) (by decide) (by decide), size_0, i64_0, i64_of (z := 9) (by decide) (by decide)⟩
theorem fits_zf : Fits zeroF := ⟨i64_0, size_0, i64_0, i64_0⟩

set_option maxRecDepth 100000 in
set_option maxHeartbeats 8000000 in
theorem head_ok : HeadOk := by
  intro w hE
  have hC : Below w.heap.size w w := Below.refl _ _
  go_enter Tryz.func12, Tryz.ntmps12
  go_wp2_with fail
  refine (refis_any (fun b => b < w.heap.size) ⟨#[97]⟩ 1 w (by decide) (i64_of (by decide) (by decide))).mono ?_
  rintro e w1 ⟨r1, rfl, g1, hb1⟩
  replace g1 : FAt w1.heap.size w1 r1 hA := fm_new g1 hb1
  replace hC := hC.trans (hb1.mono hC.size)
  replace hE := hE.below hb1
  obtain ⟨o1, c1, rfl, hf1, ha1⟩ := g1.open
  obtain ⟨X1, hX1⟩ : ∃ X, Hid (w1.alloc (.cells #[.int .i64 hA.op, .string hA.name, .int .i64 hA.val, .int .i64 hA.bound, .slice o1 hA.args.length c1] 24) = X) := ⟨_, hidi rfl⟩
  have hbx1 : Below w1.heap.size w1 X1 := by rw [← hX1.out]; exact below_box _ _
  have B1 : Hid (BoxF X1.heap.size X1 w1.heap.size hA o1 c1) := by unfold Hid; rw [← hX1.out]; exact box_made w1 hA o1 c1 hf1 ha1
  replace hC := hC.trans (hbx1.mono hC.size)
  replace hE := hE.below hbx1
  go_wp2_with fail
  rw [hX1.out]
  refine (refis_any (fun b => b < X1.heap.size) ⟨#[98]⟩ 1 X1 (by decide) (i64_of (by decide) (by decide))).mono ?_
  rintro e w2 ⟨r2, rfl, g2, hb2⟩
  replace g2 : FAt w2.heap.size w2 r2 hB := fm_new g2 hb2
  replace B1 := hidi ((B1.out.next (Nat.le_refl _) hb2).up hb2.size)
  replace hC := hC.trans (hb2.mono hC.size)
  replace hE := hE.below hb2
  obtain ⟨o2, c2, rfl, hf2, ha2⟩ := g2.open
  obtain ⟨X2, hX2⟩ : ∃ X, Hid (w2.alloc (.cells #[.int .i64 hB.op, .string hB.name, .int .i64 hB.val, .int .i64 hB.bound, .slice o2 hB.args.length c2] 24) = X) := ⟨_, hidi rfl⟩
  have hbx2 : Below w2.heap.size w2 X2 := by rw [← hX2.out]; exact below_box _ _
  have B2 : Hid (BoxF X2.heap.size X2 w2.heap.size hB o2 c2) := by unfold Hid; rw [← hX2.out]; exact box_made w2 hB o2 c2 hf2 ha2
  replace B1 := hidi ((B1.out.next (Nat.le_refl _) hbx2).up hbx2.size)
  replace hC := hC.trans (hbx2.mono hC.size)
  replace hE := hE.below hbx2
  obtain ⟨y10, y11, y12, y13, y14⟩ := B1.out.cells
  rw [← hX2.out] at y10 y11 y12 y13 y14
  go_wp2_with fail
  rw [hX2.out]
  refine (refone_any (fun b => b < X2.heap.size) 12 _ hA X2 (B1.out.fat) (fun _ h => h) (i64_of (by decide) (by decide))).mono ?_
  rintro e w3 ⟨r3, rfl, g3, hb3⟩
  replace g3 : FAt w3.heap.size w3 r3 hGA := fm_new g3 hb3
  replace B1 := hidi ((B1.out.next (Nat.le_refl _) hb3).up hb3.size)
  replace B2 := hidi ((B2.out.next (Nat.le_refl _) hb3).up hb3.size)
  replace hC := hC.trans (hb3.mono hC.size)
  replace hE := hE.below hb3
  clear y10 y11 y12 y13 y14
  go_wp2_with fail
  refine (refone_any (fun b => b < w3.heap.size) 4 _ hGA w3 g3 (fun _ h => h) (i64_of (by decide) (by decide))).mono ?_
  rintro e w4 ⟨r4, rfl, g4, hb4⟩
  replace g4 : FAt w4.heap.size w4 r4 hK1 := fm_new g4 hb4
  replace B1 := hidi ((B1.out.next (Nat.le_refl _) hb4).up hb4.size)
  replace B2 := hidi ((B2.out.next (Nat.le_refl _) hb4).up hb4.size)
  replace hC := hC.trans (hb4.mono hC.size)
  replace hE := hE.below hb4
  go_wp2_with fail
  refine (kernel_any (fun b => b < w4.heap.size) hK1 _ w4 hE g4 (fun _ h => h) (by decide +kernel)).mono ?_
  rintro e w5 ⟨r5, rfl, g5, hb5⟩
  rw [hd_k1] at g5 ⊢
  replace g5 : FAt w5.heap.size w5 r5 hX := fm_new g5 hb5
  replace B1 := hidi ((B1.out.next (Nat.le_refl _) hb5).up hb5.size)
  replace B2 := hidi ((B2.out.next (Nat.le_refl _) hb5).up hb5.size)
  replace hC := hC.trans (hb5.mono hC.size)
  replace hE := hE.below hb5
  obtain ⟨o5, c5, rfl, hf5, ha5⟩ := g5.open
  obtain ⟨X5, hX5⟩ : ∃ X, Hid (w5.alloc (.cells #[.int .i64 hX.op, .string hX.name, .int .i64 hX.val, .int .i64 hX.bound, .slice o5 hX.args.length c5] 24) = X) := ⟨_, hidi rfl⟩
  have hbx5 : Below w5.heap.size w5 X5 := by rw [← hX5.out]; exact below_box _ _
  have B3 : Hid (BoxF X5.heap.size X5 w5.heap.size hX o5 c5) := by unfold Hid; rw [← hX5.out]; exact box_made w5 hX o5 c5 hf5 ha5
  replace B1 := hidi ((B1.out.next (Nat.le_refl _) hbx5).up hbx5.size)
  replace B2 := hidi ((B2.out.next (Nat.le_refl _) hbx5).up hbx5.size)
  replace hC := hC.trans (hbx5.mono hC.size)
  replace hE := hE.below hbx5
  obtain ⟨y10, y11, y12, y13, y14⟩ := B1.out.cells
  rw [← hX5.out] at y10 y11 y12 y13 y14
  go_wp2_with fail
  rw [hX5.out]
  obtain ⟨Y6, hY6⟩ : ∃ Y, Hid (X5.alloc (.cells #[.int .i64 hA.op, .string hA.name, .int .i64 hA.val, .int .i64 hA.bound, .slice o1 hA.args.length c1] 24) = Y) := ⟨_, hidi rfl⟩
  have hby6 : Below X5.heap.size X5 Y6 := by rw [← hY6.out]; exact below_box _ _
  have hz6 : w5.heap.size + 1 = X5.heap.size := by rw [← hX5.out]; simp
  have hl6 : FArgsP (fun b => b < Y6.heap.size) Y6 (.slice (some ⟨w5.heap.size + 1, 0, none⟩) 1 1) [hA] := by
    rw [hz6, ← hY6.out]
    exact one_list X5 hA _ B1.out.2.2.1 (FArgsP.mono (FArgsP.kept (P := fun b => b < X5.heap.size) B1.out.2.2.2 (below_box X5 _) (fun _ h => h)) fun b hb => Nat.lt_of_lt_of_le hb (below_box X5 _).size) (by simp)
  rw [hY6.out]
  clear y10 y11 y12 y13 y14
  replace B1 := hidi ((B1.out.next (Nat.le_refl _) hby6).up hby6.size)
  replace B2 := hidi ((B2.out.next (Nat.le_refl _) hby6).up hby6.size)
  replace B3 := hidi ((B3.out.next (Nat.le_refl _) hby6).up hby6.size)
  replace hC := hC.trans (hby6.mono hC.size)
  replace hE := hE.below hby6
  refine (kernel_any (fun b => b < Y6.heap.size) hK2 _ Y6 hE ⟨_, rfl, fits_k2, hl6⟩ (fun _ h => h) (by decide +kernel)).mono ?_
  rintro e w7 ⟨r7, rfl, g7, hb7⟩
  rw [hd_k2] at g7 ⊢
  replace g7 : FAt w7.heap.size w7 r7 hY := fm_new g7 hb7
  replace B1 := hidi ((B1.out.next (Nat.le_refl _) hb7).up hb7.size)
  replace B2 := hidi ((B2.out.next (Nat.le_refl _) hb7).up hb7.size)
  replace B3 := hidi ((B3.out.next (Nat.le_refl _) hb7).up hb7.size)
  replace hC := hC.trans (hb7.mono hC.size)
  replace hE := hE.below hb7
  obtain ⟨o7, c7, rfl, hf7, ha7⟩ := g7.open
  obtain ⟨X7, hX7⟩ : ∃ X, Hid (w7.alloc (.cells #[.int .i64 hY.op, .string hY.name, .int .i64 hY.val, .int .i64 hY.bound, .slice o7 hY.args.length c7] 24) = X) := ⟨_, hidi rfl⟩
  have hbx7 : Below w7.heap.size w7 X7 := by rw [← hX7.out]; exact below_box _ _
  have B5 : Hid (BoxF X7.heap.size X7 w7.heap.size hY o7 c7) := by unfold Hid; rw [← hX7.out]; exact box_made w7 hY o7 c7 hf7 ha7
  replace B1 := hidi ((B1.out.next (Nat.le_refl _) hbx7).up hbx7.size)
  replace B2 := hidi ((B2.out.next (Nat.le_refl _) hbx7).up hbx7.size)
  replace B3 := hidi ((B3.out.next (Nat.le_refl _) hbx7).up hbx7.size)
  replace hC := hC.trans (hbx7.mono hC.size)
  replace hE := hE.below hbx7
  go_wp2_with fail
  rw [hX7.out]
  refine (refone_any (fun b => b < X7.heap.size) 11 _ zeroF X7 ⟨_, rfl, fits_zf, .nil _ _⟩ (fun _ h => h) (i64_of (by decide) (by decide))).mono ?_
  rintro e w8 ⟨r8, rfl, g8, hb8⟩
  replace g8 : FAt w8.heap.size w8 r8 hK3 := fm_new g8 hb8
  replace B1 := hidi ((B1.out.next (Nat.le_refl _) hb8).up hb8.size)
  replace B2 := hidi ((B2.out.next (Nat.le_refl _) hb8).up hb8.size)
  replace B3 := hidi ((B3.out.next (Nat.le_refl _) hb8).up hb8.size)
  replace B5 := hidi ((B5.out.next (Nat.le_refl _) hb8).up hb8.size)
  replace hC := hC.trans (hb8.mono hC.size)
  replace hE := hE.below hb8
  go_wp2_with fail
  refine (kernel_any (fun b => b < w8.heap.size) hK3 _ w8 hE g8 (fun _ h => h) (by decide +kernel)).mono ?_
  rintro e w9 ⟨r9, rfl, g9, hb9⟩
  rw [hd_k3]
  generalize (kernelF hK3).1 = kf9 at g9
  replace g9 : FAt w9.heap.size w9 r9 kf9 := fm_new g9 hb9
  replace B1 := hidi ((B1.out.next (Nat.le_refl _) hb9).up hb9.size)
  replace B2 := hidi ((B2.out.next (Nat.le_refl _) hb9).up hb9.size)
  replace B3 := hidi ((B3.out.next (Nat.le_refl _) hb9).up hb9.size)
  replace B5 := hidi ((B5.out.next (Nat.le_refl _) hb9).up hb9.size)
  replace hC := hC.trans (hb9.mono hC.size)
  replace hE := hE.below hb9
  obtain ⟨o9, c9, rfl, hf9, ha9⟩ := g9.open
  obtain ⟨X9, hX9⟩ : ∃ X, Hid (w9.alloc (.cells #[.int .i64 kf9.op, .string kf9.name, .int .i64 kf9.val, .int .i64 kf9.bound, .slice o9 kf9.args.length c9] 24) = X) := ⟨_, hidi rfl⟩
  have hbx9 : Below w9.heap.size w9 X9 := by rw [← hX9.out]; exact below_box _ _
  replace B1 := hidi ((B1.out.next (Nat.le_refl _) hbx9).up hbx9.size)
  replace B2 := hidi ((B2.out.next (Nat.le_refl _) hbx9).up hbx9.size)
  replace B3 := hidi ((B3.out.next (Nat.le_refl _) hbx9).up hbx9.size)
  replace B5 := hidi ((B5.out.next (Nat.le_refl _) hbx9).up hbx9.size)
  replace hC := hC.trans (hbx9.mono hC.size)
  replace hE := hE.below hbx9
  obtain ⟨y10, y11, y12, y13, y14⟩ := B1.out.cells
  obtain ⟨y20, y21, y22, y23, y24⟩ := B2.out.cells
  rw [← hX9.out] at y10 y11 y12 y13 y14 y20 y21 y22 y23 y24
  go_wp2_with fail
  rw [hX9.out]
  refine (reftwo_any (fun b => b < X9.heap.size) 5 _ _ hA hB X9 (B1.out.fat) (B2.out.fat) (fun _ h => h) (i64_of (by decide) (by decide))).mono ?_
  rintro e w10 ⟨r10, rfl, g10, hb10⟩
  replace g10 : FAt w10.heap.size w10 r10 hAB := fm_new g10 hb10
  replace B1 := hidi ((B1.out.next (Nat.le_refl _) hb10).up hb10.size)
  replace B2 := hidi ((B2.out.next (Nat.le_refl _) hb10).up hb10.size)
  replace B3 := hidi ((B3.out.next (Nat.le_refl _) hb10).up hb10.size)
  replace B5 := hidi ((B5.out.next (Nat.le_refl _) hb10).up hb10.size)
  replace hC := hC.trans (hb10.mono hC.size)
  replace hE := hE.below hb10
  clear y10 y11 y12 y13 y14 y20 y21 y22 y23 y24
  go_wp2_with fail
  refine (refone_any (fun b => b < w10.heap.size) 11 _ hAB w10 g10 (fun _ h => h) (i64_of (by decide) (by decide))).mono ?_
  rintro e w11 ⟨r11, rfl, g11, hb11⟩
  replace g11 : FAt w11.heap.size w11 r11 hFab := fm_new g11 hb11
  replace B1 := hidi ((B1.out.next (Nat.le_refl _) hb11).up hb11.size)
  replace B2 := hidi ((B2.out.next (Nat.le_refl _) hb11).up hb11.size)
  replace B3 := hidi ((B3.out.next (Nat.le_refl _) hb11).up hb11.size)
  replace B5 := hidi ((B5.out.next (Nat.le_refl _) hb11).up hb11.size)
  replace hC := hC.trans (hb11.mono hC.size)
  replace hE := hE.below hb11
  obtain ⟨oq, cq, rfl, hfq, haq⟩ := g11.open
  go_wp2_with fail
  obtain ⟨Y12, hY12⟩ : ∃ Y, Hid (w11.alloc (.cells #[.int .i64 hFab.op, .string hFab.name, .int .i64 hFab.val, .int .i64 hFab.bound, .slice oq hFab.args.length cq] 24) = Y) := ⟨_, hidi rfl⟩
  have hby12 : Below w11.heap.size w11 Y12 := by rw [← hY12.out]; exact below_box _ _
  have hl12 : FArgsP (fun b => b < Y12.heap.size) Y12 (.slice (some ⟨w11.heap.size, 0, none⟩) 1 1) [hFab] := by
    rw [← hY12.out]
    exact one_list w11 hFab _ hfq (FArgsP.mono (FArgsP.kept (P := fun b => b < w11.heap.size) haq (below_box w11 _) (fun _ h => h)) fun b hb => Nat.lt_of_lt_of_le hb (below_box w11 _).size) (by simp)
  rw [hY12.out]
  replace B1 := hidi ((B1.out.next (Nat.le_refl _) hby12).up hby12.size)
  replace B2 := hidi ((B2.out.next (Nat.le_refl _) hby12).up hby12.size)
  replace B3 := hidi ((B3.out.next (Nat.le_refl _) hby12).up hby12.size)
  replace B5 := hidi ((B5.out.next (Nat.le_refl _) hby12).up hby12.size)
  replace hC := hC.trans (hby12.mono hC.size)
  replace hE := hE.below hby12
  refine (kernel_any (fun b => b < Y12.heap.size) hK4 _ Y12 hE ⟨_, rfl, fits_k4, hl12⟩ (fun _ h => h) (by decide +kernel)).mono ?_
  rintro e w13 ⟨r13, rfl, g13, hb13⟩
  rw [hd_k4]
  generalize (kernelF hK4).1 = kf13 at g13
  replace g13 : FAt w13.heap.size w13 r13 kf13 := fm_new g13 hb13
  replace B1 := hidi ((B1.out.next (Nat.le_refl _) hb13).up hb13.size)
  replace B2 := hidi ((B2.out.next (Nat.le_refl _) hb13).up hb13.size)
  replace B3 := hidi ((B3.out.next (Nat.le_refl _) hb13).up hb13.size)
  replace B5 := hidi ((B5.out.next (Nat.le_refl _) hb13).up hb13.size)
  replace hC := hC.trans (hb13.mono hC.size)
  replace hE := hE.below hb13
  obtain ⟨o13, c13, rfl, hf13, ha13⟩ := g13.open
  obtain ⟨X13, hX13⟩ : ∃ X, Hid (w13.alloc (.cells #[.int .i64 kf13.op, .string kf13.name, .int .i64 kf13.val, .int .i64 kf13.bound, .slice o13 kf13.args.length c13] 24) = X) := ⟨_, hidi rfl⟩
  have hbx13 : Below w13.heap.size w13 X13 := by rw [← hX13.out]; exact below_box _ _
  replace B1 := hidi ((B1.out.next (Nat.le_refl _) hbx13).up hbx13.size)
  replace B2 := hidi ((B2.out.next (Nat.le_refl _) hbx13).up hbx13.size)
  replace B3 := hidi ((B3.out.next (Nat.le_refl _) hbx13).up hbx13.size)
  replace B5 := hidi ((B5.out.next (Nat.le_refl _) hbx13).up hbx13.size)
  replace hC := hC.trans (hbx13.mono hC.size)
  replace hE := hE.below hbx13
  go_wp2_with fail
  rw [hX13.out]
  refine hdx_r7 _ X13 _ hE (by rfl) (by rfl) (by rfl) (by rfl) (by rfl) (by rfl) (by rfl) (by rfl) (hidi B1.out.bx) (hidi B3.out.bx) (hidi B5.out.bx) ?_
  intro x7 V7 hW7
  simp only [Act.put, List.setIfInBounds_toArray, List.set_cons_zero, List.set_cons_succ]
  replace B1 := hidi ((B1.out.next (Nat.le_refl _) hW7).up hW7.size)
  replace B2 := hidi ((B2.out.next (Nat.le_refl _) hW7).up hW7.size)
  replace B3 := hidi ((B3.out.next (Nat.le_refl _) hW7).up hW7.size)
  replace B5 := hidi ((B5.out.next (Nat.le_refl _) hW7).up hW7.size)
  replace hC := hC.trans (hW7.mono hC.size)
  replace hE := hE.below hW7
  go_wp2_with fail
  refine head_r8 V7 _ B1 B2 B3 B5 hE ?_
  intro x8 V8 k8 o108 c108 hx8 hW8 B12
  rw [hx8]
  replace B1 := hidi ((B1.out.next (Nat.le_refl _) hW8).up hW8.size)
  replace B2 := hidi ((B2.out.next (Nat.le_refl _) hW8).up hW8.size)
  replace B3 := hidi ((B3.out.next (Nat.le_refl _) hW8).up hW8.size)
  replace B5 := hidi ((B5.out.next (Nat.le_refl _) hW8).up hW8.size)
  replace hC := hC.trans (hW8.mono hC.size)
  replace hE := hE.below hW8
  replace B12 := hidi B12
  go_wp2_with fail
  refine head_r9 V8 _ B1 B2 B3 B5 B12 hE ?_
  intro x9 V9 k9 o109 c109 hx9 hW9 B13
  rw [hx9]
  replace B1 := hidi ((B1.out.next (Nat.le_refl _) hW9).up hW9.size)
  replace B2 := hidi ((B2.out.next (Nat.le_refl _) hW9).up hW9.size)
  replace B3 := hidi ((B3.out.next (Nat.le_refl _) hW9).up hW9.size)
  replace B5 := hidi ((B5.out.next (Nat.le_refl _) hW9).up hW9.size)
  replace B12 := hidi ((B12.out.next (Nat.le_refl _) hW9).up hW9.size)
  replace hC := hC.trans (hW9.mono hC.size)
  replace hE := hE.below hW9
  replace B13 := hidi B13
  obtain ⟨y10, y11, y12, y13, y14⟩ := B1.out.cells
  go_wp2_with fail
  obtain ⟨Y14, hY14⟩ : ∃ Y, Hid (V9.alloc (.cells #[.int .i64 hA.op, .string hA.name, .int .i64 hA.val, .int .i64 hA.bound, .slice o1 hA.args.length c1] 24) = Y) := ⟨_, hidi rfl⟩
  have hby14 : Below V9.heap.size V9 Y14 := by rw [← hY14.out]; exact below_box _ _
  have hl14 : FArgsP (fun b => b < Y14.heap.size) Y14 (.slice (some ⟨V9.heap.size, 0, none⟩) 1 1) [hA] := by
    rw [← hY14.out]
    exact one_list V9 hA _ B1.out.2.2.1 (FArgsP.mono (FArgsP.kept (P := fun b => b < V9.heap.size) B1.out.2.2.2 (below_box V9 _) (fun _ h => h)) fun b hb => Nat.lt_of_lt_of_le hb (below_box V9 _).size) (by simp)
  rw [hY14.out]
  clear y10 y11 y12 y13 y14
  replace B1 := hidi ((B1.out.next (Nat.le_refl _) hby14).up hby14.size)
  replace B2 := hidi ((B2.out.next (Nat.le_refl _) hby14).up hby14.size)
  replace B3 := hidi ((B3.out.next (Nat.le_refl _) hby14).up hby14.size)
  replace B5 := hidi ((B5.out.next (Nat.le_refl _) hby14).up hby14.size)
  replace B12 := hidi ((B12.out.next (Nat.le_refl _) hby14).up hby14.size)
  replace B13 := hidi ((B13.out.next (Nat.le_refl _) hby14).up hby14.size)
  replace hC := hC.trans (hby14.mono hC.size)
  replace hE := hE.below hby14
  refine (reflate_any (fun b => b < Y14.heap.size) 15 0 _ _ Y14 hl14 (fun _ h => h) (i64_of (by decide) (by decide)) (i64_of (by decide) (by decide))).mono ?_
  rintro e w15 ⟨r15, rfl, g15, hb15⟩
  replace g15 : FAt w15.heap.size w15 r15 hYA := fm_new g15 hb15
  replace B1 := hidi ((B1.out.next (Nat.le_refl _) hb15).up hb15.size)
  replace B2 := hidi ((B2.out.next (Nat.le_refl _) hb15).up hb15.size)
  replace B3 := hidi ((B3.out.next (Nat.le_refl _) hb15).up hb15.size)
  replace B5 := hidi ((B5.out.next (Nat.le_refl _) hb15).up hb15.size)
  replace B12 := hidi ((B12.out.next (Nat.le_refl _) hb15).up hb15.size)
  replace B13 := hidi ((B13.out.next (Nat.le_refl _) hb15).up hb15.size)
  replace hC := hC.trans (hb15.mono hC.size)
  replace hE := hE.below hb15
  go_wp2_with fail
  refine (not_any (fun b => b < w15.heap.size) hYA _ w15 hE g15 (fun _ h => h) (by decide +kernel)).mono ?_
  rintro e w16 ⟨r16, rfl, g16, hb16⟩
  rw [hd_not] at g16
  replace g16 : FAt w16.heap.size w16 r16 hN := fm_new g16 hb16
  replace B1 := hidi ((B1.out.next (Nat.le_refl _) hb16).up hb16.size)
  replace B2 := hidi ((B2.out.next (Nat.le_refl _) hb16).up hb16.size)
  replace B3 := hidi ((B3.out.next (Nat.le_refl _) hb16).up hb16.size)
  replace B5 := hidi ((B5.out.next (Nat.le_refl _) hb16).up hb16.size)
  replace B12 := hidi ((B12.out.next (Nat.le_refl _) hb16).up hb16.size)
  replace B13 := hidi ((B13.out.next (Nat.le_refl _) hb16).up hb16.size)
  replace hC := hC.trans (hb16.mono hC.size)
  replace hE := hE.below hb16
  obtain ⟨o16, c16, rfl, hf16, ha16⟩ := g16.open
  obtain ⟨X16, hX16⟩ : ∃ X, Hid (w16.alloc (.cells #[.int .i64 hN.op, .string hN.name, .int .i64 hN.val, .int .i64 hN.bound, .slice o16 hN.args.length c16] 24) = X) := ⟨_, hidi rfl⟩
  have hbx16 : Below w16.heap.size w16 X16 := by rw [← hX16.out]; exact below_box _ _
  have B14 : Hid (BoxF X16.heap.size X16 w16.heap.size hN o16 c16) := by unfold Hid; rw [← hX16.out]; exact box_made w16 hN o16 c16 hf16 ha16
  replace B1 := hidi ((B1.out.next (Nat.le_refl _) hbx16).up hbx16.size)
  replace B2 := hidi ((B2.out.next (Nat.le_refl _) hbx16).up hbx16.size)
  replace B3 := hidi ((B3.out.next (Nat.le_refl _) hbx16).up hbx16.size)
  replace B5 := hidi ((B5.out.next (Nat.le_refl _) hbx16).up hbx16.size)
  replace B12 := hidi ((B12.out.next (Nat.le_refl _) hbx16).up hbx16.size)
  replace B13 := hidi ((B13.out.next (Nat.le_refl _) hbx16).up hbx16.size)
  replace hC := hC.trans (hbx16.mono hC.size)
  replace hE := hE.below hbx16
  go_wp2_with fail
  rw [hX16.out]
  refine hdy_r11 _ X16 _ hE (by rfl) (by rfl) (by rfl) (by rfl) (by rfl) (by rfl) (hidi B1.out.bx) (hidi B2.out.bx) (hidi B12.out.bx) (hidi B13.out.bx) (hidi B14.out.bx) ?_
  intro x11 V11 hW11
  simp only [Act.put, List.setIfInBounds_toArray, List.set_cons_zero, List.set_cons_succ]
  replace B1 := hidi ((B1.out.next (Nat.le_refl _) hW11).up hW11.size)
  replace B2 := hidi ((B2.out.next (Nat.le_refl _) hW11).up hW11.size)
  replace B3 := hidi ((B3.out.next (Nat.le_refl _) hW11).up hW11.size)
  replace B5 := hidi ((B5.out.next (Nat.le_refl _) hW11).up hW11.size)
  replace B12 := hidi ((B12.out.next (Nat.le_refl _) hW11).up hW11.size)
  replace B13 := hidi ((B13.out.next (Nat.le_refl _) hW11).up hW11.size)
  replace B14 := hidi ((B14.out.next (Nat.le_refl _) hW11).up hW11.size)
  replace hC := hC.trans (hW11.mono hC.size)
  replace hE := hE.below hW11
  go_wp2_with fail
  refine head_r12 V11 _ B1 B2 B3 B5 B12 B13 B14 hE ?_
  intro x12 V12 k12 o112 c112 hx12 hW12 B16
  rw [hx12]
  replace B1 := hidi ((B1.out.next (Nat.le_refl _) hW12).up hW12.size)
  replace B2 := hidi ((B2.out.next (Nat.le_refl _) hW12).up hW12.size)
  replace B3 := hidi ((B3.out.next (Nat.le_refl _) hW12).up hW12.size)
  replace B5 := hidi ((B5.out.next (Nat.le_refl _) hW12).up hW12.size)
  replace B12 := hidi ((B12.out.next (Nat.le_refl _) hW12).up hW12.size)
  replace B13 := hidi ((B13.out.next (Nat.le_refl _) hW12).up hW12.size)
  replace B14 := hidi ((B14.out.next (Nat.le_refl _) hW12).up hW12.size)
  replace hC := hC.trans (hW12.mono hC.size)
  replace hE := hE.below hW12
  replace B16 := hidi B16
  obtain ⟨y160, y161, y162, y163, y164⟩ := B16.out.cells
  go_wp2_with fail
  refine (fvalid_any hP _ _ V12 (B16.out.fat) (Nat.le_refl _) hE (by decide +kernel)).mono ?_
  rintro e w17 ⟨rfl, hb17⟩
  rw [hd_p1]
  clear y160 y161 y162 y163 y164
  replace B1 := hidi ((B1.out.next (Nat.le_refl _) hb17).up hb17.size)
  replace B2 := hidi ((B2.out.next (Nat.le_refl _) hb17).up hb17.size)
  replace B3 := hidi ((B3.out.next (Nat.le_refl _) hb17).up hb17.size)
  replace B5 := hidi ((B5.out.next (Nat.le_refl _) hb17).up hb17.size)
  replace B12 := hidi ((B12.out.next (Nat.le_refl _) hb17).up hb17.size)
  replace B13 := hidi ((B13.out.next (Nat.le_refl _) hb17).up hb17.size)
  replace B14 := hidi ((B14.out.next (Nat.le_refl _) hb17).up hb17.size)
  replace B16 := hidi ((B16.out.next (Nat.le_refl _) hb17).up hb17.size)
  replace hC := hC.trans (hb17.mono hC.size)
  replace hE := hE.below hb17
  obtain ⟨y160, y161, y162, y163, y164⟩ := B16.out.cells
  go_wp2_with fail
  refine (layered_any hP _ _ w17 (B16.out.fat) (Nat.le_refl _) hE (by decide +kernel)).mono ?_
  rintro e w18 ⟨rfl, hb18⟩
  rw [hd_p2]
  clear y160 y161 y162 y163 y164
  replace B1 := hidi ((B1.out.next (Nat.le_refl _) hb18).up hb18.size)
  replace B2 := hidi ((B2.out.next (Nat.le_refl _) hb18).up hb18.size)
  replace B3 := hidi ((B3.out.next (Nat.le_refl _) hb18).up hb18.size)
  replace B5 := hidi ((B5.out.next (Nat.le_refl _) hb18).up hb18.size)
  replace B12 := hidi ((B12.out.next (Nat.le_refl _) hb18).up hb18.size)
  replace B13 := hidi ((B13.out.next (Nat.le_refl _) hb18).up hb18.size)
  replace B14 := hidi ((B14.out.next (Nat.le_refl _) hb18).up hb18.size)
  replace B16 := hidi ((B16.out.next (Nat.le_refl _) hb18).up hb18.size)
  replace hC := hC.trans (hb18.mono hC.size)
  replace hE := hE.below hb18
  obtain ⟨y160, y161, y162, y163, y164⟩ := B16.out.cells
  go_wp2_with fail
  refine (past_any hP _ _ w18 (B16.out.fat) (Nat.le_refl _) hE (by decide +kernel)).mono ?_
  rintro e w19 ⟨rfl, hb19⟩
  rw [hd_p3]
  clear y160 y161 y162 y163 y164
  replace B1 := hidi ((B1.out.next (Nat.le_refl _) hb19).up hb19.size)
  replace B2 := hidi ((B2.out.next (Nat.le_refl _) hb19).up hb19.size)
  replace B3 := hidi ((B3.out.next (Nat.le_refl _) hb19).up hb19.size)
  replace B5 := hidi ((B5.out.next (Nat.le_refl _) hb19).up hb19.size)
  replace B12 := hidi ((B12.out.next (Nat.le_refl _) hb19).up hb19.size)
  replace B13 := hidi ((B13.out.next (Nat.le_refl _) hb19).up hb19.size)
  replace B14 := hidi ((B14.out.next (Nat.le_refl _) hb19).up hb19.size)
  replace B16 := hidi ((B16.out.next (Nat.le_refl _) hb19).up hb19.size)
  replace hC := hC.trans (hb19.mono hC.size)
  replace hE := hE.below hb19
  obtain ⟨y160, y161, y162, y163, y164⟩ := B16.out.cells
  go_wp2_with fail
  refine (size_any hP _ _ w19 (B16.out.fat) (Nat.le_refl _) hE (by decide +kernel)).mono ?_
  rintro e w20 ⟨rfl, hb20⟩
  rw [hd_p4]
  clear y160 y161 y162 y163 y164
  replace B1 := hidi ((B1.out.next (Nat.le_refl _) hb20).up hb20.size)
  replace B2 := hidi ((B2.out.next (Nat.le_refl _) hb20).up hb20.size)
  replace B3 := hidi ((B3.out.next (Nat.le_refl _) hb20).up hb20.size)
  replace B5 := hidi ((B5.out.next (Nat.le_refl _) hb20).up hb20.size)
  replace B12 := hidi ((B12.out.next (Nat.le_refl _) hb20).up hb20.size)
  replace B13 := hidi ((B13.out.next (Nat.le_refl _) hb20).up hb20.size)
  replace B14 := hidi ((B14.out.next (Nat.le_refl _) hb20).up hb20.size)
  replace B16 := hidi ((B16.out.next (Nat.le_refl _) hb20).up hb20.size)
  replace hC := hC.trans (hb20.mono hC.size)
  replace hE := hE.below hb20
  obtain ⟨y30, y31, y32, y33, y34⟩ := B3.out.cells
  go_wp2_with fail
  refine (iskernel_any hX _ _ w20 (B3.out.fat) (Nat.le_refl _) hE (by decide +kernel)).mono ?_
  rintro e w21 ⟨rfl, hb21⟩
  rw [hd_p5]
  clear y30 y31 y32 y33 y34
  replace B1 := hidi ((B1.out.next (Nat.le_refl _) hb21).up hb21.size)
  replace B2 := hidi ((B2.out.next (Nat.le_refl _) hb21).up hb21.size)
  replace B3 := hidi ((B3.out.next (Nat.le_refl _) hb21).up hb21.size)
  replace B5 := hidi ((B5.out.next (Nat.le_refl _) hb21).up hb21.size)
  replace B12 := hidi ((B12.out.next (Nat.le_refl _) hb21).up hb21.size)
  replace B13 := hidi ((B13.out.next (Nat.le_refl _) hb21).up hb21.size)
  replace B14 := hidi ((B14.out.next (Nat.le_refl _) hb21).up hb21.size)
  replace B16 := hidi ((B16.out.next (Nat.le_refl _) hb21).up hb21.size)
  replace hC := hC.trans (hb21.mono hC.size)
  replace hE := hE.below hb21
  go_wp2_with fail
  refine (reftrue_any (fun b => b < w21.heap.size) w21).mono ?_
  rintro e w22 ⟨r22, rfl, g22, hb22⟩
  replace g22 : FAt w22.heap.size w22 r22 fTrue := fm_new g22 hb22
  replace B1 := hidi ((B1.out.next (Nat.le_refl _) hb22).up hb22.size)
  replace B2 := hidi ((B2.out.next (Nat.le_refl _) hb22).up hb22.size)
  replace B3 := hidi ((B3.out.next (Nat.le_refl _) hb22).up hb22.size)
  replace B5 := hidi ((B5.out.next (Nat.le_refl _) hb22).up hb22.size)
  replace B12 := hidi ((B12.out.next (Nat.le_refl _) hb22).up hb22.size)
  replace B13 := hidi ((B13.out.next (Nat.le_refl _) hb22).up hb22.size)
  replace B14 := hidi ((B14.out.next (Nat.le_refl _) hb22).up hb22.size)
  replace B16 := hidi ((B16.out.next (Nat.le_refl _) hb22).up hb22.size)
  replace hC := hC.trans (hb22.mono hC.size)
  replace hE := hE.below hb22
  go_wp2_with fail
  refine (refone_any (fun b => b < w22.heap.size) 4 _ fTrue w22 g22 (fun _ h => h) (i64_of (by decide) (by decide))).mono ?_
  rintro e w23 ⟨r23, rfl, g23, hb23⟩
  replace g23 : FAt w23.heap.size w23 r23 hNT := fm_new g23 hb23
  replace B1 := hidi ((B1.out.next (Nat.le_refl _) hb23).up hb23.size)
  replace B2 := hidi ((B2.out.next (Nat.le_refl _) hb23).up hb23.size)
  replace B3 := hidi ((B3.out.next (Nat.le_refl _) hb23).up hb23.size)
  replace B5 := hidi ((B5.out.next (Nat.le_refl _) hb23).up hb23.size)
  replace B12 := hidi ((B12.out.next (Nat.le_refl _) hb23).up hb23.size)
  replace B13 := hidi ((B13.out.next (Nat.le_refl _) hb23).up hb23.size)
  replace B14 := hidi ((B14.out.next (Nat.le_refl _) hb23).up hb23.size)
  replace B16 := hidi ((B16.out.next (Nat.le_refl _) hb23).up hb23.size)
  replace hC := hC.trans (hb23.mono hC.size)
  replace hE := hE.below hb23
  go_wp2_with fail
  refine (iskernel_any hNT _ _ w23 g23 (Nat.le_refl _) hE (by decide +kernel)).mono ?_
  rintro e w24 ⟨rfl, hb24⟩
  rw [hd_p6]
  replace B1 := hidi ((B1.out.next (Nat.le_refl _) hb24).up hb24.size)
  replace B2 := hidi ((B2.out.next (Nat.le_refl _) hb24).up hb24.size)
  replace B3 := hidi ((B3.out.next (Nat.le_refl _) hb24).up hb24.size)
  replace B5 := hidi ((B5.out.next (Nat.le_refl _) hb24).up hb24.size)
  replace B12 := hidi ((B12.out.next (Nat.le_refl _) hb24).up hb24.size)
  replace B13 := hidi ((B13.out.next (Nat.le_refl _) hb24).up hb24.size)
  replace B14 := hidi ((B14.out.next (Nat.le_refl _) hb24).up hb24.size)
  replace B16 := hidi ((B16.out.next (Nat.le_refl _) hb24).up hb24.size)
  replace hC := hC.trans (hb24.mono hC.size)
  replace hE := hE.below hb24
  go_wp2_with fail
  refine head_r14 w24 _ B1 B2 B3 B5 B12 B13 B14 B16 hE ?_
  intro x14 V14 hW14 hx14
  rw [hx14]
  replace B1 := hidi ((B1.out.next (Nat.le_refl _) hW14).up hW14.size)
  replace B2 := hidi ((B2.out.next (Nat.le_refl _) hW14).up hW14.size)
  replace B3 := hidi ((B3.out.next (Nat.le_refl _) hW14).up hW14.size)
  replace B5 := hidi ((B5.out.next (Nat.le_refl _) hW14).up hW14.size)
  replace B12 := hidi ((B12.out.next (Nat.le_refl _) hW14).up hW14.size)
  replace B13 := hidi ((B13.out.next (Nat.le_refl _) hW14).up hW14.size)
  replace B14 := hidi ((B14.out.next (Nat.le_refl _) hW14).up hW14.size)
  replace B16 := hidi ((B16.out.next (Nat.le_refl _) hW14).up hW14.size)
  replace hC := hC.trans (hW14.mono hC.size)
  replace hE := hE.below hW14
  go_wp2_with fail
  go_ret
  exact ⟨rfl, hC⟩

end Go.Proofs.YtbnnjbfbifihaaaGreatDoor
