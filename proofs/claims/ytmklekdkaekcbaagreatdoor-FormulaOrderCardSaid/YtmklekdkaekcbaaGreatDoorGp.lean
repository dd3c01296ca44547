/-
  Contracts that FormulaOrder stands on, part Gp.
-/
import Derived.StillTailTactics
import Derived.Test.YtmklekdkaekcbaaGreatDoorGb

/-
  The walk of the law FormulaOrder, given the contract of the law's head.
-/
namespace Go.Proofs.YtmklekdkaekcbaaGreatDoor
open Go.RowKit

def HeadOk : Prop := ∀ w : World, Env w → Calls Tryz.prog 12 #[] w fun e w' => e = .returned (.bool true) ∧ Below w.heap.size w w'

theorem fm3_open (w : World) (a1 a2 a3 a4 a5 b1 b2 b3 b4 b5 g1 g2 g3 g4 g5 : Value) : ∃ W0, Hid (((w.alloc (.cells #[a1, a2, a3, a4, a5] 24)).alloc (.cells #[b1, b2, b3, b4, b5] 24)).alloc (.cells #[g1, g2, g3, g4, g5] 24) = W0) ∧ Below w.heap.size w W0 ∧
    Hid (Cells5 W0 w.heap.size 0 a1 a2 a3 a4 a5) ∧ Hid (Cells5 W0 (w.heap.size + 1) 0 b1 b2 b3 b4 b5) ∧ Hid (Cells5 W0 (w.heap.size + 2) 0 g1 g2 g3 g4 g5) ∧ w.heap.size + 2 < W0.heap.size := by
  obtain ⟨W1, hW1, hB1, k1, k2, hlt⟩ := fm2_open w a1 a2 a3 a4 a5 b1 b2 b3 b4 b5
  have hs : W1.heap.size = w.heap.size + 2 := by rw [← hW1.out]; simp
  have h3 := below_box W1 (.cells #[g1, g2, g3, g4, g5] 24)
  rw [hW1.out]
  refine ⟨_, rfl, hB1.trans (h3.mono hB1.size), k1.out.below h3 (by omega), k2.out.below h3 (by omega), ?_, by simp; omega⟩
  have := box5 W1 g1 g2 g3 g4 g5 24
  rw [hs] at this
  exact this

theorem small420 (f : Fm) (B : Nat) (v : Value) (w : World) (hv : FAt B w v f) (hBw : B ≤ w.heap.size) (hn : Hid (f.nodes ≤ 420)) :
    Calls Tryz.prog 13 #[v, .int .i64 420] w fun e w' => e = .returned (.bool true) ∧ Below w.heap.size w w' := by
  have := refsmall_any f B v 420 w hv hBw (by omega)
  rw [decide_eq_true hn.out] at this
  exact this
theorem small420_no (f : Fm) (B : Nat) (v : Value) (w : World) (hv : FAt B w v f) (hBw : B ≤ w.heap.size) (hn : Hid (¬ f.nodes ≤ 420)) :
    Calls Tryz.prog 13 #[v, .int .i64 420] w fun e w' => e = .returned (.bool false) ∧ Below w.heap.size w w' := by
  have := refsmall_any f B v 420 w hv hBw (by omega)
  rw [decide_eq_false hn.out] at this
  exact this

set_option maxRecDepth 100000 in
set_option maxHeartbeats 4000000 in
theorem order_big1 (hd : HeadOk) (f g h : Fm) (v1 v2 v3 : Value) (w : World) (hE : Env w) (h1 : FAt w.heap.size w v1 f) (h2 : FAt w.heap.size w v2 g) (h3 : FAt w.heap.size w v3 h) (s1 : Hid (¬ f.nodes ≤ 420)) :
    Calls Tryz.prog 4 #[v1, v2, v3] w fun e w' => e = .returned (.bool true) ∧ Below w.heap.size w w' := by
  obtain ⟨o1, c1, rfl, -, hA1⟩ := h1.open
  obtain ⟨o2, c2, rfl, -, hA2⟩ := h2.open
  obtain ⟨o3, c3, rfl, -, hA3⟩ := h3.open
  obtain ⟨W0, hW0, hB0, hc1, hc2, hc3, hlt⟩ := fm3_open w (.int .i64 f.op) (.string f.name) (.int .i64 f.val) (.int .i64 f.bound) (.slice o1 f.args.length c1) (.int .i64 g.op) (.string g.name) (.int .i64 g.val) (.int .i64 g.bound) (.slice o2 g.args.length c2) (.int .i64 h.op) (.string h.name) (.int .i64 h.val) (.int .i64 h.bound) (.slice o3 h.args.length c3)
  have hE0 : Env W0 := hE.below hB0
  have F1 := (h1.kept hB0 (Nat.le_refl _)).mono hB0.size
  have F2 := (h2.kept hB0 (Nat.le_refl _)).mono hB0.size
  have F3 := (h3.kept hB0 (Nat.le_refl _)).mono hB0.size
  have hB := Below.refl W0.heap.size W0
  obtain ⟨d10, d11, d12, d13, d14⟩ := hc1.out
  obtain ⟨d20, d21, d22, d23, d24⟩ := hc2.out
  obtain ⟨d30, d31, d32, d33, d34⟩ := hc3.out
  rw [Nat.zero_add] at d11 d12 d13 d14 d21 d22 d23 d24 d31 d32 d33 d34
  go_enter Tryz.func4, Tryz.ntmps4
  go_wp2_with fail
  rw [hW0.out]
  go_wp2_with (first | (go_at_call 12; refine (hd _ hE0).mono ?_; rintro e w1 ⟨rfl, hb⟩; have hB := hB.trans (hb.mono hB.size); clear hb d10 d11 d12 d13 d14 d20 d21 d22 d23 d24 d30 d31 d32 d33 d34; obtain ⟨d10, d11, d12, d13, d14⟩ := hc1.out.later hB (by omega); obtain ⟨d20, d21, d22, d23, d24⟩ := hc2.out.later hB (by omega); obtain ⟨d30, d31, d32, d33, d34⟩ := hc3.out.later hB (by omega); rw [Nat.zero_add] at d11 d12 d13 d14 d21 d22 d23 d24 d31 d32 d33 d34) | (go_at_call 13; (with_reducible refine (small420_no _ _ _ _ (F1.kept hB (Nat.le_refl _)) hB.size s1).mono ?_); rintro e w1 ⟨rfl, hb⟩; have hB := hB.trans (hb.mono hB.size); clear hb d10 d11 d12 d13 d14 d20 d21 d22 d23 d24 d30 d31 d32 d33 d34; obtain ⟨d10, d11, d12, d13, d14⟩ := hc1.out.later hB (by omega); obtain ⟨d20, d21, d22, d23, d24⟩ := hc2.out.later hB (by omega); obtain ⟨d30, d31, d32, d33, d34⟩ := hc3.out.later hB (by omega); rw [Nat.zero_add] at d11 d12 d13 d14 d21 d22 d23 d24 d31 d32 d33 d34))
  go_ret
  exact ⟨rfl, hB0.trans (hB.mono hB0.size)⟩

set_option maxRecDepth 100000 in
set_option maxHeartbeats 4000000 in
theorem order_big2 (hd : HeadOk) (f g h : Fm) (v1 v2 v3 : Value) (w : World) (hE : Env w) (h1 : FAt w.heap.size w v1 f) (h2 : FAt w.heap.size w v2 g) (h3 : FAt w.heap.size w v3 h) (s1 : Hid (f.nodes ≤ 420)) (s2 : Hid (¬ g.nodes ≤ 420)) :
    Calls Tryz.prog 4 #[v1, v2, v3] w fun e w' => e = .returned (.bool true) ∧ Below w.heap.size w w' := by
  obtain ⟨o1, c1, rfl, -, hA1⟩ := h1.open
  obtain ⟨o2, c2, rfl, -, hA2⟩ := h2.open
  obtain ⟨o3, c3, rfl, -, hA3⟩ := h3.open
  obtain ⟨W0, hW0, hB0, hc1, hc2, hc3, hlt⟩ := fm3_open w (.int .i64 f.op) (.string f.name) (.int .i64 f.val) (.int .i64 f.bound) (.slice o1 f.args.length c1) (.int .i64 g.op) (.string g.name) (.int .i64 g.val) (.int .i64 g.bound) (.slice o2 g.args.length c2) (.int .i64 h.op) (.string h.name) (.int .i64 h.val) (.int .i64 h.bound) (.slice o3 h.args.length c3)
  have hE0 : Env W0 := hE.below hB0
  have F1 := (h1.kept hB0 (Nat.le_refl _)).mono hB0.size
  have F2 := (h2.kept hB0 (Nat.le_refl _)).mono hB0.size
  have F3 := (h3.kept hB0 (Nat.le_refl _)).mono hB0.size
  have hB := Below.refl W0.heap.size W0
  obtain ⟨d10, d11, d12, d13, d14⟩ := hc1.out
  obtain ⟨d20, d21, d22, d23, d24⟩ := hc2.out
  obtain ⟨d30, d31, d32, d33, d34⟩ := hc3.out
  rw [Nat.zero_add] at d11 d12 d13 d14 d21 d22 d23 d24 d31 d32 d33 d34
  go_enter Tryz.func4, Tryz.ntmps4
  go_wp2_with fail
  rw [hW0.out]
  go_wp2_with (first | (go_at_call 12; refine (hd _ hE0).mono ?_; rintro e w1 ⟨rfl, hb⟩; have hB := hB.trans (hb.mono hB.size); clear hb d10 d11 d12 d13 d14 d20 d21 d22 d23 d24 d30 d31 d32 d33 d34; obtain ⟨d10, d11, d12, d13, d14⟩ := hc1.out.later hB (by omega); obtain ⟨d20, d21, d22, d23, d24⟩ := hc2.out.later hB (by omega); obtain ⟨d30, d31, d32, d33, d34⟩ := hc3.out.later hB (by omega); rw [Nat.zero_add] at d11 d12 d13 d14 d21 d22 d23 d24 d31 d32 d33 d34) | (go_at_call 13; (with_reducible refine (small420 _ _ _ _ (F1.kept hB (Nat.le_refl _)) hB.size s1).mono ?_); rintro e w1 ⟨rfl, hb⟩; have hB := hB.trans (hb.mono hB.size); clear hb d10 d11 d12 d13 d14 d20 d21 d22 d23 d24 d30 d31 d32 d33 d34; obtain ⟨d10, d11, d12, d13, d14⟩ := hc1.out.later hB (by omega); obtain ⟨d20, d21, d22, d23, d24⟩ := hc2.out.later hB (by omega); obtain ⟨d30, d31, d32, d33, d34⟩ := hc3.out.later hB (by omega); rw [Nat.zero_add] at d11 d12 d13 d14 d21 d22 d23 d24 d31 d32 d33 d34) | (go_at_call 13; (with_reducible refine (small420_no _ _ _ _ (F2.kept hB (Nat.le_refl _)) hB.size s2).mono ?_); rintro e w1 ⟨rfl, hb⟩; have hB := hB.trans (hb.mono hB.size); clear hb d10 d11 d12 d13 d14 d20 d21 d22 d23 d24 d30 d31 d32 d33 d34; obtain ⟨d10, d11, d12, d13, d14⟩ := hc1.out.later hB (by omega); obtain ⟨d20, d21, d22, d23, d24⟩ := hc2.out.later hB (by omega); obtain ⟨d30, d31, d32, d33, d34⟩ := hc3.out.later hB (by omega); rw [Nat.zero_add] at d11 d12 d13 d14 d21 d22 d23 d24 d31 d32 d33 d34))
  go_ret
  exact ⟨rfl, hB0.trans (hB.mono hB0.size)⟩

set_option maxRecDepth 100000 in
set_option maxHeartbeats 4000000 in
theorem order_big3 (hd : HeadOk) (f g h : Fm) (v1 v2 v3 : Value) (w : World) (hE : Env w) (h1 : FAt w.heap.size w v1 f) (h2 : FAt w.heap.size w v2 g) (h3 : FAt w.heap.size w v3 h) (s1 : Hid (f.nodes ≤ 420)) (s2 : Hid (g.nodes ≤ 420)) (s3 : Hid (¬ h.nodes ≤ 420)) :
    Calls Tryz.prog 4 #[v1, v2, v3] w fun e w' => e = .returned (.bool true) ∧ Below w.heap.size w w' := by
  obtain ⟨o1, c1, rfl, -, hA1⟩ := h1.open
  obtain ⟨o2, c2, rfl, -, hA2⟩ := h2.open
  obtain ⟨o3, c3, rfl, -, hA3⟩ := h3.open
  obtain ⟨W0, hW0, hB0, hc1, hc2, hc3, hlt⟩ := fm3_open w (.int .i64 f.op) (.string f.name) (.int .i64 f.val) (.int .i64 f.bound) (.slice o1 f.args.length c1) (.int .i64 g.op) (.string g.name) (.int .i64 g.val) (.int .i64 g.bound) (.slice o2 g.args.length c2) (.int .i64 h.op) (.string h.name) (.int .i64 h.val) (.int .i64 h.bound) (.slice o3 h.args.length c3)
  have hE0 : Env W0 := hE.below hB0
  have F1 := (h1.kept hB0 (Nat.le_refl _)).mono hB0.size
  have F2 := (h2.kept hB0 (Nat.le_refl _)).mono hB0.size
  have F3 := (h3.kept hB0 (Nat.le_refl _)).mono hB0.size
  have hB := Below.refl W0.heap.size W0
  obtain ⟨d10, d11, d12, d13, d14⟩ := hc1.out
  obtain ⟨d20, d21, d22, d23, d24⟩ := hc2.out
  obtain ⟨d30, d31, d32, d33, d34⟩ := hc3.out
  rw [Nat.zero_add] at d11 d12 d13 d14 d21 d22 d23 d24 d31 d32 d33 d34
  go_enter Tryz.func4, Tryz.ntmps4
  go_wp2_with fail
  rw [hW0.out]
  go_wp2_with (first | (go_at_call 12; refine (hd _ hE0).mono ?_; rintro e w1 ⟨rfl, hb⟩; have hB := hB.trans (hb.mono hB.size); clear hb d10 d11 d12 d13 d14 d20 d21 d22 d23 d24 d30 d31 d32 d33 d34; obtain ⟨d10, d11, d12, d13, d14⟩ := hc1.out.later hB (by omega); obtain ⟨d20, d21, d22, d23, d24⟩ := hc2.out.later hB (by omega); obtain ⟨d30, d31, d32, d33, d34⟩ := hc3.out.later hB (by omega); rw [Nat.zero_add] at d11 d12 d13 d14 d21 d22 d23 d24 d31 d32 d33 d34) | (go_at_call 13; (with_reducible refine (small420 _ _ _ _ (F1.kept hB (Nat.le_refl _)) hB.size s1).mono ?_); rintro e w1 ⟨rfl, hb⟩; have hB := hB.trans (hb.mono hB.size); clear hb d10 d11 d12 d13 d14 d20 d21 d22 d23 d24 d30 d31 d32 d33 d34; obtain ⟨d10, d11, d12, d13, d14⟩ := hc1.out.later hB (by omega); obtain ⟨d20, d21, d22, d23, d24⟩ := hc2.out.later hB (by omega); obtain ⟨d30, d31, d32, d33, d34⟩ := hc3.out.later hB (by omega); rw [Nat.zero_add] at d11 d12 d13 d14 d21 d22 d23 d24 d31 d32 d33 d34) | (go_at_call 13; (with_reducible refine (small420 _ _ _ _ (F2.kept hB (Nat.le_refl _)) hB.size s2).mono ?_); rintro e w1 ⟨rfl, hb⟩; have hB := hB.trans (hb.mono hB.size); clear hb d10 d11 d12 d13 d14 d20 d21 d22 d23 d24 d30 d31 d32 d33 d34; obtain ⟨d10, d11, d12, d13, d14⟩ := hc1.out.later hB (by omega); obtain ⟨d20, d21, d22, d23, d24⟩ := hc2.out.later hB (by omega); obtain ⟨d30, d31, d32, d33, d34⟩ := hc3.out.later hB (by omega); rw [Nat.zero_add] at d11 d12 d13 d14 d21 d22 d23 d24 d31 d32 d33 d34) | (go_at_call 13; (with_reducible refine (small420_no _ _ _ _ (F3.kept hB (Nat.le_refl _)) hB.size s3).mono ?_); rintro e w1 ⟨rfl, hb⟩; have hB := hB.trans (hb.mono hB.size); clear hb d10 d11 d12 d13 d14 d20 d21 d22 d23 d24 d30 d31 d32 d33 d34; obtain ⟨d10, d11, d12, d13, d14⟩ := hc1.out.later hB (by omega); obtain ⟨d20, d21, d22, d23, d24⟩ := hc2.out.later hB (by omega); obtain ⟨d30, d31, d32, d33, d34⟩ := hc3.out.later hB (by omega); rw [Nat.zero_add] at d11 d12 d13 d14 d21 d22 d23 d24 d31 d32 d33 d34))
  go_ret
  exact ⟨rfl, hB0.trans (hB.mono hB0.size)⟩

set_option maxRecDepth 100000 in
set_option maxHeartbeats 4000000 in
theorem order_ne_a (hd : HeadOk) (f g h : Fm) (v1 v2 v3 : Value) (w : World) (hE : Env w) (h1 : FAt w.heap.size w v1 f) (h2 : FAt w.heap.size w v2 g) (h3 : FAt w.heap.size w v3 h) (s1 : Hid (f.nodes ≤ 420)) (s2 : Hid (g.nodes ≤ 420)) (s3 : Hid (h.nodes ≤ 420)) (y z : Int) (e1 : Hid (cmpF f g = 1)) (e2 : Hid (cmpF g h = y)) (e3 : Hid (cmpF f h = z)) (e4 : Hid (cmpF g f = -1)) (e5 : Hid (cmpF f f = 0)) :
    Calls Tryz.prog 4 #[v1, v2, v3] w fun e w' => e = .returned (.bool true) ∧ Below w.heap.size w w' := by
  obtain ⟨o1, c1, rfl, -, hA1⟩ := h1.open
  obtain ⟨o2, c2, rfl, -, hA2⟩ := h2.open
  obtain ⟨o3, c3, rfl, -, hA3⟩ := h3.open
  obtain ⟨W0, hW0, hB0, hc1, hc2, hc3, hlt⟩ := fm3_open w (.int .i64 f.op) (.string f.name) (.int .i64 f.val) (.int .i64 f.bound) (.slice o1 f.args.length c1) (.int .i64 g.op) (.string g.name) (.int .i64 g.val) (.int .i64 g.bound) (.slice o2 g.args.length c2) (.int .i64 h.op) (.string h.name) (.int .i64 h.val) (.int .i64 h.bound) (.slice o3 h.args.length c3)
  have hE0 : Env W0 := hE.below hB0
  have F1 := (h1.kept hB0 (Nat.le_refl _)).mono hB0.size
  have F2 := (h2.kept hB0 (Nat.le_refl _)).mono hB0.size
  have F3 := (h3.kept hB0 (Nat.le_refl _)).mono hB0.size
  have hB := Below.refl W0.heap.size W0
  obtain ⟨d10, d11, d12, d13, d14⟩ := hc1.out
  obtain ⟨d20, d21, d22, d23, d24⟩ := hc2.out
  obtain ⟨d30, d31, d32, d33, d34⟩ := hc3.out
  rw [Nat.zero_add] at d11 d12 d13 d14 d21 d22 d23 d24 d31 d32 d33 d34
  go_enter Tryz.func4, Tryz.ntmps4
  go_wp2_with fail
  rw [hW0.out]
  go_wp2_with (first | (go_at_call 12; refine (hd _ hE0).mono ?_; rintro e w1 ⟨rfl, hb⟩; have hB := hB.trans (hb.mono hB.size); clear hb d10 d11 d12 d13 d14 d20 d21 d22 d23 d24 d30 d31 d32 d33 d34; obtain ⟨d10, d11, d12, d13, d14⟩ := hc1.out.later hB (by omega); obtain ⟨d20, d21, d22, d23, d24⟩ := hc2.out.later hB (by omega); obtain ⟨d30, d31, d32, d33, d34⟩ := hc3.out.later hB (by omega); rw [Nat.zero_add] at d11 d12 d13 d14 d21 d22 d23 d24 d31 d32 d33 d34) | (go_at_call 13; (with_reducible refine (small420 _ _ _ _ (F1.kept hB (Nat.le_refl _)) hB.size s1).mono ?_); rintro e w1 ⟨rfl, hb⟩; have hB := hB.trans (hb.mono hB.size); clear hb d10 d11 d12 d13 d14 d20 d21 d22 d23 d24 d30 d31 d32 d33 d34; obtain ⟨d10, d11, d12, d13, d14⟩ := hc1.out.later hB (by omega); obtain ⟨d20, d21, d22, d23, d24⟩ := hc2.out.later hB (by omega); obtain ⟨d30, d31, d32, d33, d34⟩ := hc3.out.later hB (by omega); rw [Nat.zero_add] at d11 d12 d13 d14 d21 d22 d23 d24 d31 d32 d33 d34) | (go_at_call 13; (with_reducible refine (small420 _ _ _ _ (F2.kept hB (Nat.le_refl _)) hB.size s2).mono ?_); rintro e w1 ⟨rfl, hb⟩; have hB := hB.trans (hb.mono hB.size); clear hb d10 d11 d12 d13 d14 d20 d21 d22 d23 d24 d30 d31 d32 d33 d34; obtain ⟨d10, d11, d12, d13, d14⟩ := hc1.out.later hB (by omega); obtain ⟨d20, d21, d22, d23, d24⟩ := hc2.out.later hB (by omega); obtain ⟨d30, d31, d32, d33, d34⟩ := hc3.out.later hB (by omega); rw [Nat.zero_add] at d11 d12 d13 d14 d21 d22 d23 d24 d31 d32 d33 d34) | (go_at_call 13; (with_reducible refine (small420 _ _ _ _ (F3.kept hB (Nat.le_refl _)) hB.size s3).mono ?_); rintro e w1 ⟨rfl, hb⟩; have hB := hB.trans (hb.mono hB.size); clear hb d10 d11 d12 d13 d14 d20 d21 d22 d23 d24 d30 d31 d32 d33 d34; obtain ⟨d10, d11, d12, d13, d14⟩ := hc1.out.later hB (by omega); obtain ⟨d20, d21, d22, d23, d24⟩ := hc2.out.later hB (by omega); obtain ⟨d30, d31, d32, d33, d34⟩ := hc3.out.later hB (by omega); rw [Nat.zero_add] at d11 d12 d13 d14 d21 d22 d23 d24 d31 d32 d33 d34) | (go_at_call 19; (with_reducible refine (compare_any _ _ _ _ _ _ (F1.kept hB (Nat.le_refl _)) (F2.kept hB (Nat.le_refl _)) hB.size).mono ?_); rintro e w1 ⟨rfl, hb⟩; rw [e1.out]; have hB := hB.trans (hb.mono hB.size); clear hb d10 d11 d12 d13 d14 d20 d21 d22 d23 d24 d30 d31 d32 d33 d34; obtain ⟨d10, d11, d12, d13, d14⟩ := hc1.out.later hB (by omega); obtain ⟨d20, d21, d22, d23, d24⟩ := hc2.out.later hB (by omega); obtain ⟨d30, d31, d32, d33, d34⟩ := hc3.out.later hB (by omega); rw [Nat.zero_add] at d11 d12 d13 d14 d21 d22 d23 d24 d31 d32 d33 d34) | (go_at_call 19; (with_reducible refine (compare_any _ _ _ _ _ _ (F2.kept hB (Nat.le_refl _)) (F3.kept hB (Nat.le_refl _)) hB.size).mono ?_); rintro e w1 ⟨rfl, hb⟩; rw [e2.out]; have hB := hB.trans (hb.mono hB.size); clear hb d10 d11 d12 d13 d14 d20 d21 d22 d23 d24 d30 d31 d32 d33 d34; obtain ⟨d10, d11, d12, d13, d14⟩ := hc1.out.later hB (by omega); obtain ⟨d20, d21, d22, d23, d24⟩ := hc2.out.later hB (by omega); obtain ⟨d30, d31, d32, d33, d34⟩ := hc3.out.later hB (by omega); rw [Nat.zero_add] at d11 d12 d13 d14 d21 d22 d23 d24 d31 d32 d33 d34) | (go_at_call 19; (with_reducible refine (compare_any _ _ _ _ _ _ (F1.kept hB (Nat.le_refl _)) (F3.kept hB (Nat.le_refl _)) hB.size).mono ?_); rintro e w1 ⟨rfl, hb⟩; rw [e3.out]; have hB := hB.trans (hb.mono hB.size); clear hb d10 d11 d12 d13 d14 d20 d21 d22 d23 d24 d30 d31 d32 d33 d34; obtain ⟨d10, d11, d12, d13, d14⟩ := hc1.out.later hB (by omega); obtain ⟨d20, d21, d22, d23, d24⟩ := hc2.out.later hB (by omega); obtain ⟨d30, d31, d32, d33, d34⟩ := hc3.out.later hB (by omega); rw [Nat.zero_add] at d11 d12 d13 d14 d21 d22 d23 d24 d31 d32 d33 d34) | (go_at_call 19; (with_reducible refine (compare_any _ _ _ _ _ _ (F2.kept hB (Nat.le_refl _)) (F1.kept hB (Nat.le_refl _)) hB.size).mono ?_); rintro e w1 ⟨rfl, hb⟩; rw [e4.out]; have hB := hB.trans (hb.mono hB.size); clear hb d10 d11 d12 d13 d14 d20 d21 d22 d23 d24 d30 d31 d32 d33 d34; obtain ⟨d10, d11, d12, d13, d14⟩ := hc1.out.later hB (by omega); obtain ⟨d20, d21, d22, d23, d24⟩ := hc2.out.later hB (by omega); obtain ⟨d30, d31, d32, d33, d34⟩ := hc3.out.later hB (by omega); rw [Nat.zero_add] at d11 d12 d13 d14 d21 d22 d23 d24 d31 d32 d33 d34) | (go_at_call 19; (with_reducible refine (compare_any _ _ _ _ _ _ (F1.kept hB (Nat.le_refl _)) (F1.kept hB (Nat.le_refl _)) hB.size).mono ?_); rintro e w1 ⟨rfl, hb⟩; rw [e5.out]; have hB := hB.trans (hb.mono hB.size); clear hb d10 d11 d12 d13 d14 d20 d21 d22 d23 d24 d30 d31 d32 d33 d34; obtain ⟨d10, d11, d12, d13, d14⟩ := hc1.out.later hB (by omega); obtain ⟨d20, d21, d22, d23, d24⟩ := hc2.out.later hB (by omega); obtain ⟨d30, d31, d32, d33, d34⟩ := hc3.out.later hB (by omega); rw [Nat.zero_add] at d11 d12 d13 d14 d21 d22 d23 d24 d31 d32 d33 d34))
  go_ret
  exact ⟨rfl, hB0.trans (hB.mono hB0.size)⟩

set_option maxRecDepth 100000 in
set_option maxHeartbeats 4000000 in
theorem order_ne_b (hd : HeadOk) (f g h : Fm) (v1 v2 v3 : Value) (w : World) (hE : Env w) (h1 : FAt w.heap.size w v1 f) (h2 : FAt w.heap.size w v2 g) (h3 : FAt w.heap.size w v3 h) (s1 : Hid (f.nodes ≤ 420)) (s2 : Hid (g.nodes ≤ 420)) (s3 : Hid (h.nodes ≤ 420)) (z : Int) (e1 : Hid (cmpF f g = -1)) (e2 : Hid (cmpF g h = 1)) (e3 : Hid (cmpF f h = z)) (e4 : Hid (cmpF g f = 1)) (e5 : Hid (cmpF f f = 0)) :
    Calls Tryz.prog 4 #[v1, v2, v3] w fun e w' => e = .returned (.bool true) ∧ Below w.heap.size w w' := by
  obtain ⟨o1, c1, rfl, -, hA1⟩ := h1.open
  obtain ⟨o2, c2, rfl, -, hA2⟩ := h2.open
  obtain ⟨o3, c3, rfl, -, hA3⟩ := h3.open
  obtain ⟨W0, hW0, hB0, hc1, hc2, hc3, hlt⟩ := fm3_open w (.int .i64 f.op) (.string f.name) (.int .i64 f.val) (.int .i64 f.bound) (.slice o1 f.args.length c1) (.int .i64 g.op) (.string g.name) (.int .i64 g.val) (.int .i64 g.bound) (.slice o2 g.args.length c2) (.int .i64 h.op) (.string h.name) (.int .i64 h.val) (.int .i64 h.bound) (.slice o3 h.args.length c3)
  have hE0 : Env W0 := hE.below hB0
  have F1 := (h1.kept hB0 (Nat.le_refl _)).mono hB0.size
  have F2 := (h2.kept hB0 (Nat.le_refl _)).mono hB0.size
  have F3 := (h3.kept hB0 (Nat.le_refl _)).mono hB0.size
  have hB := Below.refl W0.heap.size W0
  obtain ⟨d10, d11, d12, d13, d14⟩ := hc1.out
  obtain ⟨d20, d21, d22, d23, d24⟩ := hc2.out
  obtain ⟨d30, d31, d32, d33, d34⟩ := hc3.out
  rw [Nat.zero_add] at d11 d12 d13 d14 d21 d22 d23 d24 d31 d32 d33 d34
  go_enter Tryz.func4, Tryz.ntmps4
  go_wp2_with fail
  rw [hW0.out]
  go_wp2_with (first | (go_at_call 12; refine (hd _ hE0).mono ?_; rintro e w1 ⟨rfl, hb⟩; have hB := hB.trans (hb.mono hB.size); clear hb d10 d11 d12 d13 d14 d20 d21 d22 d23 d24 d30 d31 d32 d33 d34; obtain ⟨d10, d11, d12, d13, d14⟩ := hc1.out.later hB (by omega); obtain ⟨d20, d21, d22, d23, d24⟩ := hc2.out.later hB (by omega); obtain ⟨d30, d31, d32, d33, d34⟩ := hc3.out.later hB (by omega); rw [Nat.zero_add] at d11 d12 d13 d14 d21 d22 d23 d24 d31 d32 d33 d34) | (go_at_call 13; (with_reducible refine (small420 _ _ _ _ (F1.kept hB (Nat.le_refl _)) hB.size s1).mono ?_); rintro e w1 ⟨rfl, hb⟩; have hB := hB.trans (hb.mono hB.size); clear hb d10 d11 d12 d13 d14 d20 d21 d22 d23 d24 d30 d31 d32 d33 d34; obtain ⟨d10, d11, d12, d13, d14⟩ := hc1.out.later hB (by omega); obtain ⟨d20, d21, d22, d23, d24⟩ := hc2.out.later hB (by omega); obtain ⟨d30, d31, d32, d33, d34⟩ := hc3.out.later hB (by omega); rw [Nat.zero_add] at d11 d12 d13 d14 d21 d22 d23 d24 d31 d32 d33 d34) | (go_at_call 13; (with_reducible refine (small420 _ _ _ _ (F2.kept hB (Nat.le_refl _)) hB.size s2).mono ?_); rintro e w1 ⟨rfl, hb⟩; have hB := hB.trans (hb.mono hB.size); clear hb d10 d11 d12 d13 d14 d20 d21 d22 d23 d24 d30 d31 d32 d33 d34; obtain ⟨d10, d11, d12, d13, d14⟩ := hc1.out.later hB (by omega); obtain ⟨d20, d21, d22, d23, d24⟩ := hc2.out.later hB (by omega); obtain ⟨d30, d31, d32, d33, d34⟩ := hc3.out.later hB (by omega); rw [Nat.zero_add] at d11 d12 d13 d14 d21 d22 d23 d24 d31 d32 d33 d34) | (go_at_call 13; (with_reducible refine (small420 _ _ _ _ (F3.kept hB (Nat.le_refl _)) hB.size s3).mono ?_); rintro e w1 ⟨rfl, hb⟩; have hB := hB.trans (hb.mono hB.size); clear hb d10 d11 d12 d13 d14 d20 d21 d22 d23 d24 d30 d31 d32 d33 d34; obtain ⟨d10, d11, d12, d13, d14⟩ := hc1.out.later hB (by omega); obtain ⟨d20, d21, d22, d23, d24⟩ := hc2.out.later hB (by omega); obtain ⟨d30, d31, d32, d33, d34⟩ := hc3.out.later hB (by omega); rw [Nat.zero_add] at d11 d12 d13 d14 d21 d22 d23 d24 d31 d32 d33 d34) | (go_at_call 19; (with_reducible refine (compare_any _ _ _ _ _ _ (F1.kept hB (Nat.le_refl _)) (F2.kept hB (Nat.le_refl _)) hB.size).mono ?_); rintro e w1 ⟨rfl, hb⟩; rw [e1.out]; have hB := hB.trans (hb.mono hB.size); clear hb d10 d11 d12 d13 d14 d20 d21 d22 d23 d24 d30 d31 d32 d33 d34; obtain ⟨d10, d11, d12, d13, d14⟩ := hc1.out.later hB (by omega); obtain ⟨d20, d21, d22, d23, d24⟩ := hc2.out.later hB (by omega); obtain ⟨d30, d31, d32, d33, d34⟩ := hc3.out.later hB (by omega); rw [Nat.zero_add] at d11 d12 d13 d14 d21 d22 d23 d24 d31 d32 d33 d34) | (go_at_call 19; (with_reducible refine (compare_any _ _ _ _ _ _ (F2.kept hB (Nat.le_refl _)) (F3.kept hB (Nat.le_refl _)) hB.size).mono ?_); rintro e w1 ⟨rfl, hb⟩; rw [e2.out]; have hB := hB.trans (hb.mono hB.size); clear hb d10 d11 d12 d13 d14 d20 d21 d22 d23 d24 d30 d31 d32 d33 d34; obtain ⟨d10, d11, d12, d13, d14⟩ := hc1.out.later hB (by omega); obtain ⟨d20, d21, d22, d23, d24⟩ := hc2.out.later hB (by omega); obtain ⟨d30, d31, d32, d33, d34⟩ := hc3.out.later hB (by omega); rw [Nat.zero_add] at d11 d12 d13 d14 d21 d22 d23 d24 d31 d32 d33 d34) | (go_at_call 19; (with_reducible refine (compare_any _ _ _ _ _ _ (F1.kept hB (Nat.le_refl _)) (F3.kept hB (Nat.le_refl _)) hB.size).mono ?_); rintro e w1 ⟨rfl, hb⟩; rw [e3.out]; have hB := hB.trans (hb.mono hB.size); clear hb d10 d11 d12 d13 d14 d20 d21 d22 d23 d24 d30 d31 d32 d33 d34; obtain ⟨d10, d11, d12, d13, d14⟩ := hc1.out.later hB (by omega); obtain ⟨d20, d21, d22, d23, d24⟩ := hc2.out.later hB (by omega); obtain ⟨d30, d31, d32, d33, d34⟩ := hc3.out.later hB (by omega); rw [Nat.zero_add] at d11 d12 d13 d14 d21 d22 d23 d24 d31 d32 d33 d34) | (go_at_call 19; (with_reducible refine (compare_any _ _ _ _ _ _ (F2.kept hB (Nat.le_refl _)) (F1.kept hB (Nat.le_refl _)) hB.size).mono ?_); rintro e w1 ⟨rfl, hb⟩; rw [e4.out]; have hB := hB.trans (hb.mono hB.size); clear hb d10 d11 d12 d13 d14 d20 d21 d22 d23 d24 d30 d31 d32 d33 d34; obtain ⟨d10, d11, d12, d13, d14⟩ := hc1.out.later hB (by omega); obtain ⟨d20, d21, d22, d23, d24⟩ := hc2.out.later hB (by omega); obtain ⟨d30, d31, d32, d33, d34⟩ := hc3.out.later hB (by omega); rw [Nat.zero_add] at d11 d12 d13 d14 d21 d22 d23 d24 d31 d32 d33 d34) | (go_at_call 19; (with_reducible refine (compare_any _ _ _ _ _ _ (F1.kept hB (Nat.le_refl _)) (F1.kept hB (Nat.le_refl _)) hB.size).mono ?_); rintro e w1 ⟨rfl, hb⟩; rw [e5.out]; have hB := hB.trans (hb.mono hB.size); clear hb d10 d11 d12 d13 d14 d20 d21 d22 d23 d24 d30 d31 d32 d33 d34; obtain ⟨d10, d11, d12, d13, d14⟩ := hc1.out.later hB (by omega); obtain ⟨d20, d21, d22, d23, d24⟩ := hc2.out.later hB (by omega); obtain ⟨d30, d31, d32, d33, d34⟩ := hc3.out.later hB (by omega); rw [Nat.zero_add] at d11 d12 d13 d14 d21 d22 d23 d24 d31 d32 d33 d34))
  go_ret
  exact ⟨rfl, hB0.trans (hB.mono hB0.size)⟩

set_option maxRecDepth 100000 in
set_option maxHeartbeats 4000000 in
theorem order_ne_c (hd : HeadOk) (f g h : Fm) (v1 v2 v3 : Value) (w : World) (hE : Env w) (h1 : FAt w.heap.size w v1 f) (h2 : FAt w.heap.size w v2 g) (h3 : FAt w.heap.size w v3 h) (s1 : Hid (f.nodes ≤ 420)) (s2 : Hid (g.nodes ≤ 420)) (s3 : Hid (h.nodes ≤ 420)) (e1 : Hid (cmpF f g = -1)) (e2 : Hid (cmpF g h = 0)) (e3 : Hid (cmpF f h = -1)) (e4 : Hid (cmpF g f = 1)) (e5 : Hid (cmpF f f = 0)) :
    Calls Tryz.prog 4 #[v1, v2, v3] w fun e w' => e = .returned (.bool true) ∧ Below w.heap.size w w' := by
  obtain ⟨o1, c1, rfl, -, hA1⟩ := h1.open
  obtain ⟨o2, c2, rfl, -, hA2⟩ := h2.open
  obtain ⟨o3, c3, rfl, -, hA3⟩ := h3.open
  obtain ⟨W0, hW0, hB0, hc1, hc2, hc3, hlt⟩ := fm3_open w (.int .i64 f.op) (.string f.name) (.int .i64 f.val) (.int .i64 f.bound) (.slice o1 f.args.length c1) (.int .i64 g.op) (.string g.name) (.int .i64 g.val) (.int .i64 g.bound) (.slice o2 g.args.length c2) (.int .i64 h.op) (.string h.name) (.int .i64 h.val) (.int .i64 h.bound) (.slice o3 h.args.length c3)
  have hE0 : Env W0 := hE.below hB0
  have F1 := (h1.kept hB0 (Nat.le_refl _)).mono hB0.size
  have F2 := (h2.kept hB0 (Nat.le_refl _)).mono hB0.size
  have F3 := (h3.kept hB0 (Nat.le_refl _)).mono hB0.size
  have hB := Below.refl W0.heap.size W0
  obtain ⟨d10, d11, d12, d13, d14⟩ := hc1.out
  obtain ⟨d20, d21, d22, d23, d24⟩ := hc2.out
  obtain ⟨d30, d31, d32, d33, d34⟩ := hc3.out
  rw [Nat.zero_add] at d11 d12 d13 d14 d21 d22 d23 d24 d31 d32 d33 d34
  go_enter Tryz.func4, Tryz.ntmps4
  go_wp2_with fail
  rw [hW0.out]
  go_wp2_with (first | (go_at_call 12; refine (hd _ hE0).mono ?_; rintro e w1 ⟨rfl, hb⟩; have hB := hB.trans (hb.mono hB.size); clear hb d10 d11 d12 d13 d14 d20 d21 d22 d23 d24 d30 d31 d32 d33 d34; obtain ⟨d10, d11, d12, d13, d14⟩ := hc1.out.later hB (by omega); obtain ⟨d20, d21, d22, d23, d24⟩ := hc2.out.later hB (by omega); obtain ⟨d30, d31, d32, d33, d34⟩ := hc3.out.later hB (by omega); rw [Nat.zero_add] at d11 d12 d13 d14 d21 d22 d23 d24 d31 d32 d33 d34) | (go_at_call 13; (with_reducible refine (small420 _ _ _ _ (F1.kept hB (Nat.le_refl _)) hB.size s1).mono ?_); rintro e w1 ⟨rfl, hb⟩; have hB := hB.trans (hb.mono hB.size); clear hb d10 d11 d12 d13 d14 d20 d21 d22 d23 d24 d30 d31 d32 d33 d34; obtain ⟨d10, d11, d12, d13, d14⟩ := hc1.out.later hB (by omega); obtain ⟨d20, d21, d22, d23, d24⟩ := hc2.out.later hB (by omega); obtain ⟨d30, d31, d32, d33, d34⟩ := hc3.out.later hB (by omega); rw [Nat.zero_add] at d11 d12 d13 d14 d21 d22 d23 d24 d31 d32 d33 d34) | (go_at_call 13; (with_reducible refine (small420 _ _ _ _ (F2.kept hB (Nat.le_refl _)) hB.size s2).mono ?_); rintro e w1 ⟨rfl, hb⟩; have hB := hB.trans (hb.mono hB.size); clear hb d10 d11 d12 d13 d14 d20 d21 d22 d23 d24 d30 d31 d32 d33 d34; obtain ⟨d10, d11, d12, d13, d14⟩ := hc1.out.later hB (by omega); obtain ⟨d20, d21, d22, d23, d24⟩ := hc2.out.later hB (by omega); obtain ⟨d30, d31, d32, d33, d34⟩ := hc3.out.later hB (by omega); rw [Nat.zero_add] at d11 d12 d13 d14 d21 d22 d23 d24 d31 d32 d33 d34) | (go_at_call 13; (with_reducible refine (small420 _ _ _ _ (F3.kept hB (Nat.le_refl _)) hB.size s3).mono ?_); rintro e w1 ⟨rfl, hb⟩; have hB := hB.trans (hb.mono hB.size); clear hb d10 d11 d12 d13 d14 d20 d21 d22 d23 d24 d30 d31 d32 d33 d34; obtain ⟨d10, d11, d12, d13, d14⟩ := hc1.out.later hB (by omega); obtain ⟨d20, d21, d22, d23, d24⟩ := hc2.out.later hB (by omega); obtain ⟨d30, d31, d32, d33, d34⟩ := hc3.out.later hB (by omega); rw [Nat.zero_add] at d11 d12 d13 d14 d21 d22 d23 d24 d31 d32 d33 d34) | (go_at_call 19; (with_reducible refine (compare_any _ _ _ _ _ _ (F1.kept hB (Nat.le_refl _)) (F2.kept hB (Nat.le_refl _)) hB.size).mono ?_); rintro e w1 ⟨rfl, hb⟩; rw [e1.out]; have hB := hB.trans (hb.mono hB.size); clear hb d10 d11 d12 d13 d14 d20 d21 d22 d23 d24 d30 d31 d32 d33 d34; obtain ⟨d10, d11, d12, d13, d14⟩ := hc1.out.later hB (by omega); obtain ⟨d20, d21, d22, d23, d24⟩ := hc2.out.later hB (by omega); obtain ⟨d30, d31, d32, d33, d34⟩ := hc3.out.later hB (by omega); rw [Nat.zero_add] at d11 d12 d13 d14 d21 d22 d23 d24 d31 d32 d33 d34) | (go_at_call 19; (with_reducible refine (compare_any _ _ _ _ _ _ (F2.kept hB (Nat.le_refl _)) (F3.kept hB (Nat.le_refl _)) hB.size).mono ?_); rintro e w1 ⟨rfl, hb⟩; rw [e2.out]; have hB := hB.trans (hb.mono hB.size); clear hb d10 d11 d12 d13 d14 d20 d21 d22 d23 d24 d30 d31 d32 d33 d34; obtain ⟨d10, d11, d12, d13, d14⟩ := hc1.out.later hB (by omega); obtain ⟨d20, d21, d22, d23, d24⟩ := hc2.out.later hB (by omega); obtain ⟨d30, d31, d32, d33, d34⟩ := hc3.out.later hB (by omega); rw [Nat.zero_add] at d11 d12 d13 d14 d21 d22 d23 d24 d31 d32 d33 d34) | (go_at_call 19; (with_reducible refine (compare_any _ _ _ _ _ _ (F1.kept hB (Nat.le_refl _)) (F3.kept hB (Nat.le_refl _)) hB.size).mono ?_); rintro e w1 ⟨rfl, hb⟩; rw [e3.out]; have hB := hB.trans (hb.mono hB.size); clear hb d10 d11 d12 d13 d14 d20 d21 d22 d23 d24 d30 d31 d32 d33 d34; obtain ⟨d10, d11, d12, d13, d14⟩ := hc1.out.later hB (by omega); obtain ⟨d20, d21, d22, d23, d24⟩ := hc2.out.later hB (by omega); obtain ⟨d30, d31, d32, d33, d34⟩ := hc3.out.later hB (by omega); rw [Nat.zero_add] at d11 d12 d13 d14 d21 d22 d23 d24 d31 d32 d33 d34) | (go_at_call 19; (with_reducible refine (compare_any _ _ _ _ _ _ (F2.kept hB (Nat.le_refl _)) (F1.kept hB (Nat.le_refl _)) hB.size).mono ?_); rintro e w1 ⟨rfl, hb⟩; rw [e4.out]; have hB := hB.trans (hb.mono hB.size); clear hb d10 d11 d12 d13 d14 d20 d21 d22 d23 d24 d30 d31 d32 d33 d34; obtain ⟨d10, d11, d12, d13, d14⟩ := hc1.out.later hB (by omega); obtain ⟨d20, d21, d22, d23, d24⟩ := hc2.out.later hB (by omega); obtain ⟨d30, d31, d32, d33, d34⟩ := hc3.out.later hB (by omega); rw [Nat.zero_add] at d11 d12 d13 d14 d21 d22 d23 d24 d31 d32 d33 d34) | (go_at_call 19; (with_reducible refine (compare_any _ _ _ _ _ _ (F1.kept hB (Nat.le_refl _)) (F1.kept hB (Nat.le_refl _)) hB.size).mono ?_); rintro e w1 ⟨rfl, hb⟩; rw [e5.out]; have hB := hB.trans (hb.mono hB.size); clear hb d10 d11 d12 d13 d14 d20 d21 d22 d23 d24 d30 d31 d32 d33 d34; obtain ⟨d10, d11, d12, d13, d14⟩ := hc1.out.later hB (by omega); obtain ⟨d20, d21, d22, d23, d24⟩ := hc2.out.later hB (by omega); obtain ⟨d30, d31, d32, d33, d34⟩ := hc3.out.later hB (by omega); rw [Nat.zero_add] at d11 d12 d13 d14 d21 d22 d23 d24 d31 d32 d33 d34))
  go_ret
  exact ⟨rfl, hB0.trans (hB.mono hB0.size)⟩

set_option maxRecDepth 100000 in
set_option maxHeartbeats 4000000 in
theorem order_ne_d (hd : HeadOk) (f g h : Fm) (v1 v2 v3 : Value) (w : World) (hE : Env w) (h1 : FAt w.heap.size w v1 f) (h2 : FAt w.heap.size w v2 g) (h3 : FAt w.heap.size w v3 h) (s1 : Hid (f.nodes ≤ 420)) (s2 : Hid (g.nodes ≤ 420)) (s3 : Hid (h.nodes ≤ 420)) (e1 : Hid (cmpF f g = -1)) (e2 : Hid (cmpF g h = -1)) (e3 : Hid (cmpF f h = -1)) (e4 : Hid (cmpF g f = 1)) (e5 : Hid (cmpF f f = 0)) :
    Calls Tryz.prog 4 #[v1, v2, v3] w fun e w' => e = .returned (.bool true) ∧ Below w.heap.size w w' := by
  obtain ⟨o1, c1, rfl, -, hA1⟩ := h1.open
  obtain ⟨o2, c2, rfl, -, hA2⟩ := h2.open
  obtain ⟨o3, c3, rfl, -, hA3⟩ := h3.open
  obtain ⟨W0, hW0, hB0, hc1, hc2, hc3, hlt⟩ := fm3_open w (.int .i64 f.op) (.string f.name) (.int .i64 f.val) (.int .i64 f.bound) (.slice o1 f.args.length c1) (.int .i64 g.op) (.string g.name) (.int .i64 g.val) (.int .i64 g.bound) (.slice o2 g.args.length c2) (.int .i64 h.op) (.string h.name) (.int .i64 h.val) (.int .i64 h.bound) (.slice o3 h.args.length c3)
  have hE0 : Env W0 := hE.below hB0
  have F1 := (h1.kept hB0 (Nat.le_refl _)).mono hB0.size
  have F2 := (h2.kept hB0 (Nat.le_refl _)).mono hB0.size
  have F3 := (h3.kept hB0 (Nat.le_refl _)).mono hB0.size
  have hB := Below.refl W0.heap.size W0
  obtain ⟨d10, d11, d12, d13, d14⟩ := hc1.out
  obtain ⟨d20, d21, d22, d23, d24⟩ := hc2.out
  obtain ⟨d30, d31, d32, d33, d34⟩ := hc3.out
  rw [Nat.zero_add] at d11 d12 d13 d14 d21 d22 d23 d24 d31 d32 d33 d34
  go_enter Tryz.func4, Tryz.ntmps4
  go_wp2_with fail
  rw [hW0.out]
  go_wp2_with (first | (go_at_call 12; refine (hd _ hE0).mono ?_; rintro e w1 ⟨rfl, hb⟩; have hB := hB.trans (hb.mono hB.size); clear hb d10 d11 d12 d13 d14 d20 d21 d22 d23 d24 d30 d31 d32 d33 d34; obtain ⟨d10, d11, d12, d13, d14⟩ := hc1.out.later hB (by omega); obtain ⟨d20, d21, d22, d23, d24⟩ := hc2.out.later hB (by omega); obtain ⟨d30, d31, d32, d33, d34⟩ := hc3.out.later hB (by omega); rw [Nat.zero_add] at d11 d12 d13 d14 d21 d22 d23 d24 d31 d32 d33 d34) | (go_at_call 13; (with_reducible refine (small420 _ _ _ _ (F1.kept hB (Nat.le_refl _)) hB.size s1).mono ?_); rintro e w1 ⟨rfl, hb⟩; have hB := hB.trans (hb.mono hB.size); clear hb d10 d11 d12 d13 d14 d20 d21 d22 d23 d24 d30 d31 d32 d33 d34; obtain ⟨d10, d11, d12, d13, d14⟩ := hc1.out.later hB (by omega); obtain ⟨d20, d21, d22, d23, d24⟩ := hc2.out.later hB (by omega); obtain ⟨d30, d31, d32, d33, d34⟩ := hc3.out.later hB (by omega); rw [Nat.zero_add] at d11 d12 d13 d14 d21 d22 d23 d24 d31 d32 d33 d34) | (go_at_call 13; (with_reducible refine (small420 _ _ _ _ (F2.kept hB (Nat.le_refl _)) hB.size s2).mono ?_); rintro e w1 ⟨rfl, hb⟩; have hB := hB.trans (hb.mono hB.size); clear hb d10 d11 d12 d13 d14 d20 d21 d22 d23 d24 d30 d31 d32 d33 d34; obtain ⟨d10, d11, d12, d13, d14⟩ := hc1.out.later hB (by omega); obtain ⟨d20, d21, d22, d23, d24⟩ := hc2.out.later hB (by omega); obtain ⟨d30, d31, d32, d33, d34⟩ := hc3.out.later hB (by omega); rw [Nat.zero_add] at d11 d12 d13 d14 d21 d22 d23 d24 d31 d32 d33 d34) | (go_at_call 13; (with_reducible refine (small420 _ _ _ _ (F3.kept hB (Nat.le_refl _)) hB.size s3).mono ?_); rintro e w1 ⟨rfl, hb⟩; have hB := hB.trans (hb.mono hB.size); clear hb d10 d11 d12 d13 d14 d20 d21 d22 d23 d24 d30 d31 d32 d33 d34; obtain ⟨d10, d11, d12, d13, d14⟩ := hc1.out.later hB (by omega); obtain ⟨d20, d21, d22, d23, d24⟩ := hc2.out.later hB (by omega); obtain ⟨d30, d31, d32, d33, d34⟩ := hc3.out.later hB (by omega); rw [Nat.zero_add] at d11 d12 d13 d14 d21 d22 d23 d24 d31 d32 d33 d34) | (go_at_call 19; (with_reducible refine (compare_any _ _ _ _ _ _ (F1.kept hB (Nat.le_refl _)) (F2.kept hB (Nat.le_refl _)) hB.size).mono ?_); rintro e w1 ⟨rfl, hb⟩; rw [e1.out]; have hB := hB.trans (hb.mono hB.size); clear hb d10 d11 d12 d13 d14 d20 d21 d22 d23 d24 d30 d31 d32 d33 d34; obtain ⟨d10, d11, d12, d13, d14⟩ := hc1.out.later hB (by omega); obtain ⟨d20, d21, d22, d23, d24⟩ := hc2.out.later hB (by omega); obtain ⟨d30, d31, d32, d33, d34⟩ := hc3.out.later hB (by omega); rw [Nat.zero_add] at d11 d12 d13 d14 d21 d22 d23 d24 d31 d32 d33 d34) | (go_at_call 19; (with_reducible refine (compare_any _ _ _ _ _ _ (F2.kept hB (Nat.le_refl _)) (F3.kept hB (Nat.le_refl _)) hB.size).mono ?_); rintro e w1 ⟨rfl, hb⟩; rw [e2.out]; have hB := hB.trans (hb.mono hB.size); clear hb d10 d11 d12 d13 d14 d20 d21 d22 d23 d24 d30 d31 d32 d33 d34; obtain ⟨d10, d11, d12, d13, d14⟩ := hc1.out.later hB (by omega); obtain ⟨d20, d21, d22, d23, d24⟩ := hc2.out.later hB (by omega); obtain ⟨d30, d31, d32, d33, d34⟩ := hc3.out.later hB (by omega); rw [Nat.zero_add] at d11 d12 d13 d14 d21 d22 d23 d24 d31 d32 d33 d34) | (go_at_call 19; (with_reducible refine (compare_any _ _ _ _ _ _ (F1.kept hB (Nat.le_refl _)) (F3.kept hB (Nat.le_refl _)) hB.size).mono ?_); rintro e w1 ⟨rfl, hb⟩; rw [e3.out]; have hB := hB.trans (hb.mono hB.size); clear hb d10 d11 d12 d13 d14 d20 d21 d22 d23 d24 d30 d31 d32 d33 d34; obtain ⟨d10, d11, d12, d13, d14⟩ := hc1.out.later hB (by omega); obtain ⟨d20, d21, d22, d23, d24⟩ := hc2.out.later hB (by omega); obtain ⟨d30, d31, d32, d33, d34⟩ := hc3.out.later hB (by omega); rw [Nat.zero_add] at d11 d12 d13 d14 d21 d22 d23 d24 d31 d32 d33 d34) | (go_at_call 19; (with_reducible refine (compare_any _ _ _ _ _ _ (F2.kept hB (Nat.le_refl _)) (F1.kept hB (Nat.le_refl _)) hB.size).mono ?_); rintro e w1 ⟨rfl, hb⟩; rw [e4.out]; have hB := hB.trans (hb.mono hB.size); clear hb d10 d11 d12 d13 d14 d20 d21 d22 d23 d24 d30 d31 d32 d33 d34; obtain ⟨d10, d11, d12, d13, d14⟩ := hc1.out.later hB (by omega); obtain ⟨d20, d21, d22, d23, d24⟩ := hc2.out.later hB (by omega); obtain ⟨d30, d31, d32, d33, d34⟩ := hc3.out.later hB (by omega); rw [Nat.zero_add] at d11 d12 d13 d14 d21 d22 d23 d24 d31 d32 d33 d34) | (go_at_call 19; (with_reducible refine (compare_any _ _ _ _ _ _ (F1.kept hB (Nat.le_refl _)) (F1.kept hB (Nat.le_refl _)) hB.size).mono ?_); rintro e w1 ⟨rfl, hb⟩; rw [e5.out]; have hB := hB.trans (hb.mono hB.size); clear hb d10 d11 d12 d13 d14 d20 d21 d22 d23 d24 d30 d31 d32 d33 d34; obtain ⟨d10, d11, d12, d13, d14⟩ := hc1.out.later hB (by omega); obtain ⟨d20, d21, d22, d23, d24⟩ := hc2.out.later hB (by omega); obtain ⟨d30, d31, d32, d33, d34⟩ := hc3.out.later hB (by omega); rw [Nat.zero_add] at d11 d12 d13 d14 d21 d22 d23 d24 d31 d32 d33 d34))
  go_ret
  exact ⟨rfl, hB0.trans (hB.mono hB0.size)⟩

set_option maxRecDepth 100000 in
set_option maxHeartbeats 4000000 in
theorem order_eq_a (hd : HeadOk) (f h : Fm) (v1 v2 v3 : Value) (w : World) (hE : Env w) (h1 : FAt w.heap.size w v1 f) (h2 : FAt w.heap.size w v2 f) (h3 : FAt w.heap.size w v3 h) (s1 : Hid (f.nodes ≤ 420)) (s2 : Hid (f.nodes ≤ 420)) (s3 : Hid (h.nodes ≤ 420)) (e1 : Hid (cmpF f f = 0)) (e2 : Hid (cmpF f h = 1)) :
    Calls Tryz.prog 4 #[v1, v2, v3] w fun e w' => e = .returned (.bool true) ∧ Below w.heap.size w w' := by
  obtain ⟨o1, c1, rfl, -, hA1⟩ := h1.open
  obtain ⟨o2, c2, rfl, -, hA2⟩ := h2.open
  obtain ⟨o3, c3, rfl, -, hA3⟩ := h3.open
  obtain ⟨W0, hW0, hB0, hc1, hc2, hc3, hlt⟩ := fm3_open w (.int .i64 f.op) (.string f.name) (.int .i64 f.val) (.int .i64 f.bound) (.slice o1 f.args.length c1) (.int .i64 f.op) (.string f.name) (.int .i64 f.val) (.int .i64 f.bound) (.slice o2 f.args.length c2) (.int .i64 h.op) (.string h.name) (.int .i64 h.val) (.int .i64 h.bound) (.slice o3 h.args.length c3)
  have hE0 : Env W0 := hE.below hB0
  have F1 := (h1.kept hB0 (Nat.le_refl _)).mono hB0.size
  have F2 := (h2.kept hB0 (Nat.le_refl _)).mono hB0.size
  have F3 := (h3.kept hB0 (Nat.le_refl _)).mono hB0.size
  have hB := Below.refl W0.heap.size W0
  obtain ⟨d10, d11, d12, d13, d14⟩ := hc1.out
  obtain ⟨d20, d21, d22, d23, d24⟩ := hc2.out
  obtain ⟨d30, d31, d32, d33, d34⟩ := hc3.out
  rw [Nat.zero_add] at d11 d12 d13 d14 d21 d22 d23 d24 d31 d32 d33 d34
  go_enter Tryz.func4, Tryz.ntmps4
  go_wp2_with fail
  rw [hW0.out]
  go_wp2_with (first | (go_at_call 12; refine (hd _ hE0).mono ?_; rintro e w1 ⟨rfl, hb⟩; have hB := hB.trans (hb.mono hB.size); clear hb d10 d11 d12 d13 d14 d20 d21 d22 d23 d24 d30 d31 d32 d33 d34; obtain ⟨d10, d11, d12, d13, d14⟩ := hc1.out.later hB (by omega); obtain ⟨d20, d21, d22, d23, d24⟩ := hc2.out.later hB (by omega); obtain ⟨d30, d31, d32, d33, d34⟩ := hc3.out.later hB (by omega); rw [Nat.zero_add] at d11 d12 d13 d14 d21 d22 d23 d24 d31 d32 d33 d34) | (go_at_call 13; (with_reducible refine (small420 _ _ _ _ (F1.kept hB (Nat.le_refl _)) hB.size s1).mono ?_); rintro e w1 ⟨rfl, hb⟩; have hB := hB.trans (hb.mono hB.size); clear hb d10 d11 d12 d13 d14 d20 d21 d22 d23 d24 d30 d31 d32 d33 d34; obtain ⟨d10, d11, d12, d13, d14⟩ := hc1.out.later hB (by omega); obtain ⟨d20, d21, d22, d23, d24⟩ := hc2.out.later hB (by omega); obtain ⟨d30, d31, d32, d33, d34⟩ := hc3.out.later hB (by omega); rw [Nat.zero_add] at d11 d12 d13 d14 d21 d22 d23 d24 d31 d32 d33 d34) | (go_at_call 13; (with_reducible refine (small420 _ _ _ _ (F2.kept hB (Nat.le_refl _)) hB.size s2).mono ?_); rintro e w1 ⟨rfl, hb⟩; have hB := hB.trans (hb.mono hB.size); clear hb d10 d11 d12 d13 d14 d20 d21 d22 d23 d24 d30 d31 d32 d33 d34; obtain ⟨d10, d11, d12, d13, d14⟩ := hc1.out.later hB (by omega); obtain ⟨d20, d21, d22, d23, d24⟩ := hc2.out.later hB (by omega); obtain ⟨d30, d31, d32, d33, d34⟩ := hc3.out.later hB (by omega); rw [Nat.zero_add] at d11 d12 d13 d14 d21 d22 d23 d24 d31 d32 d33 d34) | (go_at_call 13; (with_reducible refine (small420 _ _ _ _ (F3.kept hB (Nat.le_refl _)) hB.size s3).mono ?_); rintro e w1 ⟨rfl, hb⟩; have hB := hB.trans (hb.mono hB.size); clear hb d10 d11 d12 d13 d14 d20 d21 d22 d23 d24 d30 d31 d32 d33 d34; obtain ⟨d10, d11, d12, d13, d14⟩ := hc1.out.later hB (by omega); obtain ⟨d20, d21, d22, d23, d24⟩ := hc2.out.later hB (by omega); obtain ⟨d30, d31, d32, d33, d34⟩ := hc3.out.later hB (by omega); rw [Nat.zero_add] at d11 d12 d13 d14 d21 d22 d23 d24 d31 d32 d33 d34) | (go_at_call 19; (with_reducible refine (compare_any _ _ _ _ _ _ (F1.kept hB (Nat.le_refl _)) (F2.kept hB (Nat.le_refl _)) hB.size).mono ?_); rintro e w1 ⟨rfl, hb⟩; rw [e1.out]; have hB := hB.trans (hb.mono hB.size); clear hb d10 d11 d12 d13 d14 d20 d21 d22 d23 d24 d30 d31 d32 d33 d34; obtain ⟨d10, d11, d12, d13, d14⟩ := hc1.out.later hB (by omega); obtain ⟨d20, d21, d22, d23, d24⟩ := hc2.out.later hB (by omega); obtain ⟨d30, d31, d32, d33, d34⟩ := hc3.out.later hB (by omega); rw [Nat.zero_add] at d11 d12 d13 d14 d21 d22 d23 d24 d31 d32 d33 d34) | (go_at_call 19; (with_reducible refine (compare_any _ _ _ _ _ _ (F2.kept hB (Nat.le_refl _)) (F3.kept hB (Nat.le_refl _)) hB.size).mono ?_); rintro e w1 ⟨rfl, hb⟩; rw [e2.out]; have hB := hB.trans (hb.mono hB.size); clear hb d10 d11 d12 d13 d14 d20 d21 d22 d23 d24 d30 d31 d32 d33 d34; obtain ⟨d10, d11, d12, d13, d14⟩ := hc1.out.later hB (by omega); obtain ⟨d20, d21, d22, d23, d24⟩ := hc2.out.later hB (by omega); obtain ⟨d30, d31, d32, d33, d34⟩ := hc3.out.later hB (by omega); rw [Nat.zero_add] at d11 d12 d13 d14 d21 d22 d23 d24 d31 d32 d33 d34) | (go_at_call 19; (with_reducible refine (compare_any _ _ _ _ _ _ (F1.kept hB (Nat.le_refl _)) (F3.kept hB (Nat.le_refl _)) hB.size).mono ?_); rintro e w1 ⟨rfl, hb⟩; rw [e2.out]; have hB := hB.trans (hb.mono hB.size); clear hb d10 d11 d12 d13 d14 d20 d21 d22 d23 d24 d30 d31 d32 d33 d34; obtain ⟨d10, d11, d12, d13, d14⟩ := hc1.out.later hB (by omega); obtain ⟨d20, d21, d22, d23, d24⟩ := hc2.out.later hB (by omega); obtain ⟨d30, d31, d32, d33, d34⟩ := hc3.out.later hB (by omega); rw [Nat.zero_add] at d11 d12 d13 d14 d21 d22 d23 d24 d31 d32 d33 d34) | (go_at_call 19; (with_reducible refine (compare_any _ _ _ _ _ _ (F2.kept hB (Nat.le_refl _)) (F1.kept hB (Nat.le_refl _)) hB.size).mono ?_); rintro e w1 ⟨rfl, hb⟩; rw [e1.out]; have hB := hB.trans (hb.mono hB.size); clear hb d10 d11 d12 d13 d14 d20 d21 d22 d23 d24 d30 d31 d32 d33 d34; obtain ⟨d10, d11, d12, d13, d14⟩ := hc1.out.later hB (by omega); obtain ⟨d20, d21, d22, d23, d24⟩ := hc2.out.later hB (by omega); obtain ⟨d30, d31, d32, d33, d34⟩ := hc3.out.later hB (by omega); rw [Nat.zero_add] at d11 d12 d13 d14 d21 d22 d23 d24 d31 d32 d33 d34) | (go_at_call 19; (with_reducible refine (compare_any _ _ _ _ _ _ (F1.kept hB (Nat.le_refl _)) (F1.kept hB (Nat.le_refl _)) hB.size).mono ?_); rintro e w1 ⟨rfl, hb⟩; rw [e1.out]; have hB := hB.trans (hb.mono hB.size); clear hb d10 d11 d12 d13 d14 d20 d21 d22 d23 d24 d30 d31 d32 d33 d34; obtain ⟨d10, d11, d12, d13, d14⟩ := hc1.out.later hB (by omega); obtain ⟨d20, d21, d22, d23, d24⟩ := hc2.out.later hB (by omega); obtain ⟨d30, d31, d32, d33, d34⟩ := hc3.out.later hB (by omega); rw [Nat.zero_add] at d11 d12 d13 d14 d21 d22 d23 d24 d31 d32 d33 d34))
  go_loopw [11] (fun i wr => ∃ k : Nat, k ≤ f.args.length ∧ i = .int .i64 k ∧ Below W0.heap.size W0 wr) (fun i _ => f.args.length - (intOf i).toNat)
  case atStart => exact ⟨0, Nat.zero_le _, rfl, hB⟩
  case round =>
    clear d10 d11 d12 d13 d14 d20 d21 d22 d23 d24 d30 d31 d32 d33 d34 hB
    obtain ⟨k, hk, rfl, hB⟩ := hrel
    obtain ⟨d10, d11, d12, d13, d14⟩ := hc1.out.later hB (by omega)
    obtain ⟨d20, d21, d22, d23, d24⟩ := hc2.out.later hB (by omega)
    rw [Nat.zero_add] at d11 d12 d13 d14 d21 d22 d23 d24
    have hl1 := hA1.len
    have hW := hB0.trans (hB.mono hB0.size)
    by_cases hlk : k < f.args.length
    · obtain ⟨b, off, rfl, hb, hat⟩ := hA1.at (by omega)
      obtain ⟨sl, hc5, hF⟩ := hat k hlk
      obtain ⟨b', off', rfl, hb', hat'⟩ := hA2.at (by omega)
      obtain ⟨sl', hc5', hG⟩ := hat' k hlk
      obtain ⟨e0, e1, e2, e3, e4⟩ := hc5.below hW hb
      obtain ⟨g0, g1, g2, g3, g4⟩ := hc5'.below hW hb'
      have hy := hidi (good_fm f.args[k]).refl
      generalize f.args[k] = p at *
      go_wp2_with fail
      go_still_tail 10, (by kernel_rfl)
      go_wp2_with (go_at_call 19; refine (compare_any p p w.heap.size _ _ _ (hF.kept hW.drew (Nat.le_refl _)) (hG.kept hW.drew (Nat.le_refl _)) hW.drew.size).mono ?_; rintro e w1 ⟨rfl, hb1⟩; rw [hy.out]; have hB := hB.drew.trans (hb1.mono hB.drew.size); clear hb1)
      go_roundw
      case rel => exact ⟨k + 1, by omega, by go_num, hB⟩
      case measure => simp [intOf]; omega
    · obtain rfl : k = f.args.length := by omega
      go_wp2
      go_ret
      exact ⟨rfl, hW⟩

set_option maxRecDepth 100000 in
set_option maxHeartbeats 4000000 in
theorem order_eq_b (hd : HeadOk) (f h : Fm) (v1 v2 v3 : Value) (w : World) (hE : Env w) (h1 : FAt w.heap.size w v1 f) (h2 : FAt w.heap.size w v2 f) (h3 : FAt w.heap.size w v3 h) (s1 : Hid (f.nodes ≤ 420)) (s2 : Hid (f.nodes ≤ 420)) (s3 : Hid (h.nodes ≤ 420)) (e1 : Hid (cmpF f f = 0)) (e2 : Hid (cmpF f h = 0)) :
    Calls Tryz.prog 4 #[v1, v2, v3] w fun e w' => e = .returned (.bool true) ∧ Below w.heap.size w w' := by
  obtain ⟨o1, c1, rfl, -, hA1⟩ := h1.open
  obtain ⟨o2, c2, rfl, -, hA2⟩ := h2.open
  obtain ⟨o3, c3, rfl, -, hA3⟩ := h3.open
  obtain ⟨W0, hW0, hB0, hc1, hc2, hc3, hlt⟩ := fm3_open w (.int .i64 f.op) (.string f.name) (.int .i64 f.val) (.int .i64 f.bound) (.slice o1 f.args.length c1) (.int .i64 f.op) (.string f.name) (.int .i64 f.val) (.int .i64 f.bound) (.slice o2 f.args.length c2) (.int .i64 h.op) (.string h.name) (.int .i64 h.val) (.int .i64 h.bound) (.slice o3 h.args.length c3)
  have hE0 : Env W0 := hE.below hB0
  have F1 := (h1.kept hB0 (Nat.le_refl _)).mono hB0.size
  have F2 := (h2.kept hB0 (Nat.le_refl _)).mono hB0.size
  have F3 := (h3.kept hB0 (Nat.le_refl _)).mono hB0.size
  have hB := Below.refl W0.heap.size W0
  obtain ⟨d10, d11, d12, d13, d14⟩ := hc1.out
  obtain ⟨d20, d21, d22, d23, d24⟩ := hc2.out
  obtain ⟨d30, d31, d32, d33, d34⟩ := hc3.out
  rw [Nat.zero_add] at d11 d12 d13 d14 d21 d22 d23 d24 d31 d32 d33 d34
  go_enter Tryz.func4, Tryz.ntmps4
  go_wp2_with fail
  rw [hW0.out]
  go_wp2_with (first | (go_at_call 12; refine (hd _ hE0).mono ?_; rintro e w1 ⟨rfl, hb⟩; have hB := hB.trans (hb.mono hB.size); clear hb d10 d11 d12 d13 d14 d20 d21 d22 d23 d24 d30 d31 d32 d33 d34; obtain ⟨d10, d11, d12, d13, d14⟩ := hc1.out.later hB (by omega); obtain ⟨d20, d21, d22, d23, d24⟩ := hc2.out.later hB (by omega); obtain ⟨d30, d31, d32, d33, d34⟩ := hc3.out.later hB (by omega); rw [Nat.zero_add] at d11 d12 d13 d14 d21 d22 d23 d24 d31 d32 d33 d34) | (go_at_call 13; (with_reducible refine (small420 _ _ _ _ (F1.kept hB (Nat.le_refl _)) hB.size s1).mono ?_); rintro e w1 ⟨rfl, hb⟩; have hB := hB.trans (hb.mono hB.size); clear hb d10 d11 d12 d13 d14 d20 d21 d22 d23 d24 d30 d31 d32 d33 d34; obtain ⟨d10, d11, d12, d13, d14⟩ := hc1.out.later hB (by omega); obtain ⟨d20, d21, d22, d23, d24⟩ := hc2.out.later hB (by omega); obtain ⟨d30, d31, d32, d33, d34⟩ := hc3.out.later hB (by omega); rw [Nat.zero_add] at d11 d12 d13 d14 d21 d22 d23 d24 d31 d32 d33 d34) | (go_at_call 13; (with_reducible refine (small420 _ _ _ _ (F2.kept hB (Nat.le_refl _)) hB.size s2).mono ?_); rintro e w1 ⟨rfl, hb⟩; have hB := hB.trans (hb.mono hB.size); clear hb d10 d11 d12 d13 d14 d20 d21 d22 d23 d24 d30 d31 d32 d33 d34; obtain ⟨d10, d11, d12, d13, d14⟩ := hc1.out.later hB (by omega); obtain ⟨d20, d21, d22, d23, d24⟩ := hc2.out.later hB (by omega); obtain ⟨d30, d31, d32, d33, d34⟩ := hc3.out.later hB (by omega); rw [Nat.zero_add] at d11 d12 d13 d14 d21 d22 d23 d24 d31 d32 d33 d34) | (go_at_call 13; (with_reducible refine (small420 _ _ _ _ (F3.kept hB (Nat.le_refl _)) hB.size s3).mono ?_); rintro e w1 ⟨rfl, hb⟩; have hB := hB.trans (hb.mono hB.size); clear hb d10 d11 d12 d13 d14 d20 d21 d22 d23 d24 d30 d31 d32 d33 d34; obtain ⟨d10, d11, d12, d13, d14⟩ := hc1.out.later hB (by omega); obtain ⟨d20, d21, d22, d23, d24⟩ := hc2.out.later hB (by omega); obtain ⟨d30, d31, d32, d33, d34⟩ := hc3.out.later hB (by omega); rw [Nat.zero_add] at d11 d12 d13 d14 d21 d22 d23 d24 d31 d32 d33 d34) | (go_at_call 19; (with_reducible refine (compare_any _ _ _ _ _ _ (F1.kept hB (Nat.le_refl _)) (F2.kept hB (Nat.le_refl _)) hB.size).mono ?_); rintro e w1 ⟨rfl, hb⟩; rw [e1.out]; have hB := hB.trans (hb.mono hB.size); clear hb d10 d11 d12 d13 d14 d20 d21 d22 d23 d24 d30 d31 d32 d33 d34; obtain ⟨d10, d11, d12, d13, d14⟩ := hc1.out.later hB (by omega); obtain ⟨d20, d21, d22, d23, d24⟩ := hc2.out.later hB (by omega); obtain ⟨d30, d31, d32, d33, d34⟩ := hc3.out.later hB (by omega); rw [Nat.zero_add] at d11 d12 d13 d14 d21 d22 d23 d24 d31 d32 d33 d34) | (go_at_call 19; (with_reducible refine (compare_any _ _ _ _ _ _ (F2.kept hB (Nat.le_refl _)) (F3.kept hB (Nat.le_refl _)) hB.size).mono ?_); rintro e w1 ⟨rfl, hb⟩; rw [e2.out]; have hB := hB.trans (hb.mono hB.size); clear hb d10 d11 d12 d13 d14 d20 d21 d22 d23 d24 d30 d31 d32 d33 d34; obtain ⟨d10, d11, d12, d13, d14⟩ := hc1.out.later hB (by omega); obtain ⟨d20, d21, d22, d23, d24⟩ := hc2.out.later hB (by omega); obtain ⟨d30, d31, d32, d33, d34⟩ := hc3.out.later hB (by omega); rw [Nat.zero_add] at d11 d12 d13 d14 d21 d22 d23 d24 d31 d32 d33 d34) | (go_at_call 19; (with_reducible refine (compare_any _ _ _ _ _ _ (F1.kept hB (Nat.le_refl _)) (F3.kept hB (Nat.le_refl _)) hB.size).mono ?_); rintro e w1 ⟨rfl, hb⟩; rw [e2.out]; have hB := hB.trans (hb.mono hB.size); clear hb d10 d11 d12 d13 d14 d20 d21 d22 d23 d24 d30 d31 d32 d33 d34; obtain ⟨d10, d11, d12, d13, d14⟩ := hc1.out.later hB (by omega); obtain ⟨d20, d21, d22, d23, d24⟩ := hc2.out.later hB (by omega); obtain ⟨d30, d31, d32, d33, d34⟩ := hc3.out.later hB (by omega); rw [Nat.zero_add] at d11 d12 d13 d14 d21 d22 d23 d24 d31 d32 d33 d34) | (go_at_call 19; (with_reducible refine (compare_any _ _ _ _ _ _ (F2.kept hB (Nat.le_refl _)) (F1.kept hB (Nat.le_refl _)) hB.size).mono ?_); rintro e w1 ⟨rfl, hb⟩; rw [e1.out]; have hB := hB.trans (hb.mono hB.size); clear hb d10 d11 d12 d13 d14 d20 d21 d22 d23 d24 d30 d31 d32 d33 d34; obtain ⟨d10, d11, d12, d13, d14⟩ := hc1.out.later hB (by omega); obtain ⟨d20, d21, d22, d23, d24⟩ := hc2.out.later hB (by omega); obtain ⟨d30, d31, d32, d33, d34⟩ := hc3.out.later hB (by omega); rw [Nat.zero_add] at d11 d12 d13 d14 d21 d22 d23 d24 d31 d32 d33 d34) | (go_at_call 19; (with_reducible refine (compare_any _ _ _ _ _ _ (F1.kept hB (Nat.le_refl _)) (F1.kept hB (Nat.le_refl _)) hB.size).mono ?_); rintro e w1 ⟨rfl, hb⟩; rw [e1.out]; have hB := hB.trans (hb.mono hB.size); clear hb d10 d11 d12 d13 d14 d20 d21 d22 d23 d24 d30 d31 d32 d33 d34; obtain ⟨d10, d11, d12, d13, d14⟩ := hc1.out.later hB (by omega); obtain ⟨d20, d21, d22, d23, d24⟩ := hc2.out.later hB (by omega); obtain ⟨d30, d31, d32, d33, d34⟩ := hc3.out.later hB (by omega); rw [Nat.zero_add] at d11 d12 d13 d14 d21 d22 d23 d24 d31 d32 d33 d34))
  go_loopw [11] (fun i wr => ∃ k : Nat, k ≤ f.args.length ∧ i = .int .i64 k ∧ Below W0.heap.size W0 wr) (fun i _ => f.args.length - (intOf i).toNat)
  case atStart => exact ⟨0, Nat.zero_le _, rfl, hB⟩
  case round =>
    clear d10 d11 d12 d13 d14 d20 d21 d22 d23 d24 d30 d31 d32 d33 d34 hB
    obtain ⟨k, hk, rfl, hB⟩ := hrel
    obtain ⟨d10, d11, d12, d13, d14⟩ := hc1.out.later hB (by omega)
    obtain ⟨d20, d21, d22, d23, d24⟩ := hc2.out.later hB (by omega)
    rw [Nat.zero_add] at d11 d12 d13 d14 d21 d22 d23 d24
    have hl1 := hA1.len
    have hW := hB0.trans (hB.mono hB0.size)
    by_cases hlk : k < f.args.length
    · obtain ⟨b, off, rfl, hb, hat⟩ := hA1.at (by omega)
      obtain ⟨sl, hc5, hF⟩ := hat k hlk
      obtain ⟨b', off', rfl, hb', hat'⟩ := hA2.at (by omega)
      obtain ⟨sl', hc5', hG⟩ := hat' k hlk
      obtain ⟨e0, e1, e2, e3, e4⟩ := hc5.below hW hb
      obtain ⟨g0, g1, g2, g3, g4⟩ := hc5'.below hW hb'
      have hy := hidi (good_fm f.args[k]).refl
      generalize f.args[k] = p at *
      go_wp2_with fail
      go_still_tail 10, (by kernel_rfl)
      go_wp2_with (go_at_call 19; refine (compare_any p p w.heap.size _ _ _ (hF.kept hW.drew (Nat.le_refl _)) (hG.kept hW.drew (Nat.le_refl _)) hW.drew.size).mono ?_; rintro e w1 ⟨rfl, hb1⟩; rw [hy.out]; have hB := hB.drew.trans (hb1.mono hB.drew.size); clear hb1)
      go_roundw
      case rel => exact ⟨k + 1, by omega, by go_num, hB⟩
      case measure => simp [intOf]; omega
    · obtain rfl : k = f.args.length := by omega
      go_wp2
      go_ret
      exact ⟨rfl, hW⟩

set_option maxRecDepth 100000 in
set_option maxHeartbeats 4000000 in
theorem order_eq_c (hd : HeadOk) (f h : Fm) (v1 v2 v3 : Value) (w : World) (hE : Env w) (h1 : FAt w.heap.size w v1 f) (h2 : FAt w.heap.size w v2 f) (h3 : FAt w.heap.size w v3 h) (s1 : Hid (f.nodes ≤ 420)) (s2 : Hid (f.nodes ≤ 420)) (s3 : Hid (h.nodes ≤ 420)) (e1 : Hid (cmpF f f = 0)) (e2 : Hid (cmpF f h = -1)) :
    Calls Tryz.prog 4 #[v1, v2, v3] w fun e w' => e = .returned (.bool true) ∧ Below w.heap.size w w' := by
  obtain ⟨o1, c1, rfl, -, hA1⟩ := h1.open
  obtain ⟨o2, c2, rfl, -, hA2⟩ := h2.open
  obtain ⟨o3, c3, rfl, -, hA3⟩ := h3.open
  obtain ⟨W0, hW0, hB0, hc1, hc2, hc3, hlt⟩ := fm3_open w (.int .i64 f.op) (.string f.name) (.int .i64 f.val) (.int .i64 f.bound) (.slice o1 f.args.length c1) (.int .i64 f.op) (.string f.name) (.int .i64 f.val) (.int .i64 f.bound) (.slice o2 f.args.length c2) (.int .i64 h.op) (.string h.name) (.int .i64 h.val) (.int .i64 h.bound) (.slice o3 h.args.length c3)
  have hE0 : Env W0 := hE.below hB0
  have F1 := (h1.kept hB0 (Nat.le_refl _)).mono hB0.size
  have F2 := (h2.kept hB0 (Nat.le_refl _)).mono hB0.size
  have F3 := (h3.kept hB0 (Nat.le_refl _)).mono hB0.size
  have hB := Below.refl W0.heap.size W0
  obtain ⟨d10, d11, d12, d13, d14⟩ := hc1.out
  obtain ⟨d20, d21, d22, d23, d24⟩ := hc2.out
  obtain ⟨d30, d31, d32, d33, d34⟩ := hc3.out
  rw [Nat.zero_add] at d11 d12 d13 d14 d21 d22 d23 d24 d31 d32 d33 d34
  go_enter Tryz.func4, Tryz.ntmps4
  go_wp2_with fail
  rw [hW0.out]
  go_wp2_with (first | (go_at_call 12; refine (hd _ hE0).mono ?_; rintro e w1 ⟨rfl, hb⟩; have hB := hB.trans (hb.mono hB.size); clear hb d10 d11 d12 d13 d14 d20 d21 d22 d23 d24 d30 d31 d32 d33 d34; obtain ⟨d10, d11, d12, d13, d14⟩ := hc1.out.later hB (by omega); obtain ⟨d20, d21, d22, d23, d24⟩ := hc2.out.later hB (by omega); obtain ⟨d30, d31, d32, d33, d34⟩ := hc3.out.later hB (by omega); rw [Nat.zero_add] at d11 d12 d13 d14 d21 d22 d23 d24 d31 d32 d33 d34) | (go_at_call 13; (with_reducible refine (small420 _ _ _ _ (F1.kept hB (Nat.le_refl _)) hB.size s1).mono ?_); rintro e w1 ⟨rfl, hb⟩; have hB := hB.trans (hb.mono hB.size); clear hb d10 d11 d12 d13 d14 d20 d21 d22 d23 d24 d30 d31 d32 d33 d34; obtain ⟨d10, d11, d12, d13, d14⟩ := hc1.out.later hB (by omega); obtain ⟨d20, d21, d22, d23, d24⟩ := hc2.out.later hB (by omega); obtain ⟨d30, d31, d32, d33, d34⟩ := hc3.out.later hB (by omega); rw [Nat.zero_add] at d11 d12 d13 d14 d21 d22 d23 d24 d31 d32 d33 d34) | (go_at_call 13; (with_reducible refine (small420 _ _ _ _ (F2.kept hB (Nat.le_refl _)) hB.size s2).mono ?_); rintro e w1 ⟨rfl, hb⟩; have hB := hB.trans (hb.mono hB.size); clear hb d10 d11 d12 d13 d14 d20 d21 d22 d23 d24 d30 d31 d32 d33 d34; obtain ⟨d10, d11, d12, d13, d14⟩ := hc1.out.later hB (by omega); obtain ⟨d20, d21, d22, d23, d24⟩ := hc2.out.later hB (by omega); obtain ⟨d30, d31, d32, d33, d34⟩ := hc3.out.later hB (by omega); rw [Nat.zero_add] at d11 d12 d13 d14 d21 d22 d23 d24 d31 d32 d33 d34) | (go_at_call 13; (with_reducible refine (small420 _ _ _ _ (F3.kept hB (Nat.le_refl _)) hB.size s3).mono ?_); rintro e w1 ⟨rfl, hb⟩; have hB := hB.trans (hb.mono hB.size); clear hb d10 d11 d12 d13 d14 d20 d21 d22 d23 d24 d30 d31 d32 d33 d34; obtain ⟨d10, d11, d12, d13, d14⟩ := hc1.out.later hB (by omega); obtain ⟨d20, d21, d22, d23, d24⟩ := hc2.out.later hB (by omega); obtain ⟨d30, d31, d32, d33, d34⟩ := hc3.out.later hB (by omega); rw [Nat.zero_add] at d11 d12 d13 d14 d21 d22 d23 d24 d31 d32 d33 d34) | (go_at_call 19; (with_reducible refine (compare_any _ _ _ _ _ _ (F1.kept hB (Nat.le_refl _)) (F2.kept hB (Nat.le_refl _)) hB.size).mono ?_); rintro e w1 ⟨rfl, hb⟩; rw [e1.out]; have hB := hB.trans (hb.mono hB.size); clear hb d10 d11 d12 d13 d14 d20 d21 d22 d23 d24 d30 d31 d32 d33 d34; obtain ⟨d10, d11, d12, d13, d14⟩ := hc1.out.later hB (by omega); obtain ⟨d20, d21, d22, d23, d24⟩ := hc2.out.later hB (by omega); obtain ⟨d30, d31, d32, d33, d34⟩ := hc3.out.later hB (by omega); rw [Nat.zero_add] at d11 d12 d13 d14 d21 d22 d23 d24 d31 d32 d33 d34) | (go_at_call 19; (with_reducible refine (compare_any _ _ _ _ _ _ (F2.kept hB (Nat.le_refl _)) (F3.kept hB (Nat.le_refl _)) hB.size).mono ?_); rintro e w1 ⟨rfl, hb⟩; rw [e2.out]; have hB := hB.trans (hb.mono hB.size); clear hb d10 d11 d12 d13 d14 d20 d21 d22 d23 d24 d30 d31 d32 d33 d34; obtain ⟨d10, d11, d12, d13, d14⟩ := hc1.out.later hB (by omega); obtain ⟨d20, d21, d22, d23, d24⟩ := hc2.out.later hB (by omega); obtain ⟨d30, d31, d32, d33, d34⟩ := hc3.out.later hB (by omega); rw [Nat.zero_add] at d11 d12 d13 d14 d21 d22 d23 d24 d31 d32 d33 d34) | (go_at_call 19; (with_reducible refine (compare_any _ _ _ _ _ _ (F1.kept hB (Nat.le_refl _)) (F3.kept hB (Nat.le_refl _)) hB.size).mono ?_); rintro e w1 ⟨rfl, hb⟩; rw [e2.out]; have hB := hB.trans (hb.mono hB.size); clear hb d10 d11 d12 d13 d14 d20 d21 d22 d23 d24 d30 d31 d32 d33 d34; obtain ⟨d10, d11, d12, d13, d14⟩ := hc1.out.later hB (by omega); obtain ⟨d20, d21, d22, d23, d24⟩ := hc2.out.later hB (by omega); obtain ⟨d30, d31, d32, d33, d34⟩ := hc3.out.later hB (by omega); rw [Nat.zero_add] at d11 d12 d13 d14 d21 d22 d23 d24 d31 d32 d33 d34) | (go_at_call 19; (with_reducible refine (compare_any _ _ _ _ _ _ (F2.kept hB (Nat.le_refl _)) (F1.kept hB (Nat.le_refl _)) hB.size).mono ?_); rintro e w1 ⟨rfl, hb⟩; rw [e1.out]; have hB := hB.trans (hb.mono hB.size); clear hb d10 d11 d12 d13 d14 d20 d21 d22 d23 d24 d30 d31 d32 d33 d34; obtain ⟨d10, d11, d12, d13, d14⟩ := hc1.out.later hB (by omega); obtain ⟨d20, d21, d22, d23, d24⟩ := hc2.out.later hB (by omega); obtain ⟨d30, d31, d32, d33, d34⟩ := hc3.out.later hB (by omega); rw [Nat.zero_add] at d11 d12 d13 d14 d21 d22 d23 d24 d31 d32 d33 d34) | (go_at_call 19; (with_reducible refine (compare_any _ _ _ _ _ _ (F1.kept hB (Nat.le_refl _)) (F1.kept hB (Nat.le_refl _)) hB.size).mono ?_); rintro e w1 ⟨rfl, hb⟩; rw [e1.out]; have hB := hB.trans (hb.mono hB.size); clear hb d10 d11 d12 d13 d14 d20 d21 d22 d23 d24 d30 d31 d32 d33 d34; obtain ⟨d10, d11, d12, d13, d14⟩ := hc1.out.later hB (by omega); obtain ⟨d20, d21, d22, d23, d24⟩ := hc2.out.later hB (by omega); obtain ⟨d30, d31, d32, d33, d34⟩ := hc3.out.later hB (by omega); rw [Nat.zero_add] at d11 d12 d13 d14 d21 d22 d23 d24 d31 d32 d33 d34))
  go_loopw [11] (fun i wr => ∃ k : Nat, k ≤ f.args.length ∧ i = .int .i64 k ∧ Below W0.heap.size W0 wr) (fun i _ => f.args.length - (intOf i).toNat)
  case atStart => exact ⟨0, Nat.zero_le _, rfl, hB⟩
  case round =>
    clear d10 d11 d12 d13 d14 d20 d21 d22 d23 d24 d30 d31 d32 d33 d34 hB
    obtain ⟨k, hk, rfl, hB⟩ := hrel
    obtain ⟨d10, d11, d12, d13, d14⟩ := hc1.out.later hB (by omega)
    obtain ⟨d20, d21, d22, d23, d24⟩ := hc2.out.later hB (by omega)
    rw [Nat.zero_add] at d11 d12 d13 d14 d21 d22 d23 d24
    have hl1 := hA1.len
    have hW := hB0.trans (hB.mono hB0.size)
    by_cases hlk : k < f.args.length
    · obtain ⟨b, off, rfl, hb, hat⟩ := hA1.at (by omega)
      obtain ⟨sl, hc5, hF⟩ := hat k hlk
      obtain ⟨b', off', rfl, hb', hat'⟩ := hA2.at (by omega)
      obtain ⟨sl', hc5', hG⟩ := hat' k hlk
      obtain ⟨e0, e1, e2, e3, e4⟩ := hc5.below hW hb
      obtain ⟨g0, g1, g2, g3, g4⟩ := hc5'.below hW hb'
      have hy := hidi (good_fm f.args[k]).refl
      generalize f.args[k] = p at *
      go_wp2_with fail
      go_still_tail 10, (by kernel_rfl)
      go_wp2_with (go_at_call 19; refine (compare_any p p w.heap.size _ _ _ (hF.kept hW.drew (Nat.le_refl _)) (hG.kept hW.drew (Nat.le_refl _)) hW.drew.size).mono ?_; rintro e w1 ⟨rfl, hb1⟩; rw [hy.out]; have hB := hB.drew.trans (hb1.mono hB.drew.size); clear hb1)
      go_roundw
      case rel => exact ⟨k + 1, by omega, by go_num, hB⟩
      case measure => simp [intOf]; omega
    · obtain rfl : k = f.args.length := by omega
      go_wp2
      go_ret
      exact ⟨rfl, hW⟩

theorem order_any (hd : HeadOk) (f g h : Fm) (v1 v2 v3 : Value) (w : World) (hE : Env w) (h1 : FAt w.heap.size w v1 f) (h2 : FAt w.heap.size w v2 g) (h3 : FAt w.heap.size w v3 h) :
    Calls Tryz.prog 4 #[v1, v2, v3] w fun e w' => e = .returned (.bool true) ∧ Below w.heap.size w w' := by
  by_cases s1 : f.nodes ≤ 420
  · by_cases s2 : g.nodes ≤ 420
    · by_cases s3 : h.nodes ≤ 420
      · have hg := good_fm f
        have e5 := hg.refl
        have e4 := hg.anti g
        have l1 := hg.lo g
        have l2 := hg.hi g
        have l3 := (good_fm g).lo h
        have l4 := (good_fm g).hi h
        have l5 := hg.lo h
        by_cases x0 : cmpF f g = 0
        · obtain rfl := (hg.eq g).1 x0
          rcases (show cmpF f h = 1 ∨ cmpF f h = 0 ∨ cmpF f h = -1 by omega) with e | e | e
          · exact order_eq_a hd f h v1 v2 v3 w hE h1 h2 h3 (hidi s1) (hidi s1) (hidi s3) (hidi e5) (hidi e)
          · exact order_eq_b hd f h v1 v2 v3 w hE h1 h2 h3 (hidi s1) (hidi s1) (hidi s3) (hidi e5) (hidi e)
          · exact order_eq_c hd f h v1 v2 v3 w hE h1 h2 h3 (hidi s1) (hidi s1) (hidi s3) (hidi e5) (hidi e)
        · rcases (show cmpF f g = 1 ∨ cmpF f g = -1 by omega) with e1 | e1
          · exact order_ne_a hd f g h v1 v2 v3 w hE h1 h2 h3 (hidi s1) (hidi s2) (hidi s3) _ _ (hidi e1) (hidi rfl) (hidi rfl) (hidi (by rw [e4, e1])) (hidi e5)
          · have e4' : cmpF g f = 1 := by rw [e4, e1]; rfl
            by_cases hy : cmpF g h ≤ 0
            · have hs := hg.strict (y := g) (z := h) (by omega) hy (.inl (by omega))
              have e3 : cmpF f h = -1 := by omega
              rcases (show cmpF g h = 0 ∨ cmpF g h = -1 by omega) with e2 | e2
              · exact order_ne_c hd f g h v1 v2 v3 w hE h1 h2 h3 (hidi s1) (hidi s2) (hidi s3) (hidi e1) (hidi e2) (hidi e3) (hidi e4') (hidi e5)
              · exact order_ne_d hd f g h v1 v2 v3 w hE h1 h2 h3 (hidi s1) (hidi s2) (hidi s3) (hidi e1) (hidi e2) (hidi e3) (hidi e4') (hidi e5)
            · exact order_ne_b hd f g h v1 v2 v3 w hE h1 h2 h3 (hidi s1) (hidi s2) (hidi s3) _ (hidi e1) (hidi (show cmpF g h = 1 by omega)) (hidi rfl) (hidi e4') (hidi e5)
      · exact order_big3 hd f g h v1 v2 v3 w hE h1 h2 h3 (hidi s1) (hidi s2) (hidi s3)
    · exact order_big2 hd f g h v1 v2 v3 w hE h1 h2 h3 (hidi s1) (hidi s2)
  · exact order_big1 hd f g h v1 v2 v3 w hE h1 h2 h3 (hidi s1)

end Go.Proofs.YtmklekdkaekcbaaGreatDoor
