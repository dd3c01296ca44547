/-
  The contract of the law's helper pair: the kernels of two formulas are equal, or one of them has none.
-/
import Derived.Test.YtlkoacopknolnaaGreatDoorGt
namespace Go.Proofs.YtlkoacopknolnaaGreatDoor
open Go.RowKit

/-- two kernels are equal, or one is missing -/
def pairB (f g : Fm) : Bool := (kernelF f).2 != 0 || (kernelF g).2 != 0 || cmpF (kernelF f).1 (kernelF g).1 == 0
theorem pair_of_form {f g : Fm} (h : formP f false = formP g false) : pairB f g = true := by
  unfold pairB kernelF
  by_cases h1 : fvalidB f = true ∧ layB f = true <;> by_cases h2 : fvalidB g = true ∧ layB g = true <;> simp only [h1, h2, if_true, if_false, and_self]
  · rw [h]
    split
    · simp [(good_fm (formP g false)).refl]
    · rfl
  all_goals (first | rfl | (split <;> simp) | simp)

set_option maxRecDepth 100000 in
set_option maxHeartbeats 8000000 in
theorem pair_any (B : Nat) (f g : Fm) (u v : Value) (w : World) (hE : Env w) (h1 : FAt B w u f) (h2 : FAt B w v g) (hBw : B ≤ w.heap.size) (n1 : f.nodes ≤ 999999) (n2 : g.nodes ≤ 999999) :
    Calls Tryz.prog 43 #[u, v] w fun e w' => e = .returned (.bool (pairB f g)) ∧ Below w.heap.size w w' := by
  have h1' := h1.mono hBw
  have h2' := h2.mono hBw
  obtain ⟨o1, c1, rfl, -, -⟩ := h1.open
  obtain ⟨o2, c2, rfl, -, -⟩ := h2.open
  obtain ⟨W0, hW0, hB0, hc1, hc2, hlt⟩ := fm2_open w (.int .i64 f.op) (.string f.name) (.int .i64 f.val) (.int .i64 f.bound) (.slice o1 f.args.length c1) (.int .i64 g.op) (.string g.name) (.int .i64 g.val) (.int .i64 g.bound) (.slice o2 g.args.length c2)
  have hP : ∀ {W : World}, Below w.heap.size w W → ∀ b, b < w.heap.size → b < W.heap.size := fun hB b hb => Nat.lt_of_lt_of_le hb hB.size
  obtain ⟨d0, d1, d2, d3, d4⟩ := hc1.out
  rw [Nat.zero_add] at d1 d2 d3 d4
  have hpb : Hid (pairB f g = ((kernelF f).2 != 0 || (kernelF g).2 != 0 || cmpF (kernelF f).1 (kernelF g).1 == 0)) := hidi rfl
  go_enter Tryz.func43, Tryz.ntmps43
  go_wp2_with fail
  rw [hW0.out]
  refine (kernel_any (· < w.heap.size) f _ W0 (hE.below hB0) (h1'.kept hB0 (Nat.le_refl _)) (hP hB0) n1).mono ?_
  rintro e wk ⟨rk, rfl, hK, hbk⟩
  obtain ⟨ek, hek⟩ : ∃ x, Hid ((kernelF f).2 = x) := ⟨_, hidi rfl⟩
  obtain ⟨k, hk⟩ : ∃ x, Hid ((kernelF f).1 = x) := ⟨_, hidi rfl⟩
  rw [hk.out] at hK
  rw [hek.out]
  obtain ⟨ok, ck, rfl, hfk, hAk⟩ := hK.open
  have hBk := hB0.trans (hbk.mono hB0.size)
  obtain ⟨WK, hWK, hBK, hzK, hcK⟩ := box_new wk k ok ck
  have hBK' := hBk.trans (hBK.mono hBk.size)
  have hb0K := hbk.trans (hBK.mono hbk.size)
  clear d0 d1 d2 d3 d4
  obtain ⟨d0, d1, d2, d3, d4⟩ := hc2.out.later hb0K hlt
  rw [Nat.zero_add] at d1 d2 d3 d4
  rw [← hWK.out] at d0 d1 d2 d3 d4
  go_wp2_with fail
  rw [hWK.out]
  refine (kernel_any (· < w.heap.size) g _ WK (hE.below hBK') (h2'.kept hBK' (Nat.le_refl _)) (hP hBK') n2).mono ?_
  rintro e wm ⟨rm, rfl, hM, hbm⟩
  obtain ⟨em, hem⟩ : ∃ x, Hid ((kernelF g).2 = x) := ⟨_, hidi rfl⟩
  obtain ⟨m, hm⟩ : ∃ x, Hid ((kernelF g).1 = x) := ⟨_, hidi rfl⟩
  rw [hm.out] at hM
  rw [hem.out]
  obtain ⟨om, cm, rfl, hfm, hAm⟩ := hM.open
  have hBm := hBK'.trans (hbm.mono hBK'.size)
  obtain ⟨WM, hWM, hBM, hzM, hcM⟩ := box_new wm m om cm
  have hBM' := hBm.trans (hBM.mono hBm.size)
  have hKM := hbm.trans (hBM.mono hbm.size)
  have hzk := hKM.size
  obtain ⟨k0, k1, k2, k3, k4⟩ := hcK.out.below hKM (by omega)
  obtain ⟨m0, m1, m2, m3, m4⟩ := hcM.out
  rw [Nat.zero_add] at k1 k2 k3 k4 m1 m2 m3 m4
  rw [← hWM.out] at k0 k1 k2 k3 k4 m0 m1 m2 m3 m4
  clear d0 d1 d2 d3 d4
  by_cases ze : ek = 0
  · by_cases zm : em = 0
    · subst ze zm
      have hBkM : Below wk.heap.size wk WM := hBK.trans (hKM.mono hBK.size)
      have hA1 : FAt WM.heap.size WM (.agg #[.int .i64 k.op, .string k.name, .int .i64 k.val, .int .i64 k.bound, .slice ok k.args.length ck]) k :=
        FAtP.mono (hK.kept hBkM (fun b hb => hb.elim (fun h => Nat.lt_of_lt_of_le h hBk.size) (fun h => h.2))) (fun b hb => hb.elim (fun h => Nat.lt_of_lt_of_le h hBM'.size) (fun h => Nat.lt_of_lt_of_le h.2 hBkM.size))
      have hA2 : FAt WM.heap.size WM (.agg #[.int .i64 m.op, .string m.name, .int .i64 m.val, .int .i64 m.bound, .slice om m.args.length cm]) m :=
        FAtP.mono (hM.kept hBM (fun b hb => hb.elim (fun h => Nat.lt_of_lt_of_le h hBm.size) (fun h => h.2))) (fun b hb => hb.elim (fun h => Nat.lt_of_lt_of_le h hBM'.size) (fun h => Nat.lt_of_lt_of_le h.2 hBM.size))
      go_wp2_with fail
      rw [hWM.out]
      refine (compare_any k m WM.heap.size _ _ WM hA1 hA2 (Nat.le_refl _)).mono ?_
      rintro e w7 ⟨rfl, hb7⟩
      go_wp2_with fail
      go_ret
      exact ⟨ret_bool (by rw [hpb.out, hek.out, hem.out, hk.out, hm.out]; simp), hBM'.trans (hb7.mono hBM'.size)⟩
    · have zm' : (em != 0) = true := bne_iff_ne.2 zm
      subst ze
      go_wp2_with fail
      rw [hWM.out]
      go_ret
      exact ⟨ret_bool (by rw [hpb.out, hem.out]; simp [zm']), hBM'⟩
  · have ze' : (ek != 0) = true := bne_iff_ne.2 ze
    go_wp2_with fail
    rw [hWM.out]
    go_ret
    exact ⟨ret_bool (by rw [hpb.out, hek.out]; simp [ze']), hBM'⟩

end Go.Proofs.YtlkoacopknolnaaGreatDoor
