/-
  Contracts that FormulaMatchesReference stands on, part Hc.
-/
import Derived.Test.YtbnnjbfbifihaaaGreatDoorHb
import Derived.Test.YtbnnjbfbifihaaaGreatDoorH0
import Derived.Test.YtbnnjbfbifihaaaGreatDoorGi
namespace Go.Proofs.YtbnnjbfbifihaaaGreatDoor
open Go.RowKit
set_option maxRecDepth 100000
set_option maxHeartbeats 80000000

theorem parts_sizeN {f g : Fm} (hg : g ∈ f.args) : g.nodes ≤ f.nodes := by
  obtain ⟨k, hk, rfl⟩ := List.mem_iff_getElem.1 hg
  have h1 := Fm.nodes_get hk
  rw [Fm.nodes_eq f]
  omega
theorem rep_open (w : World) (a1 a2 a3 a4 a5 : Value) : ∃ V0, Hid (((w.alloc (.cells #[a1, a2, a3, a4, a5] 24)).alloc (.cells #[.int .i64 0, .string ⟨#[]⟩, .int .i64 0, .int .i64 0, .slice none 0 0] 24)).alloc (.cells #[a1, a2, a3, a4, a5] 24) = V0) ∧ Below w.heap.size w V0 ∧ V0.heap.size = w.heap.size + 3 ∧
    Hid (Cells5 V0 w.heap.size 0 a1 a2 a3 a4 a5) ∧ Hid (Res5 V0 (w.heap.size + 1)) ∧ Hid (V0.heap[w.heap.size + 2]? = some (.cells #[a1, a2, a3, a4, a5] 24 (0, 0))) := by
  obtain ⟨W0, h0, hB, hs, hz, hx⟩ := one_open w (.cells #[a1, a2, a3, a4, a5] 24) (.cells #[.int .i64 0, .string ⟨#[]⟩, .int .i64 0, .int .i64 0, .slice none 0 0] 24) (.cells #[a1, a2, a3, a4, a5] 24)
  refine ⟨W0, h0, hB, hs, ?_, ⟨_, _, _, _, _, hz.out⟩, hx⟩
  have h5 := box5 w a1 a2 a3 a4 a5 24
  have hb1 := below_box (w.alloc (.cells #[a1, a2, a3, a4, a5] 24)) (.cells #[.int .i64 0, .string ⟨#[]⟩, .int .i64 0, .int .i64 0, .slice none 0 0] 24)
  have hb2 := below_box ((w.alloc (.cells #[a1, a2, a3, a4, a5] 24)).alloc (.cells #[.int .i64 0, .string ⟨#[]⟩, .int .i64 0, .int .i64 0, .slice none 0 0] 24)) (.cells #[a1, a2, a3, a4, a5] 24)
  unfold Hid
  rw [← h0.out]
  exact (h5.below hb1 (by simp)).below hb2 (by simp; omega)
theorem repeated_any (P : Nat → Prop) (op : Int) (n : Nat) (f : Fm) (v : Value) (w : World) (hop : I64 op) (hn : n ≤ 1000) (hv : FAtP P w v f) (hP : ∀ b, P b → b < w.heap.size) :
    Calls Tryz.prog 95 #[.int .i64 op, .int .i64 (n : Int), v] w fun e w' => ∃ r, e = .returned r ∧ FAtP (NewP P w w') w' r (repF op n f) ∧ Below w.heap.size w w' := by
  obtain ⟨o, c, rfl, hfit, hA⟩ := hv.open
  obtain ⟨V0, hV0, hB0, hz0, hc, hres, hrK⟩ := rep_open w (.int .i64 f.op) (.string f.name) (.int .i64 f.val) (.int .i64 f.bound) (.slice o f.args.length c)
  have hF0 := hidi (hv.kept hB0 hP)
  obtain ⟨d0, d1, d2, d3, d4⟩ := hc.out
  rw [Nat.zero_add] at d1 d2 d3 d4
  go_enter Tryz.func95, Tryz.ntmps95
  go_wp2_with fail
  rw [hV0.out]
  go_loopw [8] (fun i wr => ∃ (k : Nat) (g : Fm) (o3 : Option Addr) (c3 : Nat), k ≤ n ∧ i = .int .i64 (k : Int) ∧ Hid (g = repF op k f) ∧ Hid (wr.heap[w.heap.size + 2]? = some (.cells #[.int .i64 g.op, .string g.name, .int .i64 g.val, .int .i64 g.bound, .slice o3 g.args.length c3] 24 (0, 0))) ∧ Hid (FAtP (fun b => P b ∨ (w.heap.size + 3 ≤ b ∧ b < wr.heap.size)) wr (.agg #[.int .i64 g.op, .string g.name, .int .i64 g.val, .int .i64 g.bound, .slice o3 g.args.length c3]) g) ∧ Hid (∀ b', b' < w.heap.size + 3 → b' ≠ w.heap.size + 2 → wr.heap[b']? = V0.heap[b']?) ∧ Below w.heap.size w wr ∧ w.heap.size + 3 ≤ wr.heap.size) (fun i _ => n - (intOf i).toNat)
  case atStart => exact ⟨0, f, o, c, Nat.zero_le _, rfl, hidi rfl, hrK, hidi (hF0.out.mono fun b h => .inl h), hidi fun _ _ _ => rfl, hB0, by omega⟩
  case round =>
    obtain ⟨k, g, o3, c3, hk, rfl, hg, hrg, hgA, hbl, hBr, hzr⟩ := hrel
    have hAw := hbl.out w.heap.size (by omega) (by omega)
    replace d0 := (World.cell?_of_block hAw).trans d0
    replace d1 := (World.cell?_of_block hAw).trans d1
    replace d2 := (World.cell?_of_block hAw).trans d2
    replace d3 := (World.cell?_of_block hAw).trans d3
    replace d4 := (World.cell?_of_block hAw).trans d4
    by_cases hlt : k < n
    · have hF2 := hv.kept hBr hP
      have hcA : Hid (Cells5 _ w.heap.size 0 _ _ _ _ _) := hidi ⟨d0, by rw [Nat.zero_add]; exact d1, by rw [Nat.zero_add]; exact d2, by rw [Nat.zero_add]; exact d3, by rw [Nat.zero_add]; exact d4⟩
      have hltI : (k : Int) < (n : Int) := by omega
      go_wp2_with fail
      refine rep_r5 (N := w.heap.size) (base := w.heap.size + 3) (P := P) (g := g) _ _ w _ (by rfl) (by rfl) (by rfl) (by rfl) (by omega) (by omega) (by omega) hzr hBr hop hP hcA.out hF2 hrg hgA.out ?_
      intro x' W o4 c4 q1 q2 q3 q4 q5
      simp only [Act.put, List.setIfInBounds_toArray, List.set_cons_zero, List.set_cons_succ]
      go_wp2_with fail
      go_roundw
      case rel => exact ⟨k + 1, Fm.mk op ⟨#[]⟩ 0 0 [f, Fm.mk 8 ⟨#[]⟩ 0 0 [g]], o4, c4, by omega, by go_num, hidi (by rw [hg.out]; rfl), q1, hidi q2, hidi fun b' h1 h2 => (q3 b' h1 h2).trans (hbl.out b' h1 h2), q4, q5⟩
      case measure => simp [intOf]; omega
    · obtain rfl : k = n := by omega
      have hrw : Res5 wr (w.heap.size + 1) := by obtain ⟨a1, a2, a3, a4, a5, hr⟩ := hres.out; exact ⟨a1, a2, a3, a4, a5, (hbl.out _ (by omega) (by omega)).trans hr⟩
      have hhr := hidi hrw
      obtain ⟨a1, a2, a3, a4, a5, ⟨z0, z1, z2, z3, z4⟩, y0, y1, y2, y3, y4⟩ := hrw.cells
      have g0 := cell_of_row _ (w.heap.size + 2) 0 _ _ _ hrg.out
      have g1 := cell_of_row _ (w.heap.size + 2) 1 _ _ _ hrg.out
      have g2 := cell_of_row _ (w.heap.size + 2) 2 _ _ _ hrg.out
      have g3 := cell_of_row _ (w.heap.size + 2) 3 _ _ _ hrg.out
      have g4 := cell_of_row _ (w.heap.size + 2) 4 _ _ _ hrg.out
      simp only [List.getElem?_toArray, List.getElem?_cons_zero, List.getElem?_cons_succ] at g0 g1 g2 g3 g4
      clear hrw hA hv
      go_wp2_with fail
      (try simp only [Exit.inBlock, Exit.then])
      refine bodyPost_ret (results_cell_row rfl _ _ (w.heap.size + 1) 24 _ (0, 0) _ rfl (hhr.out.set _ _ _ _ _) Tryz.underlying24 rfl fmSize) rfl ?_
      refine ⟨_, rfl, ?_⟩
      rw [← hg.out]
      exact fm_put (by omega) hBr hgA.out (fun b hb => by rcases hb with hb | hb; (have := hP b hb; omega); omega) (fun b hb => by rcases hb with hb | hb; exact .inl hb; exact .inr ⟨by omega, hb.2⟩) _ _ _ _ _
theorem ref_r24 {P : Nat → Prop} {x J : Fm} {K N gb go n uc c1 : Nat} {o1 : Option Addr}  (a0 : Act) (W0 w : World) (Q : Exit → Act → World → Prop) (hz : a0.tmps.size = 154) (p4 : a0.tmps[(4 : Nat)]? = some (.pointer (some ⟨K, 0, none⟩))) (p5 : a0.tmps[(5 : Nat)]? = some (.slice (some ⟨gb, go, none⟩) n uc))
    (hJ : Hid (J = Fm.mk 9 ⟨#[]⟩ 0 0 [fTrue, x])) (hn : 0 < n) (hK : K < W0.heap.size) (hN : N ≤ K) (hgb : gb < W0.heap.size) (hB0 : Below N w W0) (hPb : ∀ b, P b → b ≠ K ∧ b < W0.heap.size)
    (cx : Cells5 W0 gb go (.int .i64 x.op) (.string x.name) (.int .i64 x.val) (.int .i64 x.bound) (.slice o1 x.args.length c1)) (hx : FAtP P W0 (.agg #[.int .i64 x.op, .string x.name, .int .i64 x.val, .int .i64 x.bound, .slice o1 x.args.length c1]) x) (rK : Res5 W0 K)
    (hend : ∀ (x' : Nat → Value) (W : World) (o3 : Option Addr) (c3 : Nat), Hid (W.heap[K]? = some (.cells #[.int .i64 J.op, .string J.name, .int .i64 J.val, .int .i64 J.bound, .slice o3 J.args.length c3] 24 (0, 0))) → FAtP (fun b => (P b ∨ W0.heap.size ≤ b) ∧ b < W.heap.size) W (.agg #[.int .i64 J.op, .string J.name, .int .i64 J.val, .int .i64 J.bound, .slice o3 J.args.length c3]) J → Below N w W → Q .normal (((((a0.put (some 74) (x' 0)).put (some 75) (x' 1)).put (some 76) (x' 2)).put (some 77) (x' 3)).put (some 78) (x' 4)) W) :
    (Code.region 24 (opsAt Tryz.f68 24) true).wp Tryz.prog Q a0 W0 := by
  have d0 : dstOf (opsAt Tryz.f68 24) 0 = some 74 := by kernel_rfl
  have d1 : dstOf (opsAt Tryz.f68 24) 1 = some 75 := by kernel_rfl
  have d2 : dstOf (opsAt Tryz.f68 24) 2 = some 76 := by kernel_rfl
  have d3 : dstOf (opsAt Tryz.f68 24) 3 = some 77 := by kernel_rfl
  have d4 : dstOf (opsAt Tryz.f68 24) 4 = some 78 := by kernel_rfl
  have d5 : dstOf (opsAt Tryz.f68 24) 5 = none := by kernel_rfl
  have hsz : (opsAt Tryz.f68 24).size = 6 := by kernel_rfl
  obtain ⟨L, hL⟩ : ∃ L, Hid ((opsAt Tryz.f68 24) = L) := ⟨_, hidi rfl⟩
  have hL2 := hL.out
  unfold opsAt Tryz.f68 at hL2
  simp only [findRegion, Nat.reduceBEq, if_true, if_false, Bool.false_eq_true, Option.getD_some] at hL2
  replace hL2 := hidi hL2
  obtain ⟨Ok, hOk⟩ : ∃ Ok : Nat → Prop, Ok = fun b => P b ∨ W0.heap.size ≤ b := ⟨_, rfl⟩
  have hOk1 : ∀ b, P b → Ok b := fun b h => by rw [hOk]; exact .inl h
  have hOk2 : ∀ b, W0.heap.size ≤ b → Ok b := fun b h => by rw [hOk]; exact .inr h
  have hPl : ∀ b, P b → b < W0.heap.size := fun b h => (hPb b h).2
  have hnI : (0 : Int) < (n : Int) := by omega
  obtain ⟨fs, hfs⟩ : ∃ fs : Nat → Fq, fs = (fun i => match i with
      | 0 => .fmF fTrue
      | 1 => .valF (.slice (some ⟨gb, go, none⟩) n uc)
      | 2 => .valF (.pointer (some ⟨gb, go, none⟩))
      | 3 => .valF (.agg #[.int .i64 x.op, .string x.name, .int .i64 x.val, .int .i64 x.bound, .slice o1 x.args.length c1])
      | _ => .free) := ⟨_, rfl⟩
  refine wp_region_tail (by kernel_rfl) (by kernel_rfl) (by kernel_rfl) (by rw [hz]; kernel_rfl) (by kernel_rfl) fs Ok 4 5 78 (by rw [hsz]; omega) (by rw [hsz]; omega) (by omega) d4 (by rw [hfs]; kernel_rfl) (by kernel_rfl)
    (fun v W => Below W0.heap.size W0 W ∧ (Fq.fmF J).holds Ok v W)
    (fun v W => ∃ o3 c3, Hid (W.heap[K]? = some (.cells #[.int .i64 J.op, .string J.name, .int .i64 J.val, .int .i64 J.bound, .slice o3 J.args.length c3] 24 (0, 0))) ∧ FAtP (fun b => (P b ∨ W0.heap.size ≤ b) ∧ b < W.heap.size) W (.agg #[.int .i64 J.op, .string J.name, .int .i64 J.val, .int .i64 J.bound, .slice o3 J.args.length c3]) J ∧ Below N w W) ?_ ?_ ?_ ?_ ?_ d5
  · intro i a W KK hi h1 h2 hS hKK
    rw [hsz] at hi
    rw [hfs] at hS hKK
    match i, hi, hS, hKK with
    | 0, _, hS, hKK =>
      rw [d0] at hKK
      have hSB := hS.below
      rw [hL.out, ← hL2.out]; refine wpOp_of_list' rfl ?_
      go_wp2_with fail
      refine (reftrue_any (fun b => b < W.heap.size ∧ Ok b) W).mono ?_
      rintro e W2 ⟨r, rfl, hN', hb⟩
      go_wp2_with fail
      exact hKK _ _ (fm_got hN' hb fun b h => hOk2 b (Nat.le_trans hSB.size h)) hb
    | 1, _, hS, hKK =>
      rw [d1] at hKK
      have h5 := hS.slot (e := 5) (by kernel_rfl) p5
      have e5 := at_eval h5
      rw [hL.out, ← hL2.out]; refine wpOp_of_list' rfl ?_
      go_wp2_with fail
      exact hKK _ _ rfl (Below.refl _ _)
    | 2, _, hS, hKK =>
      rw [d2] at hKK
      obtain ⟨v75, h75, f75⟩ := hS.got 1 rfl (by kernel_rfl) d1
      obtain rfl : v75 = .slice (some ⟨gb, go, none⟩) n uc := f75
      have e75 := at_eval h75
      rw [hL.out, ← hL2.out]; refine wpOp_of_list' rfl ?_
      go_wp2_with fail
      exact hKK _ _ rfl (Below.refl _ _)
    | 3, _, hS, hKK =>
      rw [d3] at hKK
      obtain ⟨v76, h76, f76⟩ := hS.got 2 rfl (by kernel_rfl) d2
      obtain rfl : v76 = .pointer (some ⟨gb, go, none⟩) := f76
      have e76 := at_eval h76
      obtain ⟨b0, b1, b2, b3, b4⟩ := cx.below hS.below hgb
      rw [hL.out, ← hL2.out]; refine wpOp_of_list' rfl ?_
      go_wp2_with fail
      exact hKK _ _ rfl (Below.refl _ _)
    | 4, _, _, _ => exact absurd rfl h1
    | 5, _, _, _ => exact absurd rfl h2
    | k + 6, hi, _, _ => exact absurd hi (by omega)
  · intro i a W KK hi h1 h2 hs hsize hold hdep hnr _ _
    rw [hsz] at hi
    exfalso
    have : ∀ i, i < 6 → i ≠ 4 → i ≠ 5 → (reachL (opsAt Tryz.f68 24) 8 (depsOf (opsAt Tryz.f68 24) 4)).contains i = true := by
      intro i
      match i with
      | 0 => intro _ _ _; kernel_rfl
      | 1 => intro _ _ _; kernel_rfl
      | 2 => intro _ _ _; kernel_rfl
      | 3 => intro _ _ _; kernel_rfl
      | 4 => intro _ h _; omega
      | 5 => intro _ _ h; omega
      | k + 6 => intro h; omega
    rw [this i hi h1 h2] at hnr
    cases hnr
  · intro a W KK hS hKK
    rw [hfs] at hS
    obtain ⟨v74, h74, f74⟩ := hS.got 0 rfl (by kernel_rfl) d0
    have e74 := at_eval h74
    replace f74 : FAtP (fun b => b < W.heap.size ∧ Ok b) W v74 fTrue := f74
    obtain ⟨v77, h77, f77⟩ := hS.got 3 rfl (by kernel_rfl) d3
    obtain rfl : v77 = .agg #[.int .i64 x.op, .string x.name, .int .i64 x.val, .int .i64 x.bound, .slice o1 x.args.length c1] := f77
    have e77 := at_eval h77
    have hSB := hS.below
    have hxW : FAtP (fun b => b < W.heap.size ∧ Ok b) W (.agg #[.int .i64 x.op, .string x.name, .int .i64 x.val, .int .i64 x.bound, .slice o1 x.args.length c1]) x := (FAtP.kept hx hSB hPl).mono fun b hb => ⟨Nat.lt_of_lt_of_le (hPl b hb) hSB.size, hOk1 b hb⟩
    rw [hL.out, ← hL2.out]; refine wpOp_of_list' rfl ?_
    go_wp2_with fail
    refine (reftwo_any (fun b => b < W.heap.size ∧ Ok b) 9 _ _ fTrue x W f74 hxW (fun b hb => hb.1) (i64_of (by decide) (by decide))).mono ?_
    rintro e W2 ⟨r, rfl, hN', hb⟩
    rw [← hJ.out] at hN'
    go_wp2_with fail
    exact ⟨hSB.trans (hb.mono hSB.size), fm_got hN' hb fun b h => hOk2 b (Nat.le_trans hSB.size h)⟩
  · rintro a W KK v - hold hdep hda ⟨hBW, hJJ⟩ hKK
    have h4 := old_slot hold (e := 4) (by kernel_rfl) p4
    have e4 := at_eval h4
    have eda := at_eval hda
    obtain ⟨oj, cj, rfl, hfj, haj⟩ := FAtP.open hJJ
    have hres : Res5 W K := rK.below hBW
    obtain ⟨a1, a2, a3, a4, a5, ⟨z0, z1, z2, z3, z4⟩, y0, y1, y2, y3, y4⟩ := hres.cells
    rw [d5] at hKK
    have hset := hres.set (.int .i64 J.op) (.string J.name) (.int .i64 J.val) (.int .i64 J.bound) (.slice oj J.args.length cj)
    have hoth := fun b' (h : b' ≠ K) => set5_other W K b' h (.int .i64 J.op) (.string J.name) (.int .i64 J.val) (.int .i64 J.bound) (.slice oj J.args.length cj)
    have hzs := set5_size W K (.int .i64 J.op) (.string J.name) (.int .i64 J.val) (.int .i64 J.bound) (.slice oj J.args.length cj)
    have hBN := set5_below (hB0.trans (hBW.mono (by omega))) hN (.int .i64 J.op) (.string J.name) (.int .i64 J.val) (.int .i64 J.bound) (.slice oj J.args.length cj)
    generalize hWF : ((((W.setCell ⟨K, 0, none⟩ (.int .i64 J.op)).setCell ⟨K, 1, none⟩ (.string J.name)).setCell ⟨K, 2, none⟩ (.int .i64 J.val)).setCell ⟨K, 3, none⟩ (.int .i64 J.bound)).setCell ⟨K, 4, none⟩ (.slice oj J.args.length cj) = WF at *
    have hJ2 : FAtP (fun b => (P b ∨ W0.heap.size ≤ b) ∧ b < WF.heap.size) WF (.agg #[.int .i64 J.op, .string J.name, .int .i64 J.val, .int .i64 J.bound, .slice oj J.args.length cj]) J := by
      refine (FAtP.same (P := fun b => b < W.heap.size ∧ Ok b) ⟨_, rfl, hfj, haj⟩ fun b hb => hoth b (fun e => ?_)).mono fun b hb => ?_
      · subst e
        rw [hOk] at hb
        rcases hb.2 with h | h
        · exact (hPb _ h).1 rfl
        · omega
      · rw [hOk] at hb
        rw [hzs]
        exact ⟨hb.2, hb.1⟩
    have hfin := hidi (show ∃ o3 c3, Hid (WF.heap[K]? = some (.cells #[.int .i64 J.op, .string J.name, .int .i64 J.val, .int .i64 J.bound, .slice o3 J.args.length c3] 24 (0, 0))) ∧ FAtP (fun b => (P b ∨ W0.heap.size ≤ b) ∧ b < WF.heap.size) WF (.agg #[.int .i64 J.op, .string J.name, .int .i64 J.val, .int .i64 J.bound, .slice o3 J.args.length c3]) J ∧ Below N w WF from
      ⟨oj, cj, hset, hJ2, hBN⟩)
    have hKK' := hidi hKK
    have hWF' := hidi hWF
    clear hKK hJ2 hoth hset hzs hBN hJJ haj hWF hx hdep
    rw [hL.out, ← hL2.out]; refine wpOp_of_list' rfl ?_
    go_wp2_with fail
    have h9 := hKK'.out WF hfin.out
    rw [← hWF'.out] at h9
    exact h9
  · rintro x' W ⟨o3, c3, q1, q2, q3⟩
    have hl := hend x' W o3 c3 q1 q2 q3
    have hr : List.range (opsAt Tryz.f68 24).size = [0, 1, 2, 3, 4, 5] := by rw [hsz]; rfl
    rw [hr]
    simp only [putL, d0, d1, d2, d3, d4, d5, put_none3]
    exact hl
theorem ref_r25 {P : Nat → Prop} {x J : Fm} {K N gb go n uc c1 : Nat} {o1 : Option Addr}  (a0 : Act) (W0 w : World) (Q : Exit → Act → World → Prop) (hz : a0.tmps.size = 154) (p4 : a0.tmps[(4 : Nat)]? = some (.pointer (some ⟨K, 0, none⟩))) (p5 : a0.tmps[(5 : Nat)]? = some (.slice (some ⟨gb, go, none⟩) n uc))
    (hJ : Hid (J = Fm.mk 10 ⟨#[]⟩ 0 0 [fFalse, x])) (hn : 0 < n) (hK : K < W0.heap.size) (hN : N ≤ K) (hgb : gb < W0.heap.size) (hB0 : Below N w W0) (hPb : ∀ b, P b → b ≠ K ∧ b < W0.heap.size)
    (cx : Cells5 W0 gb go (.int .i64 x.op) (.string x.name) (.int .i64 x.val) (.int .i64 x.bound) (.slice o1 x.args.length c1)) (hx : FAtP P W0 (.agg #[.int .i64 x.op, .string x.name, .int .i64 x.val, .int .i64 x.bound, .slice o1 x.args.length c1]) x) (rK : Res5 W0 K)
    (hend : ∀ (x' : Nat → Value) (W : World) (o3 : Option Addr) (c3 : Nat), Hid (W.heap[K]? = some (.cells #[.int .i64 J.op, .string J.name, .int .i64 J.val, .int .i64 J.bound, .slice o3 J.args.length c3] 24 (0, 0))) → FAtP (fun b => (P b ∨ W0.heap.size ≤ b) ∧ b < W.heap.size) W (.agg #[.int .i64 J.op, .string J.name, .int .i64 J.val, .int .i64 J.bound, .slice o3 J.args.length c3]) J → Below N w W → Q .normal (((((a0.put (some 79) (x' 0)).put (some 80) (x' 1)).put (some 81) (x' 2)).put (some 82) (x' 3)).put (some 83) (x' 4)) W) :
    (Code.region 25 (opsAt Tryz.f68 25) true).wp Tryz.prog Q a0 W0 := by
  have d0 : dstOf (opsAt Tryz.f68 25) 0 = some 79 := by kernel_rfl
  have d1 : dstOf (opsAt Tryz.f68 25) 1 = some 80 := by kernel_rfl
  have d2 : dstOf (opsAt Tryz.f68 25) 2 = some 81 := by kernel_rfl
  have d3 : dstOf (opsAt Tryz.f68 25) 3 = some 82 := by kernel_rfl
  have d4 : dstOf (opsAt Tryz.f68 25) 4 = some 83 := by kernel_rfl
  have d5 : dstOf (opsAt Tryz.f68 25) 5 = none := by kernel_rfl
  have hsz : (opsAt Tryz.f68 25).size = 6 := by kernel_rfl
  obtain ⟨L, hL⟩ : ∃ L, Hid ((opsAt Tryz.f68 25) = L) := ⟨_, hidi rfl⟩
  have hL2 := hL.out
  unfold opsAt Tryz.f68 at hL2
  simp only [findRegion, Nat.reduceBEq, if_true, if_false, Bool.false_eq_true, Option.getD_some] at hL2
  replace hL2 := hidi hL2
  obtain ⟨Ok, hOk⟩ : ∃ Ok : Nat → Prop, Ok = fun b => P b ∨ W0.heap.size ≤ b := ⟨_, rfl⟩
  have hOk1 : ∀ b, P b → Ok b := fun b h => by rw [hOk]; exact .inl h
  have hOk2 : ∀ b, W0.heap.size ≤ b → Ok b := fun b h => by rw [hOk]; exact .inr h
  have hPl : ∀ b, P b → b < W0.heap.size := fun b h => (hPb b h).2
  have hnI : (0 : Int) < (n : Int) := by omega
  obtain ⟨fs, hfs⟩ : ∃ fs : Nat → Fq, fs = (fun i => match i with
      | 0 => .fmF fFalse
      | 1 => .valF (.slice (some ⟨gb, go, none⟩) n uc)
      | 2 => .valF (.pointer (some ⟨gb, go, none⟩))
      | 3 => .valF (.agg #[.int .i64 x.op, .string x.name, .int .i64 x.val, .int .i64 x.bound, .slice o1 x.args.length c1])
      | _ => .free) := ⟨_, rfl⟩
  refine wp_region_tail (by kernel_rfl) (by kernel_rfl) (by kernel_rfl) (by rw [hz]; kernel_rfl) (by kernel_rfl) fs Ok 4 5 83 (by rw [hsz]; omega) (by rw [hsz]; omega) (by omega) d4 (by rw [hfs]; kernel_rfl) (by kernel_rfl)
    (fun v W => Below W0.heap.size W0 W ∧ (Fq.fmF J).holds Ok v W)
    (fun v W => ∃ o3 c3, Hid (W.heap[K]? = some (.cells #[.int .i64 J.op, .string J.name, .int .i64 J.val, .int .i64 J.bound, .slice o3 J.args.length c3] 24 (0, 0))) ∧ FAtP (fun b => (P b ∨ W0.heap.size ≤ b) ∧ b < W.heap.size) W (.agg #[.int .i64 J.op, .string J.name, .int .i64 J.val, .int .i64 J.bound, .slice o3 J.args.length c3]) J ∧ Below N w W) ?_ ?_ ?_ ?_ ?_ d5
  · intro i a W KK hi h1 h2 hS hKK
    rw [hsz] at hi
    rw [hfs] at hS hKK
    match i, hi, hS, hKK with
    | 0, _, hS, hKK =>
      rw [d0] at hKK
      have hSB := hS.below
      rw [hL.out, ← hL2.out]; refine wpOp_of_list' rfl ?_
      go_wp2_with fail
      refine (reffalse_any (fun b => b < W.heap.size ∧ Ok b) W).mono ?_
      rintro e W2 ⟨r, rfl, hN', hb⟩
      go_wp2_with fail
      exact hKK _ _ (fm_got hN' hb fun b h => hOk2 b (Nat.le_trans hSB.size h)) hb
    | 1, _, hS, hKK =>
      rw [d1] at hKK
      have h5 := hS.slot (e := 5) (by kernel_rfl) p5
      have e5 := at_eval h5
      rw [hL.out, ← hL2.out]; refine wpOp_of_list' rfl ?_
      go_wp2_with fail
      exact hKK _ _ rfl (Below.refl _ _)
    | 2, _, hS, hKK =>
      rw [d2] at hKK
      obtain ⟨v80, h80, f80⟩ := hS.got 1 rfl (by kernel_rfl) d1
      obtain rfl : v80 = .slice (some ⟨gb, go, none⟩) n uc := f80
      have e80 := at_eval h80
      rw [hL.out, ← hL2.out]; refine wpOp_of_list' rfl ?_
      go_wp2_with fail
      exact hKK _ _ rfl (Below.refl _ _)
    | 3, _, hS, hKK =>
      rw [d3] at hKK
      obtain ⟨v81, h81, f81⟩ := hS.got 2 rfl (by kernel_rfl) d2
      obtain rfl : v81 = .pointer (some ⟨gb, go, none⟩) := f81
      have e81 := at_eval h81
      obtain ⟨b0, b1, b2, b3, b4⟩ := cx.below hS.below hgb
      rw [hL.out, ← hL2.out]; refine wpOp_of_list' rfl ?_
      go_wp2_with fail
      exact hKK _ _ rfl (Below.refl _ _)
    | 4, _, _, _ => exact absurd rfl h1
    | 5, _, _, _ => exact absurd rfl h2
    | k + 6, hi, _, _ => exact absurd hi (by omega)
  · intro i a W KK hi h1 h2 hs hsize hold hdep hnr _ _
    rw [hsz] at hi
    exfalso
    have : ∀ i, i < 6 → i ≠ 4 → i ≠ 5 → (reachL (opsAt Tryz.f68 25) 8 (depsOf (opsAt Tryz.f68 25) 4)).contains i = true := by
      intro i
      match i with
      | 0 => intro _ _ _; kernel_rfl
      | 1 => intro _ _ _; kernel_rfl
      | 2 => intro _ _ _; kernel_rfl
      | 3 => intro _ _ _; kernel_rfl
      | 4 => intro _ h _; omega
      | 5 => intro _ _ h; omega
      | k + 6 => intro h; omega
    rw [this i hi h1 h2] at hnr
    cases hnr
  · intro a W KK hS hKK
    rw [hfs] at hS
    obtain ⟨v79, h79, f79⟩ := hS.got 0 rfl (by kernel_rfl) d0
    have e79 := at_eval h79
    replace f79 : FAtP (fun b => b < W.heap.size ∧ Ok b) W v79 fFalse := f79
    obtain ⟨v82, h82, f82⟩ := hS.got 3 rfl (by kernel_rfl) d3
    obtain rfl : v82 = .agg #[.int .i64 x.op, .string x.name, .int .i64 x.val, .int .i64 x.bound, .slice o1 x.args.length c1] := f82
    have e82 := at_eval h82
    have hSB := hS.below
    have hxW : FAtP (fun b => b < W.heap.size ∧ Ok b) W (.agg #[.int .i64 x.op, .string x.name, .int .i64 x.val, .int .i64 x.bound, .slice o1 x.args.length c1]) x := (FAtP.kept hx hSB hPl).mono fun b hb => ⟨Nat.lt_of_lt_of_le (hPl b hb) hSB.size, hOk1 b hb⟩
    rw [hL.out, ← hL2.out]; refine wpOp_of_list' rfl ?_
    go_wp2_with fail
    refine (reftwo_any (fun b => b < W.heap.size ∧ Ok b) 10 _ _ fFalse x W f79 hxW (fun b hb => hb.1) (i64_of (by decide) (by decide))).mono ?_
    rintro e W2 ⟨r, rfl, hN', hb⟩
    rw [← hJ.out] at hN'
    go_wp2_with fail
    exact ⟨hSB.trans (hb.mono hSB.size), fm_got hN' hb fun b h => hOk2 b (Nat.le_trans hSB.size h)⟩
  · rintro a W KK v - hold hdep hda ⟨hBW, hJJ⟩ hKK
    have h4 := old_slot hold (e := 4) (by kernel_rfl) p4
    have e4 := at_eval h4
    have eda := at_eval hda
    obtain ⟨oj, cj, rfl, hfj, haj⟩ := FAtP.open hJJ
    have hres : Res5 W K := rK.below hBW
    obtain ⟨a1, a2, a3, a4, a5, ⟨z0, z1, z2, z3, z4⟩, y0, y1, y2, y3, y4⟩ := hres.cells
    rw [d5] at hKK
    have hset := hres.set (.int .i64 J.op) (.string J.name) (.int .i64 J.val) (.int .i64 J.bound) (.slice oj J.args.length cj)
    have hoth := fun b' (h : b' ≠ K) => set5_other W K b' h (.int .i64 J.op) (.string J.name) (.int .i64 J.val) (.int .i64 J.bound) (.slice oj J.args.length cj)
    have hzs := set5_size W K (.int .i64 J.op) (.string J.name) (.int .i64 J.val) (.int .i64 J.bound) (.slice oj J.args.length cj)
    have hBN := set5_below (hB0.trans (hBW.mono (by omega))) hN (.int .i64 J.op) (.string J.name) (.int .i64 J.val) (.int .i64 J.bound) (.slice oj J.args.length cj)
    generalize hWF : ((((W.setCell ⟨K, 0, none⟩ (.int .i64 J.op)).setCell ⟨K, 1, none⟩ (.string J.name)).setCell ⟨K, 2, none⟩ (.int .i64 J.val)).setCell ⟨K, 3, none⟩ (.int .i64 J.bound)).setCell ⟨K, 4, none⟩ (.slice oj J.args.length cj) = WF at *
    have hJ2 : FAtP (fun b => (P b ∨ W0.heap.size ≤ b) ∧ b < WF.heap.size) WF (.agg #[.int .i64 J.op, .string J.name, .int .i64 J.val, .int .i64 J.bound, .slice oj J.args.length cj]) J := by
      refine (FAtP.same (P := fun b => b < W.heap.size ∧ Ok b) ⟨_, rfl, hfj, haj⟩ fun b hb => hoth b (fun e => ?_)).mono fun b hb => ?_
      · subst e
        rw [hOk] at hb
        rcases hb.2 with h | h
        · exact (hPb _ h).1 rfl
        · omega
      · rw [hOk] at hb
        rw [hzs]
        exact ⟨hb.2, hb.1⟩
    have hfin := hidi (show ∃ o3 c3, Hid (WF.heap[K]? = some (.cells #[.int .i64 J.op, .string J.name, .int .i64 J.val, .int .i64 J.bound, .slice o3 J.args.length c3] 24 (0, 0))) ∧ FAtP (fun b => (P b ∨ W0.heap.size ≤ b) ∧ b < WF.heap.size) WF (.agg #[.int .i64 J.op, .string J.name, .int .i64 J.val, .int .i64 J.bound, .slice o3 J.args.length c3]) J ∧ Below N w WF from
      ⟨oj, cj, hset, hJ2, hBN⟩)
    have hKK' := hidi hKK
    have hWF' := hidi hWF
    clear hKK hJ2 hoth hset hzs hBN hJJ haj hWF hx hdep
    rw [hL.out, ← hL2.out]; refine wpOp_of_list' rfl ?_
    go_wp2_with fail
    have h9 := hKK'.out WF hfin.out
    rw [← hWF'.out] at h9
    exact h9
  · rintro x' W ⟨o3, c3, q1, q2, q3⟩
    have hl := hend x' W o3 c3 q1 q2 q3
    have hr : List.range (opsAt Tryz.f68 25).size = [0, 1, 2, 3, 4, 5] := by rw [hsz]; rfl
    rw [hr]
    simp only [putL, d0, d1, d2, d3, d4, d5, put_none3]
    exact hl
theorem ref_r29 {P : Nat → Prop} {x J : Fm} {K N gb go n uc c1 : Nat} {o1 : Option Addr} {A m : Nat} (a0 : Act) (W0 w : World) (Q : Exit → Act → World → Prop) (hz : a0.tmps.size = 154) (p4 : a0.tmps[(4 : Nat)]? = some (.pointer (some ⟨K, 0, none⟩))) (p5 : a0.tmps[(5 : Nat)]? = some (.slice (some ⟨gb, go, none⟩) n uc))
    (hJ : Hid (J = repF 6 m x)) (hn : 0 < n) (hK : K < W0.heap.size) (hN : N ≤ K) (hgb : gb < W0.heap.size) (hB0 : Below N w W0) (hPb : ∀ b, P b → b ≠ K ∧ b < W0.heap.size) (hA : A < W0.heap.size) (cA : W0.cell? ⟨A, 3, none⟩ = some (.int .i64 (m : Int))) (hm : m ≤ 1000) (p2 : a0.tmps[(2 : Nat)]? = some (.pointer (some ⟨A, 0, none⟩)))
    (cx : Cells5 W0 gb go (.int .i64 x.op) (.string x.name) (.int .i64 x.val) (.int .i64 x.bound) (.slice o1 x.args.length c1)) (hx : FAtP P W0 (.agg #[.int .i64 x.op, .string x.name, .int .i64 x.val, .int .i64 x.bound, .slice o1 x.args.length c1]) x) (rK : Res5 W0 K)
    (hend : ∀ (x' : Nat → Value) (W : World) (o3 : Option Addr) (c3 : Nat), Hid (W.heap[K]? = some (.cells #[.int .i64 J.op, .string J.name, .int .i64 J.val, .int .i64 J.bound, .slice o3 J.args.length c3] 24 (0, 0))) → FAtP (fun b => (P b ∨ W0.heap.size ≤ b) ∧ b < W.heap.size) W (.agg #[.int .i64 J.op, .string J.name, .int .i64 J.val, .int .i64 J.bound, .slice o3 J.args.length c3]) J → Below N w W → Q .normal ((((((a0.put (some 92) (x' 0)).put (some 93) (x' 1)).put (some 94) (x' 2)).put (some 95) (x' 3)).put (some 96) (x' 4)).put (some 97) (x' 5)) W) :
    (Code.region 29 (opsAt Tryz.f68 29) true).wp Tryz.prog Q a0 W0 := by
  have d0 : dstOf (opsAt Tryz.f68 29) 0 = some 92 := by kernel_rfl
  have d1 : dstOf (opsAt Tryz.f68 29) 1 = some 93 := by kernel_rfl
  have d2 : dstOf (opsAt Tryz.f68 29) 2 = some 94 := by kernel_rfl
  have d3 : dstOf (opsAt Tryz.f68 29) 3 = some 95 := by kernel_rfl
  have d4 : dstOf (opsAt Tryz.f68 29) 4 = some 96 := by kernel_rfl
  have d5 : dstOf (opsAt Tryz.f68 29) 5 = some 97 := by kernel_rfl
  have d6 : dstOf (opsAt Tryz.f68 29) 6 = none := by kernel_rfl
  have hsz : (opsAt Tryz.f68 29).size = 7 := by kernel_rfl
  obtain ⟨L, hL⟩ : ∃ L, Hid ((opsAt Tryz.f68 29) = L) := ⟨_, hidi rfl⟩
  have hL2 := hL.out
  unfold opsAt Tryz.f68 at hL2
  simp only [findRegion, Nat.reduceBEq, if_true, if_false, Bool.false_eq_true, Option.getD_some] at hL2
  replace hL2 := hidi hL2
  obtain ⟨Ok, hOk⟩ : ∃ Ok : Nat → Prop, Ok = fun b => P b ∨ W0.heap.size ≤ b := ⟨_, rfl⟩
  have hOk1 : ∀ b, P b → Ok b := fun b h => by rw [hOk]; exact .inl h
  have hOk2 : ∀ b, W0.heap.size ≤ b → Ok b := fun b h => by rw [hOk]; exact .inr h
  have hPl : ∀ b, P b → b < W0.heap.size := fun b h => (hPb b h).2
  have hnI : (0 : Int) < (n : Int) := by omega
  obtain ⟨fs, hfs⟩ : ∃ fs : Nat → Fq, fs = (fun i => match i with
      | 0 => .valF (.pointer (some ⟨A, 3, none⟩))
      | 1 => .valF (.int .i64 (m : Int))
      | 2 => .valF (.slice (some ⟨gb, go, none⟩) n uc)
      | 3 => .valF (.pointer (some ⟨gb, go, none⟩))
      | 4 => .valF (.agg #[.int .i64 x.op, .string x.name, .int .i64 x.val, .int .i64 x.bound, .slice o1 x.args.length c1])
      | _ => .free) := ⟨_, rfl⟩
  refine wp_region_tail (by kernel_rfl) (by kernel_rfl) (by kernel_rfl) (by rw [hz]; kernel_rfl) (by kernel_rfl) fs Ok 5 6 97 (by rw [hsz]; omega) (by rw [hsz]; omega) (by omega) d5 (by rw [hfs]; kernel_rfl) (by kernel_rfl)
    (fun v W => Below W0.heap.size W0 W ∧ (Fq.fmF J).holds Ok v W)
    (fun v W => ∃ o3 c3, Hid (W.heap[K]? = some (.cells #[.int .i64 J.op, .string J.name, .int .i64 J.val, .int .i64 J.bound, .slice o3 J.args.length c3] 24 (0, 0))) ∧ FAtP (fun b => (P b ∨ W0.heap.size ≤ b) ∧ b < W.heap.size) W (.agg #[.int .i64 J.op, .string J.name, .int .i64 J.val, .int .i64 J.bound, .slice o3 J.args.length c3]) J ∧ Below N w W) ?_ ?_ ?_ ?_ ?_ d6
  · intro i a W KK hi h1 h2 hS hKK
    rw [hsz] at hi
    rw [hfs] at hS hKK
    match i, hi, hS, hKK with
    | 0, _, hS, hKK =>
      rw [d0] at hKK
      have h2p := hS.slot (e := 2) (by kernel_rfl) p2
      have e2 := at_eval h2p
      rw [hL.out, ← hL2.out]; refine wpOp_of_list' rfl ?_
      go_wp2_with fail
      exact hKK _ _ rfl (Below.refl _ _)
    | 1, _, hS, hKK =>
      rw [d1] at hKK
      obtain ⟨v92, h92, f92⟩ := hS.got 0 rfl (by kernel_rfl) d0
      obtain rfl : v92 = .pointer (some ⟨A, 3, none⟩) := f92
      have e92 := at_eval h92
      have b3 := (hS.below.cell (p := ⟨A, 3, none⟩) hA).trans cA
      rw [hL.out, ← hL2.out]; refine wpOp_of_list' rfl ?_
      go_wp2_with fail
      exact hKK _ _ rfl (Below.refl _ _)
    | 2, _, hS, hKK =>
      rw [d2] at hKK
      have h5 := hS.slot (e := 5) (by kernel_rfl) p5
      have e5 := at_eval h5
      rw [hL.out, ← hL2.out]; refine wpOp_of_list' rfl ?_
      go_wp2_with fail
      exact hKK _ _ rfl (Below.refl _ _)
    | 3, _, hS, hKK =>
      rw [d3] at hKK
      obtain ⟨v94, h94, f94⟩ := hS.got 2 rfl (by kernel_rfl) d2
      obtain rfl : v94 = .slice (some ⟨gb, go, none⟩) n uc := f94
      have e94 := at_eval h94
      rw [hL.out, ← hL2.out]; refine wpOp_of_list' rfl ?_
      go_wp2_with fail
      exact hKK _ _ rfl (Below.refl _ _)
    | 4, _, hS, hKK =>
      rw [d4] at hKK
      obtain ⟨v95, h95, f95⟩ := hS.got 3 rfl (by kernel_rfl) d3
      obtain rfl : v95 = .pointer (some ⟨gb, go, none⟩) := f95
      have e95 := at_eval h95
      obtain ⟨b0, b1, b2, b3, b4⟩ := cx.below hS.below hgb
      rw [hL.out, ← hL2.out]; refine wpOp_of_list' rfl ?_
      go_wp2_with fail
      exact hKK _ _ rfl (Below.refl _ _)
    | 5, _, _, _ => exact absurd rfl h1
    | 6, _, _, _ => exact absurd rfl h2
    | k + 7, hi, _, _ => exact absurd hi (by omega)
  · intro i a W KK hi h1 h2 hs hsize hold hdep hnr _ _
    rw [hsz] at hi
    exfalso
    have : ∀ i, i < 7 → i ≠ 5 → i ≠ 6 → (reachL (opsAt Tryz.f68 29) 8 (depsOf (opsAt Tryz.f68 29) 5)).contains i = true := by
      intro i
      match i with
      | 0 => intro _ _ _; kernel_rfl
      | 1 => intro _ _ _; kernel_rfl
      | 2 => intro _ _ _; kernel_rfl
      | 3 => intro _ _ _; kernel_rfl
      | 4 => intro _ _ _; kernel_rfl
      | 5 => intro _ h _; omega
      | 6 => intro _ _ h; omega
      | k + 7 => intro h; omega
    rw [this i hi h1 h2] at hnr
    cases hnr
  · intro a W KK hS hKK
    rw [hfs] at hS
    obtain ⟨v93, h93, f93⟩ := hS.got 1 rfl (by kernel_rfl) d1
    obtain rfl : v93 = .int .i64 (m : Int) := f93
    have e93 := at_eval h93
    obtain ⟨v96, h96, f96⟩ := hS.got 4 rfl (by kernel_rfl) d4
    obtain rfl : v96 = .agg #[.int .i64 x.op, .string x.name, .int .i64 x.val, .int .i64 x.bound, .slice o1 x.args.length c1] := f96
    have e96 := at_eval h96
    have hSB := hS.below
    have hxW : FAtP (fun b => b < W.heap.size ∧ Ok b) W (.agg #[.int .i64 x.op, .string x.name, .int .i64 x.val, .int .i64 x.bound, .slice o1 x.args.length c1]) x := (FAtP.kept hx hSB hPl).mono fun b hb => ⟨Nat.lt_of_lt_of_le (hPl b hb) hSB.size, hOk1 b hb⟩
    rw [hL.out, ← hL2.out]; refine wpOp_of_list' rfl ?_
    go_wp2_with fail
    refine (repeated_any (fun b => b < W.heap.size ∧ Ok b) 6 m x _ W (i64_of (by decide) (by decide)) hm hxW (fun b hb => hb.1)).mono ?_
    rintro e W2 ⟨r, rfl, hN', hb⟩
    rw [← hJ.out] at hN'
    go_wp2_with fail
    exact ⟨hSB.trans (hb.mono hSB.size), fm_got hN' hb fun b h => hOk2 b (Nat.le_trans hSB.size h)⟩
  · rintro a W KK v - hold hdep hda ⟨hBW, hJJ⟩ hKK
    have h4 := old_slot hold (e := 4) (by kernel_rfl) p4
    have e4 := at_eval h4
    have eda := at_eval hda
    obtain ⟨oj, cj, rfl, hfj, haj⟩ := FAtP.open hJJ
    have hres : Res5 W K := rK.below hBW
    obtain ⟨a1, a2, a3, a4, a5, ⟨z0, z1, z2, z3, z4⟩, y0, y1, y2, y3, y4⟩ := hres.cells
    rw [d6] at hKK
    have hset := hres.set (.int .i64 J.op) (.string J.name) (.int .i64 J.val) (.int .i64 J.bound) (.slice oj J.args.length cj)
    have hoth := fun b' (h : b' ≠ K) => set5_other W K b' h (.int .i64 J.op) (.string J.name) (.int .i64 J.val) (.int .i64 J.bound) (.slice oj J.args.length cj)
    have hzs := set5_size W K (.int .i64 J.op) (.string J.name) (.int .i64 J.val) (.int .i64 J.bound) (.slice oj J.args.length cj)
    have hBN := set5_below (hB0.trans (hBW.mono (by omega))) hN (.int .i64 J.op) (.string J.name) (.int .i64 J.val) (.int .i64 J.bound) (.slice oj J.args.length cj)
    generalize hWF : ((((W.setCell ⟨K, 0, none⟩ (.int .i64 J.op)).setCell ⟨K, 1, none⟩ (.string J.name)).setCell ⟨K, 2, none⟩ (.int .i64 J.val)).setCell ⟨K, 3, none⟩ (.int .i64 J.bound)).setCell ⟨K, 4, none⟩ (.slice oj J.args.length cj) = WF at *
    have hJ2 : FAtP (fun b => (P b ∨ W0.heap.size ≤ b) ∧ b < WF.heap.size) WF (.agg #[.int .i64 J.op, .string J.name, .int .i64 J.val, .int .i64 J.bound, .slice oj J.args.length cj]) J := by
      refine (FAtP.same (P := fun b => b < W.heap.size ∧ Ok b) ⟨_, rfl, hfj, haj⟩ fun b hb => hoth b (fun e => ?_)).mono fun b hb => ?_
      · subst e
        rw [hOk] at hb
        rcases hb.2 with h | h
        · exact (hPb _ h).1 rfl
        · omega
      · rw [hOk] at hb
        rw [hzs]
        exact ⟨hb.2, hb.1⟩
    have hfin := hidi (show ∃ o3 c3, Hid (WF.heap[K]? = some (.cells #[.int .i64 J.op, .string J.name, .int .i64 J.val, .int .i64 J.bound, .slice o3 J.args.length c3] 24 (0, 0))) ∧ FAtP (fun b => (P b ∨ W0.heap.size ≤ b) ∧ b < WF.heap.size) WF (.agg #[.int .i64 J.op, .string J.name, .int .i64 J.val, .int .i64 J.bound, .slice o3 J.args.length c3]) J ∧ Below N w WF from
      ⟨oj, cj, hset, hJ2, hBN⟩)
    have hKK' := hidi hKK
    have hWF' := hidi hWF
    clear hKK hJ2 hoth hset hzs hBN hJJ haj hWF hx hdep
    rw [hL.out, ← hL2.out]; refine wpOp_of_list' rfl ?_
    go_wp2_with fail
    have h9 := hKK'.out WF hfin.out
    rw [← hWF'.out] at h9
    exact h9
  · rintro x' W ⟨o3, c3, q1, q2, q3⟩
    have hl := hend x' W o3 c3 q1 q2 q3
    have hr : List.range (opsAt Tryz.f68 29).size = [0, 1, 2, 3, 4, 5, 6] := by rw [hsz]; rfl
    rw [hr]
    simp only [putL, d0, d1, d2, d3, d4, d5, d6, put_none3]
    exact hl
theorem ref_r30 {P : Nat → Prop} {x J : Fm} {K N gb go n uc c1 : Nat} {o1 : Option Addr} {A m : Nat} (a0 : Act) (W0 w : World) (Q : Exit → Act → World → Prop) (hz : a0.tmps.size = 154) (p4 : a0.tmps[(4 : Nat)]? = some (.pointer (some ⟨K, 0, none⟩))) (p5 : a0.tmps[(5 : Nat)]? = some (.slice (some ⟨gb, go, none⟩) n uc))
    (hJ : Hid (J = repF 5 m x)) (hn : 0 < n) (hK : K < W0.heap.size) (hN : N ≤ K) (hgb : gb < W0.heap.size) (hB0 : Below N w W0) (hPb : ∀ b, P b → b ≠ K ∧ b < W0.heap.size) (hA : A < W0.heap.size) (cA : W0.cell? ⟨A, 3, none⟩ = some (.int .i64 (m : Int))) (hm : m ≤ 1000) (p2 : a0.tmps[(2 : Nat)]? = some (.pointer (some ⟨A, 0, none⟩)))
    (cx : Cells5 W0 gb go (.int .i64 x.op) (.string x.name) (.int .i64 x.val) (.int .i64 x.bound) (.slice o1 x.args.length c1)) (hx : FAtP P W0 (.agg #[.int .i64 x.op, .string x.name, .int .i64 x.val, .int .i64 x.bound, .slice o1 x.args.length c1]) x) (rK : Res5 W0 K)
    (hend : ∀ (x' : Nat → Value) (W : World) (o3 : Option Addr) (c3 : Nat), Hid (W.heap[K]? = some (.cells #[.int .i64 J.op, .string J.name, .int .i64 J.val, .int .i64 J.bound, .slice o3 J.args.length c3] 24 (0, 0))) → FAtP (fun b => (P b ∨ W0.heap.size ≤ b) ∧ b < W.heap.size) W (.agg #[.int .i64 J.op, .string J.name, .int .i64 J.val, .int .i64 J.bound, .slice o3 J.args.length c3]) J → Below N w W → Q .normal ((((((a0.put (some 98) (x' 0)).put (some 99) (x' 1)).put (some 100) (x' 2)).put (some 101) (x' 3)).put (some 102) (x' 4)).put (some 103) (x' 5)) W) :
    (Code.region 30 (opsAt Tryz.f68 30) true).wp Tryz.prog Q a0 W0 := by
  have d0 : dstOf (opsAt Tryz.f68 30) 0 = some 98 := by kernel_rfl
  have d1 : dstOf (opsAt Tryz.f68 30) 1 = some 99 := by kernel_rfl
  have d2 : dstOf (opsAt Tryz.f68 30) 2 = some 100 := by kernel_rfl
  have d3 : dstOf (opsAt Tryz.f68 30) 3 = some 101 := by kernel_rfl
  have d4 : dstOf (opsAt Tryz.f68 30) 4 = some 102 := by kernel_rfl
  have d5 : dstOf (opsAt Tryz.f68 30) 5 = some 103 := by kernel_rfl
  have d6 : dstOf (opsAt Tryz.f68 30) 6 = none := by kernel_rfl
  have hsz : (opsAt Tryz.f68 30).size = 7 := by kernel_rfl
  obtain ⟨L, hL⟩ : ∃ L, Hid ((opsAt Tryz.f68 30) = L) := ⟨_, hidi rfl⟩
  have hL2 := hL.out
  unfold opsAt Tryz.f68 at hL2
  simp only [findRegion, Nat.reduceBEq, if_true, if_false, Bool.false_eq_true, Option.getD_some] at hL2
  replace hL2 := hidi hL2
  obtain ⟨Ok, hOk⟩ : ∃ Ok : Nat → Prop, Ok = fun b => P b ∨ W0.heap.size ≤ b := ⟨_, rfl⟩
  have hOk1 : ∀ b, P b → Ok b := fun b h => by rw [hOk]; exact .inl h
  have hOk2 : ∀ b, W0.heap.size ≤ b → Ok b := fun b h => by rw [hOk]; exact .inr h
  have hPl : ∀ b, P b → b < W0.heap.size := fun b h => (hPb b h).2
  have hnI : (0 : Int) < (n : Int) := by omega
  obtain ⟨fs, hfs⟩ : ∃ fs : Nat → Fq, fs = (fun i => match i with
      | 0 => .valF (.pointer (some ⟨A, 3, none⟩))
      | 1 => .valF (.int .i64 (m : Int))
      | 2 => .valF (.slice (some ⟨gb, go, none⟩) n uc)
      | 3 => .valF (.pointer (some ⟨gb, go, none⟩))
      | 4 => .valF (.agg #[.int .i64 x.op, .string x.name, .int .i64 x.val, .int .i64 x.bound, .slice o1 x.args.length c1])
      | _ => .free) := ⟨_, rfl⟩
  refine wp_region_tail (by kernel_rfl) (by kernel_rfl) (by kernel_rfl) (by rw [hz]; kernel_rfl) (by kernel_rfl) fs Ok 5 6 103 (by rw [hsz]; omega) (by rw [hsz]; omega) (by omega) d5 (by rw [hfs]; kernel_rfl) (by kernel_rfl)
    (fun v W => Below W0.heap.size W0 W ∧ (Fq.fmF J).holds Ok v W)
    (fun v W => ∃ o3 c3, Hid (W.heap[K]? = some (.cells #[.int .i64 J.op, .string J.name, .int .i64 J.val, .int .i64 J.bound, .slice o3 J.args.length c3] 24 (0, 0))) ∧ FAtP (fun b => (P b ∨ W0.heap.size ≤ b) ∧ b < W.heap.size) W (.agg #[.int .i64 J.op, .string J.name, .int .i64 J.val, .int .i64 J.bound, .slice o3 J.args.length c3]) J ∧ Below N w W) ?_ ?_ ?_ ?_ ?_ d6
  · intro i a W KK hi h1 h2 hS hKK
    rw [hsz] at hi
    rw [hfs] at hS hKK
    match i, hi, hS, hKK with
    | 0, _, hS, hKK =>
      rw [d0] at hKK
      have h2p := hS.slot (e := 2) (by kernel_rfl) p2
      have e2 := at_eval h2p
      rw [hL.out, ← hL2.out]; refine wpOp_of_list' rfl ?_
      go_wp2_with fail
      exact hKK _ _ rfl (Below.refl _ _)
    | 1, _, hS, hKK =>
      rw [d1] at hKK
      obtain ⟨v98, h98, f98⟩ := hS.got 0 rfl (by kernel_rfl) d0
      obtain rfl : v98 = .pointer (some ⟨A, 3, none⟩) := f98
      have e98 := at_eval h98
      have b3 := (hS.below.cell (p := ⟨A, 3, none⟩) hA).trans cA
      rw [hL.out, ← hL2.out]; refine wpOp_of_list' rfl ?_
      go_wp2_with fail
      exact hKK _ _ rfl (Below.refl _ _)
    | 2, _, hS, hKK =>
      rw [d2] at hKK
      have h5 := hS.slot (e := 5) (by kernel_rfl) p5
      have e5 := at_eval h5
      rw [hL.out, ← hL2.out]; refine wpOp_of_list' rfl ?_
      go_wp2_with fail
      exact hKK _ _ rfl (Below.refl _ _)
    | 3, _, hS, hKK =>
      rw [d3] at hKK
      obtain ⟨v100, h100, f100⟩ := hS.got 2 rfl (by kernel_rfl) d2
      obtain rfl : v100 = .slice (some ⟨gb, go, none⟩) n uc := f100
      have e100 := at_eval h100
      rw [hL.out, ← hL2.out]; refine wpOp_of_list' rfl ?_
      go_wp2_with fail
      exact hKK _ _ rfl (Below.refl _ _)
    | 4, _, hS, hKK =>
      rw [d4] at hKK
      obtain ⟨v101, h101, f101⟩ := hS.got 3 rfl (by kernel_rfl) d3
      obtain rfl : v101 = .pointer (some ⟨gb, go, none⟩) := f101
      have e101 := at_eval h101
      obtain ⟨b0, b1, b2, b3, b4⟩ := cx.below hS.below hgb
      rw [hL.out, ← hL2.out]; refine wpOp_of_list' rfl ?_
      go_wp2_with fail
      exact hKK _ _ rfl (Below.refl _ _)
    | 5, _, _, _ => exact absurd rfl h1
    | 6, _, _, _ => exact absurd rfl h2
    | k + 7, hi, _, _ => exact absurd hi (by omega)
  · intro i a W KK hi h1 h2 hs hsize hold hdep hnr _ _
    rw [hsz] at hi
    exfalso
    have : ∀ i, i < 7 → i ≠ 5 → i ≠ 6 → (reachL (opsAt Tryz.f68 30) 8 (depsOf (opsAt Tryz.f68 30) 5)).contains i = true := by
      intro i
      match i with
      | 0 => intro _ _ _; kernel_rfl
      | 1 => intro _ _ _; kernel_rfl
      | 2 => intro _ _ _; kernel_rfl
      | 3 => intro _ _ _; kernel_rfl
      | 4 => intro _ _ _; kernel_rfl
      | 5 => intro _ h _; omega
      | 6 => intro _ _ h; omega
      | k + 7 => intro h; omega
    rw [this i hi h1 h2] at hnr
    cases hnr
  · intro a W KK hS hKK
    rw [hfs] at hS
    obtain ⟨v99, h99, f99⟩ := hS.got 1 rfl (by kernel_rfl) d1
    obtain rfl : v99 = .int .i64 (m : Int) := f99
    have e99 := at_eval h99
    obtain ⟨v102, h102, f102⟩ := hS.got 4 rfl (by kernel_rfl) d4
    obtain rfl : v102 = .agg #[.int .i64 x.op, .string x.name, .int .i64 x.val, .int .i64 x.bound, .slice o1 x.args.length c1] := f102
    have e102 := at_eval h102
    have hSB := hS.below
    have hxW : FAtP (fun b => b < W.heap.size ∧ Ok b) W (.agg #[.int .i64 x.op, .string x.name, .int .i64 x.val, .int .i64 x.bound, .slice o1 x.args.length c1]) x := (FAtP.kept hx hSB hPl).mono fun b hb => ⟨Nat.lt_of_lt_of_le (hPl b hb) hSB.size, hOk1 b hb⟩
    rw [hL.out, ← hL2.out]; refine wpOp_of_list' rfl ?_
    go_wp2_with fail
    refine (repeated_any (fun b => b < W.heap.size ∧ Ok b) 5 m x _ W (i64_of (by decide) (by decide)) hm hxW (fun b hb => hb.1)).mono ?_
    rintro e W2 ⟨r, rfl, hN', hb⟩
    rw [← hJ.out] at hN'
    go_wp2_with fail
    exact ⟨hSB.trans (hb.mono hSB.size), fm_got hN' hb fun b h => hOk2 b (Nat.le_trans hSB.size h)⟩
  · rintro a W KK v - hold hdep hda ⟨hBW, hJJ⟩ hKK
    have h4 := old_slot hold (e := 4) (by kernel_rfl) p4
    have e4 := at_eval h4
    have eda := at_eval hda
    obtain ⟨oj, cj, rfl, hfj, haj⟩ := FAtP.open hJJ
    have hres : Res5 W K := rK.below hBW
    obtain ⟨a1, a2, a3, a4, a5, ⟨z0, z1, z2, z3, z4⟩, y0, y1, y2, y3, y4⟩ := hres.cells
    rw [d6] at hKK
    have hset := hres.set (.int .i64 J.op) (.string J.name) (.int .i64 J.val) (.int .i64 J.bound) (.slice oj J.args.length cj)
    have hoth := fun b' (h : b' ≠ K) => set5_other W K b' h (.int .i64 J.op) (.string J.name) (.int .i64 J.val) (.int .i64 J.bound) (.slice oj J.args.length cj)
    have hzs := set5_size W K (.int .i64 J.op) (.string J.name) (.int .i64 J.val) (.int .i64 J.bound) (.slice oj J.args.length cj)
    have hBN := set5_below (hB0.trans (hBW.mono (by omega))) hN (.int .i64 J.op) (.string J.name) (.int .i64 J.val) (.int .i64 J.bound) (.slice oj J.args.length cj)
    generalize hWF : ((((W.setCell ⟨K, 0, none⟩ (.int .i64 J.op)).setCell ⟨K, 1, none⟩ (.string J.name)).setCell ⟨K, 2, none⟩ (.int .i64 J.val)).setCell ⟨K, 3, none⟩ (.int .i64 J.bound)).setCell ⟨K, 4, none⟩ (.slice oj J.args.length cj) = WF at *
    have hJ2 : FAtP (fun b => (P b ∨ W0.heap.size ≤ b) ∧ b < WF.heap.size) WF (.agg #[.int .i64 J.op, .string J.name, .int .i64 J.val, .int .i64 J.bound, .slice oj J.args.length cj]) J := by
      refine (FAtP.same (P := fun b => b < W.heap.size ∧ Ok b) ⟨_, rfl, hfj, haj⟩ fun b hb => hoth b (fun e => ?_)).mono fun b hb => ?_
      · subst e
        rw [hOk] at hb
        rcases hb.2 with h | h
        · exact (hPb _ h).1 rfl
        · omega
      · rw [hOk] at hb
        rw [hzs]
        exact ⟨hb.2, hb.1⟩
    have hfin := hidi (show ∃ o3 c3, Hid (WF.heap[K]? = some (.cells #[.int .i64 J.op, .string J.name, .int .i64 J.val, .int .i64 J.bound, .slice o3 J.args.length c3] 24 (0, 0))) ∧ FAtP (fun b => (P b ∨ W0.heap.size ≤ b) ∧ b < WF.heap.size) WF (.agg #[.int .i64 J.op, .string J.name, .int .i64 J.val, .int .i64 J.bound, .slice o3 J.args.length c3]) J ∧ Below N w WF from
      ⟨oj, cj, hset, hJ2, hBN⟩)
    have hKK' := hidi hKK
    have hWF' := hidi hWF
    clear hKK hJ2 hoth hset hzs hBN hJJ haj hWF hx hdep
    rw [hL.out, ← hL2.out]; refine wpOp_of_list' rfl ?_
    go_wp2_with fail
    have h9 := hKK'.out WF hfin.out
    rw [← hWF'.out] at h9
    exact h9
  · rintro x' W ⟨o3, c3, q1, q2, q3⟩
    have hl := hend x' W o3 c3 q1 q2 q3
    have hr : List.range (opsAt Tryz.f68 30).size = [0, 1, 2, 3, 4, 5, 6] := by rw [hsz]; rfl
    rw [hr]
    simp only [putL, d0, d1, d2, d3, d4, d5, d6, put_none3]
    exact hl
theorem fms_two {Ok : Nat → Prop} {W : World} {f g : Fm} {sl sl' : Value} (hf : Fits f) (hg : Fits g) (ha : FArgsP (fun b => b < W.heap.size ∧ Ok b) W sl f.args) (ha' : FArgsP (fun b => b < W.heap.size ∧ Ok b) W sl' g.args) (hO : Ok W.heap.size) :
    (Fq.fmsF [f, g]).holds Ok (.slice (some ⟨W.heap.size, 0, none⟩) 2 2) (W.alloc (.cells #[.int .i64 f.op, .string f.name, .int .i64 f.val, .int .i64 f.bound, sl, .int .i64 g.op, .string g.name, .int .i64 g.val, .int .i64 g.bound, sl'] 24)) := by
  have hz : (W.alloc (.cells #[.int .i64 f.op, .string f.name, .int .i64 f.val, .int .i64 f.bound, sl, .int .i64 g.op, .string g.name, .int .i64 g.val, .int .i64 g.bound, sl'] 24)).heap.size = W.heap.size + 1 := by simp
  exact args_two ⟨by omega, hO⟩ (heap_alloc_new W _) hf hg ((FArgsP.kept ha (below_box W _) fun b hb => hb.1).mono fun b hb => ⟨by omega, hb.2⟩) ((FArgsP.kept ha' (below_box W _) fun b hb => hb.1).mono fun b hb => ⟨by omega, hb.2⟩)
theorem ref_r34 {P : Nat → Prop} {x J : Fm} {K N gb go n uc c1 : Nat} {o1 : Option Addr}  (a0 : Act) (W0 w : World) (Q : Exit → Act → World → Prop) (hz : a0.tmps.size = 154) (p4 : a0.tmps[(4 : Nat)]? = some (.pointer (some ⟨K, 0, none⟩))) (p5 : a0.tmps[(5 : Nat)]? = some (.slice (some ⟨gb, go, none⟩) n uc))
    (hJ : Hid (J = Fm.mk 16 ⟨#[]⟩ 0 0 [fTrue, x])) (hn : 0 < n) (hK : K < W0.heap.size) (hN : N ≤ K) (hgb : gb < W0.heap.size) (hB0 : Below N w W0) (hPb : ∀ b, P b → b ≠ K ∧ b < W0.heap.size)
    (cx : Cells5 W0 gb go (.int .i64 x.op) (.string x.name) (.int .i64 x.val) (.int .i64 x.bound) (.slice o1 x.args.length c1)) (hx : FAtP P W0 (.agg #[.int .i64 x.op, .string x.name, .int .i64 x.val, .int .i64 x.bound, .slice o1 x.args.length c1]) x) (rK : Res5 W0 K)
    (hend : ∀ (x' : Nat → Value) (W : World) (o3 : Option Addr) (c3 : Nat), Hid (W.heap[K]? = some (.cells #[.int .i64 J.op, .string J.name, .int .i64 J.val, .int .i64 J.bound, .slice o3 J.args.length c3] 24 (0, 0))) → FAtP (fun b => (P b ∨ W0.heap.size ≤ b) ∧ b < W.heap.size) W (.agg #[.int .i64 J.op, .string J.name, .int .i64 J.val, .int .i64 J.bound, .slice o3 J.args.length c3]) J → Below N w W → Q .normal ((((((a0.put (some 112) (x' 0)).put (some 113) (x' 1)).put (some 114) (x' 2)).put (some 115) (x' 3)).put (some 116) (x' 4)).put (some 117) (x' 5)) W) :
    (Code.region 34 (opsAt Tryz.f68 34) true).wp Tryz.prog Q a0 W0 := by
  have d0 : dstOf (opsAt Tryz.f68 34) 0 = some 112 := by kernel_rfl
  have d1 : dstOf (opsAt Tryz.f68 34) 1 = some 113 := by kernel_rfl
  have d2 : dstOf (opsAt Tryz.f68 34) 2 = some 114 := by kernel_rfl
  have d3 : dstOf (opsAt Tryz.f68 34) 3 = some 115 := by kernel_rfl
  have d4 : dstOf (opsAt Tryz.f68 34) 4 = some 116 := by kernel_rfl
  have d5 : dstOf (opsAt Tryz.f68 34) 5 = some 117 := by kernel_rfl
  have d6 : dstOf (opsAt Tryz.f68 34) 6 = none := by kernel_rfl
  have hsz : (opsAt Tryz.f68 34).size = 7 := by kernel_rfl
  obtain ⟨L, hL⟩ : ∃ L, Hid ((opsAt Tryz.f68 34) = L) := ⟨_, hidi rfl⟩
  have hL2 := hL.out
  unfold opsAt Tryz.f68 at hL2
  simp only [findRegion, Nat.reduceBEq, if_true, if_false, Bool.false_eq_true, Option.getD_some] at hL2
  replace hL2 := hidi hL2
  obtain ⟨Ok, hOk⟩ : ∃ Ok : Nat → Prop, Ok = fun b => P b ∨ W0.heap.size ≤ b := ⟨_, rfl⟩
  have hOk1 : ∀ b, P b → Ok b := fun b h => by rw [hOk]; exact .inl h
  have hOk2 : ∀ b, W0.heap.size ≤ b → Ok b := fun b h => by rw [hOk]; exact .inr h
  have hPl : ∀ b, P b → b < W0.heap.size := fun b h => (hPb b h).2
  have hnI : (0 : Int) < (n : Int) := by omega
  obtain ⟨fs, hfs⟩ : ∃ fs : Nat → Fq, fs = (fun i => match i with
      | 0 => .fmF fTrue
      | 1 => .valF (.slice (some ⟨gb, go, none⟩) n uc)
      | 2 => .valF (.pointer (some ⟨gb, go, none⟩))
      | 3 => .valF (.agg #[.int .i64 x.op, .string x.name, .int .i64 x.val, .int .i64 x.bound, .slice o1 x.args.length c1])
      | 4 => .fmsF [fTrue, x]
      | _ => .free) := ⟨_, rfl⟩
  refine wp_region_tail (by kernel_rfl) (by kernel_rfl) (by kernel_rfl) (by rw [hz]; kernel_rfl) (by kernel_rfl) fs Ok 5 6 117 (by rw [hsz]; omega) (by rw [hsz]; omega) (by omega) d5 (by rw [hfs]; kernel_rfl) (by kernel_rfl)
    (fun v W => Below W0.heap.size W0 W ∧ (Fq.fmF J).holds Ok v W)
    (fun v W => ∃ o3 c3, Hid (W.heap[K]? = some (.cells #[.int .i64 J.op, .string J.name, .int .i64 J.val, .int .i64 J.bound, .slice o3 J.args.length c3] 24 (0, 0))) ∧ FAtP (fun b => (P b ∨ W0.heap.size ≤ b) ∧ b < W.heap.size) W (.agg #[.int .i64 J.op, .string J.name, .int .i64 J.val, .int .i64 J.bound, .slice o3 J.args.length c3]) J ∧ Below N w W) ?_ ?_ ?_ ?_ ?_ d6
  · intro i a W KK hi h1 h2 hS hKK
    rw [hsz] at hi
    rw [hfs] at hS hKK
    match i, hi, hS, hKK with
    | 0, _, hS, hKK =>
      rw [d0] at hKK
      have hSB := hS.below
      rw [hL.out, ← hL2.out]; refine wpOp_of_list' rfl ?_
      go_wp2_with fail
      refine (reftrue_any (fun b => b < W.heap.size ∧ Ok b) W).mono ?_
      rintro e W2 ⟨r, rfl, hN', hb⟩
      go_wp2_with fail
      exact hKK _ _ (fm_got hN' hb fun b h => hOk2 b (Nat.le_trans hSB.size h)) hb
    | 1, _, hS, hKK =>
      rw [d1] at hKK
      have h5 := hS.slot (e := 5) (by kernel_rfl) p5
      have e5 := at_eval h5
      rw [hL.out, ← hL2.out]; refine wpOp_of_list' rfl ?_
      go_wp2_with fail
      exact hKK _ _ rfl (Below.refl _ _)
    | 2, _, hS, hKK =>
      rw [d2] at hKK
      obtain ⟨v113, h113, f113⟩ := hS.got 1 rfl (by kernel_rfl) d1
      obtain rfl : v113 = .slice (some ⟨gb, go, none⟩) n uc := f113
      have e113 := at_eval h113
      rw [hL.out, ← hL2.out]; refine wpOp_of_list' rfl ?_
      go_wp2_with fail
      exact hKK _ _ rfl (Below.refl _ _)
    | 3, _, hS, hKK =>
      rw [d3] at hKK
      obtain ⟨v114, h114, f114⟩ := hS.got 2 rfl (by kernel_rfl) d2
      obtain rfl : v114 = .pointer (some ⟨gb, go, none⟩) := f114
      have e114 := at_eval h114
      obtain ⟨b0, b1, b2, b3, b4⟩ := cx.below hS.below hgb
      rw [hL.out, ← hL2.out]; refine wpOp_of_list' rfl ?_
      go_wp2_with fail
      exact hKK _ _ rfl (Below.refl _ _)
    | 4, _, hS, hKK =>
      rw [d4] at hKK
      obtain ⟨v112, h112, f112⟩ := hS.got 0 rfl (by kernel_rfl) d0
      have e112 := at_eval h112
      replace f112 : FAtP (fun b => b < W.heap.size ∧ Ok b) W v112 fTrue := f112
      obtain ⟨oz, cz, rfl, hfz, haz⟩ := f112.open
      obtain ⟨v115, h115, f115⟩ := hS.got 3 rfl (by kernel_rfl) d3
      obtain rfl : v115 = .agg #[.int .i64 x.op, .string x.name, .int .i64 x.val, .int .i64 x.bound, .slice o1 x.args.length c1] := f115
      have e115 := at_eval h115
      have hSB := hS.below
      have hxW : FAtP (fun b => b < W.heap.size ∧ Ok b) W (.agg #[.int .i64 x.op, .string x.name, .int .i64 x.val, .int .i64 x.bound, .slice o1 x.args.length c1]) x := (FAtP.kept hx hSB hPl).mono fun b hb => ⟨Nat.lt_of_lt_of_le (hPl b hb) hSB.size, hOk1 b hb⟩
      obtain ⟨o9, c9, h9, hfx, hax⟩ := FAtP.open hxW
      obtain ⟨rfl, rfl⟩ : o1 = o9 ∧ c1 = c9 := by simpa using h9
      clear h9
      rw [hL.out, ← hL2.out]; refine wpOp_of_list' rfl ?_
      go_wp2_with fail
      exact hKK _ _ (fms_two hfz hfx haz hax (hOk2 _ hSB.size)) (below_box _ _)
    | 5, _, _, _ => exact absurd rfl h1
    | 6, _, _, _ => exact absurd rfl h2
    | k + 7, hi, _, _ => exact absurd hi (by omega)
  · intro i a W KK hi h1 h2 hs hsize hold hdep hnr _ _
    rw [hsz] at hi
    exfalso
    have : ∀ i, i < 7 → i ≠ 5 → i ≠ 6 → (reachL (opsAt Tryz.f68 34) 8 (depsOf (opsAt Tryz.f68 34) 5)).contains i = true := by
      intro i
      match i with
      | 0 => intro _ _ _; kernel_rfl
      | 1 => intro _ _ _; kernel_rfl
      | 2 => intro _ _ _; kernel_rfl
      | 3 => intro _ _ _; kernel_rfl
      | 4 => intro _ _ _; kernel_rfl
      | 5 => intro _ h _; omega
      | 6 => intro _ _ h; omega
      | k + 7 => intro h; omega
    rw [this i hi h1 h2] at hnr
    cases hnr
  · intro a W KK hS hKK
    rw [hfs] at hS
    obtain ⟨v116, h116, f116⟩ := hS.got 4 rfl (by kernel_rfl) d4
    have e116 := at_eval h116
    replace f116 : FArgsP (fun b => b < W.heap.size ∧ Ok b) W v116 [fTrue, x] := f116
    obtain ⟨o6, c6, rfl⟩ := f116.shape
    have hSB := hS.below
    rw [hL.out, ← hL2.out]; refine wpOp_of_list' rfl ?_
    go_wp2_with fail
    refine (reflate_any (fun b => b < W.heap.size ∧ Ok b) 16 0 _ [fTrue, x] W f116 (fun b hb => hb.1) (i64_of (by decide) (by decide)) (i64_of (by decide) (by decide))).mono ?_
    rintro e W2 ⟨r, rfl, hN', hb⟩
    rw [← hJ.out] at hN'
    go_wp2_with fail
    exact ⟨hSB.trans (hb.mono hSB.size), fm_got hN' hb fun b h => hOk2 b (Nat.le_trans hSB.size h)⟩
  · rintro a W KK v - hold hdep hda ⟨hBW, hJJ⟩ hKK
    have h4 := old_slot hold (e := 4) (by kernel_rfl) p4
    have e4 := at_eval h4
    have eda := at_eval hda
    obtain ⟨oj, cj, rfl, hfj, haj⟩ := FAtP.open hJJ
    have hres : Res5 W K := rK.below hBW
    obtain ⟨a1, a2, a3, a4, a5, ⟨z0, z1, z2, z3, z4⟩, y0, y1, y2, y3, y4⟩ := hres.cells
    rw [d6] at hKK
    have hset := hres.set (.int .i64 J.op) (.string J.name) (.int .i64 J.val) (.int .i64 J.bound) (.slice oj J.args.length cj)
    have hoth := fun b' (h : b' ≠ K) => set5_other W K b' h (.int .i64 J.op) (.string J.name) (.int .i64 J.val) (.int .i64 J.bound) (.slice oj J.args.length cj)
    have hzs := set5_size W K (.int .i64 J.op) (.string J.name) (.int .i64 J.val) (.int .i64 J.bound) (.slice oj J.args.length cj)
    have hBN := set5_below (hB0.trans (hBW.mono (by omega))) hN (.int .i64 J.op) (.string J.name) (.int .i64 J.val) (.int .i64 J.bound) (.slice oj J.args.length cj)
    generalize hWF : ((((W.setCell ⟨K, 0, none⟩ (.int .i64 J.op)).setCell ⟨K, 1, none⟩ (.string J.name)).setCell ⟨K, 2, none⟩ (.int .i64 J.val)).setCell ⟨K, 3, none⟩ (.int .i64 J.bound)).setCell ⟨K, 4, none⟩ (.slice oj J.args.length cj) = WF at *
    have hJ2 : FAtP (fun b => (P b ∨ W0.heap.size ≤ b) ∧ b < WF.heap.size) WF (.agg #[.int .i64 J.op, .string J.name, .int .i64 J.val, .int .i64 J.bound, .slice oj J.args.length cj]) J := by
      refine (FAtP.same (P := fun b => b < W.heap.size ∧ Ok b) ⟨_, rfl, hfj, haj⟩ fun b hb => hoth b (fun e => ?_)).mono fun b hb => ?_
      · subst e
        rw [hOk] at hb
        rcases hb.2 with h | h
        · exact (hPb _ h).1 rfl
        · omega
      · rw [hOk] at hb
        rw [hzs]
        exact ⟨hb.2, hb.1⟩
    have hfin := hidi (show ∃ o3 c3, Hid (WF.heap[K]? = some (.cells #[.int .i64 J.op, .string J.name, .int .i64 J.val, .int .i64 J.bound, .slice o3 J.args.length c3] 24 (0, 0))) ∧ FAtP (fun b => (P b ∨ W0.heap.size ≤ b) ∧ b < WF.heap.size) WF (.agg #[.int .i64 J.op, .string J.name, .int .i64 J.val, .int .i64 J.bound, .slice o3 J.args.length c3]) J ∧ Below N w WF from
      ⟨oj, cj, hset, hJ2, hBN⟩)
    have hKK' := hidi hKK
    have hWF' := hidi hWF
    clear hKK hJ2 hoth hset hzs hBN hJJ haj hWF hx hdep
    rw [hL.out, ← hL2.out]; refine wpOp_of_list' rfl ?_
    go_wp2_with fail
    have h9 := hKK'.out WF hfin.out
    rw [← hWF'.out] at h9
    exact h9
  · rintro x' W ⟨o3, c3, q1, q2, q3⟩
    have hl := hend x' W o3 c3 q1 q2 q3
    have hr : List.range (opsAt Tryz.f68 34).size = [0, 1, 2, 3, 4, 5, 6] := by rw [hsz]; rfl
    rw [hr]
    simp only [putL, d0, d1, d2, d3, d4, d5, d6, put_none3]
    exact hl
theorem ref_r35 {P : Nat → Prop} {x J : Fm} {K N gb go n uc c1 : Nat} {o1 : Option Addr}  (a0 : Act) (W0 w : World) (Q : Exit → Act → World → Prop) (hz : a0.tmps.size = 154) (p4 : a0.tmps[(4 : Nat)]? = some (.pointer (some ⟨K, 0, none⟩))) (p5 : a0.tmps[(5 : Nat)]? = some (.slice (some ⟨gb, go, none⟩) n uc))
    (hJ : Hid (J = Fm.mk 17 ⟨#[]⟩ 1 0 [fFalse, x])) (hn : 0 < n) (hK : K < W0.heap.size) (hN : N ≤ K) (hgb : gb < W0.heap.size) (hB0 : Below N w W0) (hPb : ∀ b, P b → b ≠ K ∧ b < W0.heap.size)
    (cx : Cells5 W0 gb go (.int .i64 x.op) (.string x.name) (.int .i64 x.val) (.int .i64 x.bound) (.slice o1 x.args.length c1)) (hx : FAtP P W0 (.agg #[.int .i64 x.op, .string x.name, .int .i64 x.val, .int .i64 x.bound, .slice o1 x.args.length c1]) x) (rK : Res5 W0 K)
    (hend : ∀ (x' : Nat → Value) (W : World) (o3 : Option Addr) (c3 : Nat), Hid (W.heap[K]? = some (.cells #[.int .i64 J.op, .string J.name, .int .i64 J.val, .int .i64 J.bound, .slice o3 J.args.length c3] 24 (0, 0))) → FAtP (fun b => (P b ∨ W0.heap.size ≤ b) ∧ b < W.heap.size) W (.agg #[.int .i64 J.op, .string J.name, .int .i64 J.val, .int .i64 J.bound, .slice o3 J.args.length c3]) J → Below N w W → Q .normal ((((((a0.put (some 118) (x' 0)).put (some 119) (x' 1)).put (some 120) (x' 2)).put (some 121) (x' 3)).put (some 122) (x' 4)).put (some 123) (x' 5)) W) :
    (Code.region 35 (opsAt Tryz.f68 35) true).wp Tryz.prog Q a0 W0 := by
  have d0 : dstOf (opsAt Tryz.f68 35) 0 = some 118 := by kernel_rfl
  have d1 : dstOf (opsAt Tryz.f68 35) 1 = some 119 := by kernel_rfl
  have d2 : dstOf (opsAt Tryz.f68 35) 2 = some 120 := by kernel_rfl
  have d3 : dstOf (opsAt Tryz.f68 35) 3 = some 121 := by kernel_rfl
  have d4 : dstOf (opsAt Tryz.f68 35) 4 = some 122 := by kernel_rfl
  have d5 : dstOf (opsAt Tryz.f68 35) 5 = some 123 := by kernel_rfl
  have d6 : dstOf (opsAt Tryz.f68 35) 6 = none := by kernel_rfl
  have hsz : (opsAt Tryz.f68 35).size = 7 := by kernel_rfl
  obtain ⟨L, hL⟩ : ∃ L, Hid ((opsAt Tryz.f68 35) = L) := ⟨_, hidi rfl⟩
  have hL2 := hL.out
  unfold opsAt Tryz.f68 at hL2
  simp only [findRegion, Nat.reduceBEq, if_true, if_false, Bool.false_eq_true, Option.getD_some] at hL2
  replace hL2 := hidi hL2
  obtain ⟨Ok, hOk⟩ : ∃ Ok : Nat → Prop, Ok = fun b => P b ∨ W0.heap.size ≤ b := ⟨_, rfl⟩
  have hOk1 : ∀ b, P b → Ok b := fun b h => by rw [hOk]; exact .inl h
  have hOk2 : ∀ b, W0.heap.size ≤ b → Ok b := fun b h => by rw [hOk]; exact .inr h
  have hPl : ∀ b, P b → b < W0.heap.size := fun b h => (hPb b h).2
  have hnI : (0 : Int) < (n : Int) := by omega
  obtain ⟨fs, hfs⟩ : ∃ fs : Nat → Fq, fs = (fun i => match i with
      | 0 => .fmF fFalse
      | 1 => .valF (.slice (some ⟨gb, go, none⟩) n uc)
      | 2 => .valF (.pointer (some ⟨gb, go, none⟩))
      | 3 => .valF (.agg #[.int .i64 x.op, .string x.name, .int .i64 x.val, .int .i64 x.bound, .slice o1 x.args.length c1])
      | 4 => .fmsF [fFalse, x]
      | _ => .free) := ⟨_, rfl⟩
  refine wp_region_tail (by kernel_rfl) (by kernel_rfl) (by kernel_rfl) (by rw [hz]; kernel_rfl) (by kernel_rfl) fs Ok 5 6 123 (by rw [hsz]; omega) (by rw [hsz]; omega) (by omega) d5 (by rw [hfs]; kernel_rfl) (by kernel_rfl)
    (fun v W => Below W0.heap.size W0 W ∧ (Fq.fmF J).holds Ok v W)
    (fun v W => ∃ o3 c3, Hid (W.heap[K]? = some (.cells #[.int .i64 J.op, .string J.name, .int .i64 J.val, .int .i64 J.bound, .slice o3 J.args.length c3] 24 (0, 0))) ∧ FAtP (fun b => (P b ∨ W0.heap.size ≤ b) ∧ b < W.heap.size) W (.agg #[.int .i64 J.op, .string J.name, .int .i64 J.val, .int .i64 J.bound, .slice o3 J.args.length c3]) J ∧ Below N w W) ?_ ?_ ?_ ?_ ?_ d6
  · intro i a W KK hi h1 h2 hS hKK
    rw [hsz] at hi
    rw [hfs] at hS hKK
    match i, hi, hS, hKK with
    | 0, _, hS, hKK =>
      rw [d0] at hKK
      have hSB := hS.below
      rw [hL.out, ← hL2.out]; refine wpOp_of_list' rfl ?_
      go_wp2_with fail
      refine (reffalse_any (fun b => b < W.heap.size ∧ Ok b) W).mono ?_
      rintro e W2 ⟨r, rfl, hN', hb⟩
      go_wp2_with fail
      exact hKK _ _ (fm_got hN' hb fun b h => hOk2 b (Nat.le_trans hSB.size h)) hb
    | 1, _, hS, hKK =>
      rw [d1] at hKK
      have h5 := hS.slot (e := 5) (by kernel_rfl) p5
      have e5 := at_eval h5
      rw [hL.out, ← hL2.out]; refine wpOp_of_list' rfl ?_
      go_wp2_with fail
      exact hKK _ _ rfl (Below.refl _ _)
    | 2, _, hS, hKK =>
      rw [d2] at hKK
      obtain ⟨v119, h119, f119⟩ := hS.got 1 rfl (by kernel_rfl) d1
      obtain rfl : v119 = .slice (some ⟨gb, go, none⟩) n uc := f119
      have e119 := at_eval h119
      rw [hL.out, ← hL2.out]; refine wpOp_of_list' rfl ?_
      go_wp2_with fail
      exact hKK _ _ rfl (Below.refl _ _)
    | 3, _, hS, hKK =>
      rw [d3] at hKK
      obtain ⟨v120, h120, f120⟩ := hS.got 2 rfl (by kernel_rfl) d2
      obtain rfl : v120 = .pointer (some ⟨gb, go, none⟩) := f120
      have e120 := at_eval h120
      obtain ⟨b0, b1, b2, b3, b4⟩ := cx.below hS.below hgb
      rw [hL.out, ← hL2.out]; refine wpOp_of_list' rfl ?_
      go_wp2_with fail
      exact hKK _ _ rfl (Below.refl _ _)
    | 4, _, hS, hKK =>
      rw [d4] at hKK
      obtain ⟨v118, h118, f118⟩ := hS.got 0 rfl (by kernel_rfl) d0
      have e118 := at_eval h118
      replace f118 : FAtP (fun b => b < W.heap.size ∧ Ok b) W v118 fFalse := f118
      obtain ⟨oz, cz, rfl, hfz, haz⟩ := f118.open
      obtain ⟨v121, h121, f121⟩ := hS.got 3 rfl (by kernel_rfl) d3
      obtain rfl : v121 = .agg #[.int .i64 x.op, .string x.name, .int .i64 x.val, .int .i64 x.bound, .slice o1 x.args.length c1] := f121
      have e121 := at_eval h121
      have hSB := hS.below
      have hxW : FAtP (fun b => b < W.heap.size ∧ Ok b) W (.agg #[.int .i64 x.op, .string x.name, .int .i64 x.val, .int .i64 x.bound, .slice o1 x.args.length c1]) x := (FAtP.kept hx hSB hPl).mono fun b hb => ⟨Nat.lt_of_lt_of_le (hPl b hb) hSB.size, hOk1 b hb⟩
      obtain ⟨o9, c9, h9, hfx, hax⟩ := FAtP.open hxW
      obtain ⟨rfl, rfl⟩ : o1 = o9 ∧ c1 = c9 := by simpa using h9
      clear h9
      rw [hL.out, ← hL2.out]; refine wpOp_of_list' rfl ?_
      go_wp2_with fail
      exact hKK _ _ (fms_two hfz hfx haz hax (hOk2 _ hSB.size)) (below_box _ _)
    | 5, _, _, _ => exact absurd rfl h1
    | 6, _, _, _ => exact absurd rfl h2
    | k + 7, hi, _, _ => exact absurd hi (by omega)
  · intro i a W KK hi h1 h2 hs hsize hold hdep hnr _ _
    rw [hsz] at hi
    exfalso
    have : ∀ i, i < 7 → i ≠ 5 → i ≠ 6 → (reachL (opsAt Tryz.f68 35) 8 (depsOf (opsAt Tryz.f68 35) 5)).contains i = true := by
      intro i
      match i with
      | 0 => intro _ _ _; kernel_rfl
      | 1 => intro _ _ _; kernel_rfl
      | 2 => intro _ _ _; kernel_rfl
      | 3 => intro _ _ _; kernel_rfl
      | 4 => intro _ _ _; kernel_rfl
      | 5 => intro _ h _; omega
      | 6 => intro _ _ h; omega
      | k + 7 => intro h; omega
    rw [this i hi h1 h2] at hnr
    cases hnr
  · intro a W KK hS hKK
    rw [hfs] at hS
    obtain ⟨v122, h122, f122⟩ := hS.got 4 rfl (by kernel_rfl) d4
    have e122 := at_eval h122
    replace f122 : FArgsP (fun b => b < W.heap.size ∧ Ok b) W v122 [fFalse, x] := f122
    obtain ⟨o6, c6, rfl⟩ := f122.shape
    have hSB := hS.below
    rw [hL.out, ← hL2.out]; refine wpOp_of_list' rfl ?_
    go_wp2_with fail
    refine (reflate_any (fun b => b < W.heap.size ∧ Ok b) 17 1 _ [fFalse, x] W f122 (fun b hb => hb.1) (i64_of (by decide) (by decide)) (i64_of (by decide) (by decide))).mono ?_
    rintro e W2 ⟨r, rfl, hN', hb⟩
    rw [← hJ.out] at hN'
    go_wp2_with fail
    exact ⟨hSB.trans (hb.mono hSB.size), fm_got hN' hb fun b h => hOk2 b (Nat.le_trans hSB.size h)⟩
  · rintro a W KK v - hold hdep hda ⟨hBW, hJJ⟩ hKK
    have h4 := old_slot hold (e := 4) (by kernel_rfl) p4
    have e4 := at_eval h4
    have eda := at_eval hda
    obtain ⟨oj, cj, rfl, hfj, haj⟩ := FAtP.open hJJ
    have hres : Res5 W K := rK.below hBW
    obtain ⟨a1, a2, a3, a4, a5, ⟨z0, z1, z2, z3, z4⟩, y0, y1, y2, y3, y4⟩ := hres.cells
    rw [d6] at hKK
    have hset := hres.set (.int .i64 J.op) (.string J.name) (.int .i64 J.val) (.int .i64 J.bound) (.slice oj J.args.length cj)
    have hoth := fun b' (h : b' ≠ K) => set5_other W K b' h (.int .i64 J.op) (.string J.name) (.int .i64 J.val) (.int .i64 J.bound) (.slice oj J.args.length cj)
    have hzs := set5_size W K (.int .i64 J.op) (.string J.name) (.int .i64 J.val) (.int .i64 J.bound) (.slice oj J.args.length cj)
    have hBN := set5_below (hB0.trans (hBW.mono (by omega))) hN (.int .i64 J.op) (.string J.name) (.int .i64 J.val) (.int .i64 J.bound) (.slice oj J.args.length cj)
    generalize hWF : ((((W.setCell ⟨K, 0, none⟩ (.int .i64 J.op)).setCell ⟨K, 1, none⟩ (.string J.name)).setCell ⟨K, 2, none⟩ (.int .i64 J.val)).setCell ⟨K, 3, none⟩ (.int .i64 J.bound)).setCell ⟨K, 4, none⟩ (.slice oj J.args.length cj) = WF at *
    have hJ2 : FAtP (fun b => (P b ∨ W0.heap.size ≤ b) ∧ b < WF.heap.size) WF (.agg #[.int .i64 J.op, .string J.name, .int .i64 J.val, .int .i64 J.bound, .slice oj J.args.length cj]) J := by
      refine (FAtP.same (P := fun b => b < W.heap.size ∧ Ok b) ⟨_, rfl, hfj, haj⟩ fun b hb => hoth b (fun e => ?_)).mono fun b hb => ?_
      · subst e
        rw [hOk] at hb
        rcases hb.2 with h | h
        · exact (hPb _ h).1 rfl
        · omega
      · rw [hOk] at hb
        rw [hzs]
        exact ⟨hb.2, hb.1⟩
    have hfin := hidi (show ∃ o3 c3, Hid (WF.heap[K]? = some (.cells #[.int .i64 J.op, .string J.name, .int .i64 J.val, .int .i64 J.bound, .slice o3 J.args.length c3] 24 (0, 0))) ∧ FAtP (fun b => (P b ∨ W0.heap.size ≤ b) ∧ b < WF.heap.size) WF (.agg #[.int .i64 J.op, .string J.name, .int .i64 J.val, .int .i64 J.bound, .slice o3 J.args.length c3]) J ∧ Below N w WF from
      ⟨oj, cj, hset, hJ2, hBN⟩)
    have hKK' := hidi hKK
    have hWF' := hidi hWF
    clear hKK hJ2 hoth hset hzs hBN hJJ haj hWF hx hdep
    rw [hL.out, ← hL2.out]; refine wpOp_of_list' rfl ?_
    go_wp2_with fail
    have h9 := hKK'.out WF hfin.out
    rw [← hWF'.out] at h9
    exact h9
  · rintro x' W ⟨o3, c3, q1, q2, q3⟩
    have hl := hend x' W o3 c3 q1 q2 q3
    have hr : List.range (opsAt Tryz.f68 35).size = [0, 1, 2, 3, 4, 5, 6] := by rw [hsz]; rfl
    rw [hr]
    simp only [putL, d0, d1, d2, d3, d4, d5, d6, put_none3]
    exact hl

end Go.Proofs.YtbnnjbfbifihaaaGreatDoor
