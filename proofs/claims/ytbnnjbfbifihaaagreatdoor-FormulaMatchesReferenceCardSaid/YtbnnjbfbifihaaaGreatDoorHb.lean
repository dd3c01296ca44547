/-
  Contracts that FormulaMatchesReference stands on, part Hb.
-/
import Derived.Test.YtbnnjbfbifihaaaGreatDoorGb
import Derived.Test.YtbnnjbfbifihaaaGreatDoorGe
import Derived.Test.YtbnnjbfbifihaaaGreatDoorH0
import Derived.Test.YtbnnjbfbifihaaaGreatDoorFmG
import Derived.Test.YtbnnjbfbifihaaaGreatDoorHa
namespace Go.Proofs.YtbnnjbfbifihaaaGreatDoor
open Go.RowKit
set_option maxRecDepth 100000
set_option maxHeartbeats 80000000

def dualI (o : Int) : Int := if o == 1 then 2 else if o == 2 then 1 else if o == 5 then 6 else if o == 6 then 5 else if o == 9 then 10 else if o == 10 then 9 else if o == 16 then 17 else if o == 17 then 16 else o
theorem refdual_any (o : Int) (w : World) :
    Calls Tryz.prog 96 #[.int .i64 o] w fun e w' => e = .returned (.int .i64 (dualI o)) ∧ w' = w := by
  go_enter Tryz.func96, Tryz.ntmps96
  go_wp2
  all_goals go_ret
  all_goals exact ⟨ret_int (by unfold dualI; simp [*]), rfl⟩

def checkedF (f : Fm) : Fm := if looseB f then f else zeroF
theorem refchecked_any (P : Nat → Prop) (v : Value) (f : Fm) (w : World) (hv : FAtP P w v f) (hP : ∀ b, P b → b < w.heap.size) :
    Calls Tryz.prog 69 #[v] w fun e w' => ∃ r, e = .returned r ∧ FAtP (NewP P w w') w' r (checkedF f) ∧ Below w.heap.size w w' := by
  obtain ⟨o, c, rfl, hfit, hA⟩ := hv.open
  obtain ⟨W0, hW0, hB0, hc, hc2, hlt⟩ := fm2_open w (.int .i64 f.op) (.string f.name) (.int .i64 f.val) (.int .i64 f.bound) (.slice o f.args.length c) (.int .i64 0) (.string ⟨#[]⟩) (.int .i64 0) (.int .i64 0) (.slice none 0 0)
  have hres : Hid (Res5 W0 (w.heap.size + 1)) := by
    have h2 := heap_alloc_new (w.alloc (.cells #[.int .i64 f.op, .string f.name, .int .i64 f.val, .int .i64 f.bound, .slice o f.args.length c] 24)) (.cells #[.int .i64 0, .string ⟨#[]⟩, .int .i64 0, .int .i64 0, .slice none 0 0] 24)
    rw [show (w.alloc (.cells #[.int .i64 f.op, .string f.name, .int .i64 f.val, .int .i64 f.bound, .slice o f.args.length c] 24)).heap.size = w.heap.size + 1 by simp] at h2
    rw [hW0.out] at h2
    exact ⟨_, _, _, _, _, h2⟩
  have hPR : ∀ b, P b → b ≠ w.heap.size + 1 := fun b h => by have := hP b h; omega
  have hF0 : FAt w.heap.size W0 _ f := (hv.kept hB0 hP).mono hP
  obtain ⟨d0, d1, d2, d3, d4⟩ := hc.out
  rw [Nat.zero_add] at d1 d2 d3 d4
  cases q : looseB f
  · rw [show checkedF f = zeroF by unfold checkedF; rw [q]; rfl]
    go_enter Tryz.func69, Tryz.ntmps69
    go_wp2_with fail
    rw [hW0.out]
    go_wp2_with (go_at_call 41; refine (refloose_any f w.heap.size _ _ hF0 hB0.size).mono ?_; rintro e w1 ⟨rfl, hb1⟩; rw [q]; clear d0 d1 d2 d3 d4; obtain ⟨d0, d1, d2, d3, d4⟩ := hc.out.later hb1 (by omega); rw [Nat.zero_add] at d1 d2 d3 d4; have hr1 := hidi (hres.out.below hb1); obtain ⟨a1, a2, a3, a4, a5, ⟨z0, z1, z2, z3, z4⟩, y0, y1, y2, y3, y4⟩ := hr1.out.cells)
    (try simp only [Exit.inBlock, Exit.then])
    refine bodyPost_ret (results_cell_row rfl _ _ (w.heap.size + 1) 24 _ (0, 0) _ rfl (hr1.out.set _ _ _ _ _) Tryz.underlying24 rfl fmSize) rfl ?_
    have hAB := hB0.trans (hb1.mono hB0.size)
    refine ⟨_, rfl, fm_put (Nat.le_succ _) hAB (.mk i64_0 size_0 i64_0 i64_0 (.nil _ _)) hPR (fun b h => .inl h) _ _ _ _ _⟩
  · rw [show checkedF f = f by unfold checkedF; rw [q]; rfl]
    go_enter Tryz.func69, Tryz.ntmps69
    go_wp2_with fail
    rw [hW0.out]
    go_wp2_with (go_at_call 41; refine (refloose_any f w.heap.size _ _ hF0 hB0.size).mono ?_; rintro e w1 ⟨rfl, hb1⟩; rw [q]; clear d0 d1 d2 d3 d4; obtain ⟨d0, d1, d2, d3, d4⟩ := hc.out.later hb1 (by omega); rw [Nat.zero_add] at d1 d2 d3 d4; have hr1 := hidi (hres.out.below hb1); obtain ⟨a1, a2, a3, a4, a5, ⟨z0, z1, z2, z3, z4⟩, y0, y1, y2, y3, y4⟩ := hr1.out.cells)
    (try simp only [Exit.inBlock, Exit.then])
    refine bodyPost_ret (results_cell_row rfl _ _ (w.heap.size + 1) 24 _ (0, 0) _ rfl (hr1.out.set _ _ _ _ _) Tryz.underlying24 rfl fmSize) rfl ?_
    have hAB := hB0.trans (hb1.mono hB0.size)
    refine ⟨_, rfl, fm_put (Nat.le_succ _) hAB (hv.kept hAB hP) hPR (fun b h => .inl h) _ _ _ _ _⟩
theorem put_none3 (a : Act) (v : Value) : a.put none v = a := rfl
theorem rep_r5 {P : Nat → Prop} {f g : Fm} {A K N base c1 c2 : Nat} {o1 o2 : Option Addr} {op : Int} (a0 : Act) (W0 w : World) (Q : Exit → Act → World → Prop) (hz : a0.tmps.size = 21) (p0 : a0.tmps[(0 : Nat)]? = some (.int .i64 op)) (p5 : a0.tmps[(5 : Nat)]? = some (.pointer (some ⟨A, 0, none⟩))) (p7 : a0.tmps[(7 : Nat)]? = some (.pointer (some ⟨K, 0, none⟩)))
    (hA : A < base) (hK : K < base) (hN : N ≤ K) (hbase : base ≤ W0.heap.size) (hB0 : Below N w W0) (hop : I64 op) (hPb : ∀ b, P b → b < N)
    (cA : Cells5 W0 A 0 (.int .i64 f.op) (.string f.name) (.int .i64 f.val) (.int .i64 f.bound) (.slice o1 f.args.length c1)) (hf : FAtP P W0 (.agg #[.int .i64 f.op, .string f.name, .int .i64 f.val, .int .i64 f.bound, .slice o1 f.args.length c1]) f)
    (rK : Hid (W0.heap[K]? = some (.cells #[.int .i64 g.op, .string g.name, .int .i64 g.val, .int .i64 g.bound, .slice o2 g.args.length c2] 24 (0, 0)))) (hg : FAtP (fun b => P b ∨ (base ≤ b ∧ b < W0.heap.size)) W0 (.agg #[.int .i64 g.op, .string g.name, .int .i64 g.val, .int .i64 g.bound, .slice o2 g.args.length c2]) g)
    (hend : ∀ (x' : Nat → Value) (W : World) (o3 : Option Addr) (c3 : Nat), Hid (W.heap[K]? = some (.cells #[.int .i64 op, .string ⟨#[]⟩, .int .i64 0, .int .i64 0, .slice o3 2 c3] 24 (0, 0))) → FAtP (fun b => P b ∨ (base ≤ b ∧ b < W.heap.size)) W (.agg #[.int .i64 op, .string ⟨#[]⟩, .int .i64 0, .int .i64 0, .slice o3 2 c3]) (Fm.mk op ⟨#[]⟩ 0 0 [f, Fm.mk 8 ⟨#[]⟩ 0 0 [g]]) → (∀ b', b' < base → b' ≠ K → W.heap[b']? = W0.heap[b']?) → Below N w W → base ≤ W.heap.size → Q .normal (((((a0.put (some 15) (x' 0)).put (some 16) (x' 1)).put (some 17) (x' 2)).put (some 18) (x' 3)).put (some 19) (x' 4)) W) :
    (Code.region 5 (opsAt Tryz.f95 5) true).wp Tryz.prog Q a0 W0 := by
  have d0 : dstOf (opsAt Tryz.f95 5) 0 = some 15 := by kernel_rfl
  have d1 : dstOf (opsAt Tryz.f95 5) 1 = some 16 := by kernel_rfl
  have d2 : dstOf (opsAt Tryz.f95 5) 2 = some 17 := by kernel_rfl
  have d3 : dstOf (opsAt Tryz.f95 5) 3 = some 18 := by kernel_rfl
  have d4 : dstOf (opsAt Tryz.f95 5) 4 = some 19 := by kernel_rfl
  have d5 : dstOf (opsAt Tryz.f95 5) 5 = none := by kernel_rfl
  have hsz : (opsAt Tryz.f95 5).size = 6 := by kernel_rfl
  obtain ⟨L, hL⟩ : ∃ L, Hid ((opsAt Tryz.f95 5) = L) := ⟨_, hidi rfl⟩
  have hL2 := hL.out
  unfold opsAt Tryz.f95 at hL2
  simp only [findRegion, Nat.reduceBEq, if_true, if_false, Bool.false_eq_true, Option.getD_some] at hL2
  replace hL2 := hidi hL2
  obtain ⟨Ok, hOk⟩ : ∃ Ok : Nat → Prop, Ok = fun b => P b ∨ base ≤ b := ⟨_, rfl⟩
  have hOk1 : ∀ b, P b → Ok b := fun b h => by rw [hOk]; exact .inl h
  have hOk2 : ∀ b, base ≤ b → Ok b := fun b h => by rw [hOk]; exact .inr h
  have hAl : A < W0.heap.size := Nat.lt_of_lt_of_le hA hbase
  have hKl : K < W0.heap.size := Nat.lt_of_lt_of_le hK hbase
  have hPl : ∀ b, P b → b < W0.heap.size := fun b h => by have := hPb b h; omega
  have q0 := cell_of_row W0 K 0 _ _ _ rK.out
  have q1 := cell_of_row W0 K 1 _ _ _ rK.out
  have q2 := cell_of_row W0 K 2 _ _ _ rK.out
  have q3 := cell_of_row W0 K 3 _ _ _ rK.out
  have q4 := cell_of_row W0 K 4 _ _ _ rK.out
  have cK : Cells5 W0 K 0 (.int .i64 g.op) (.string g.name) (.int .i64 g.val) (.int .i64 g.bound) (.slice o2 g.args.length c2) := ⟨q0, q1, q2, q3, q4⟩
  clear q0 q1 q2 q3 q4
  obtain ⟨fs, hfs⟩ : ∃ fs : Nat → Fq, fs = (fun i => match i with
      | 0 => .valF (.int .i64 op)
      | 1 => .valF (.agg #[.int .i64 f.op, .string f.name, .int .i64 f.val, .int .i64 f.bound, .slice o1 f.args.length c1])
      | 2 => .valF (.agg #[.int .i64 g.op, .string g.name, .int .i64 g.val, .int .i64 g.bound, .slice o2 g.args.length c2])
      | 3 => .fmF (Fm.mk 8 ⟨#[]⟩ 0 0 [g])
      | _ => .free) := ⟨_, rfl⟩
  refine wp_region_tail (by kernel_rfl) (by kernel_rfl) (by kernel_rfl) (by rw [hz]; kernel_rfl) (by kernel_rfl) fs Ok 4 5 19 (by rw [hsz]; omega) (by rw [hsz]; omega) (by omega) d4 (by rw [hfs]; kernel_rfl) (by kernel_rfl)
    (fun v W => Below W0.heap.size W0 W ∧ (Fq.fmF (Fm.mk op ⟨#[]⟩ 0 0 [f, Fm.mk 8 ⟨#[]⟩ 0 0 [g]])).holds Ok v W)
    (fun v W => ∃ o3 c3, Hid (W.heap[K]? = some (.cells #[.int .i64 op, .string ⟨#[]⟩, .int .i64 0, .int .i64 0, .slice o3 2 c3] 24 (0, 0))) ∧ FAtP (fun b => P b ∨ (base ≤ b ∧ b < W.heap.size)) W (.agg #[.int .i64 op, .string ⟨#[]⟩, .int .i64 0, .int .i64 0, .slice o3 2 c3]) (Fm.mk op ⟨#[]⟩ 0 0 [f, Fm.mk 8 ⟨#[]⟩ 0 0 [g]]) ∧ (∀ b', b' < base → b' ≠ K → W.heap[b']? = W0.heap[b']?) ∧ Below N w W ∧ base ≤ W.heap.size) ?_ ?_ ?_ ?_ ?_ d5
  · intro i a W KK hi h1 h2 hS hKK
    rw [hsz] at hi
    rw [hfs] at hS hKK
    match i, hi, hS, hKK with
    | 0, _, hS, hKK =>
      rw [d0] at hKK
      have h0 := hS.slot (e := 0) (by kernel_rfl) p0
      have e0 := at_eval h0
      rw [hL.out, ← hL2.out]; refine wpOp_of_list' rfl ?_
      go_wp2_with fail
      exact hKK _ _ rfl (Below.refl _ _)
    | 1, _, hS, hKK =>
      rw [d1] at hKK
      have h5 := hS.slot (e := 5) (by kernel_rfl) p5
      have e5 := at_eval h5
      obtain ⟨b0, b1, b2, b3, b4⟩ := cA.below hS.below hAl
      rw [Nat.zero_add] at b1 b2 b3 b4
      rw [hL.out, ← hL2.out]; refine wpOp_of_list' rfl ?_
      go_wp2_with fail
      exact hKK _ _ rfl (Below.refl _ _)
    | 2, _, hS, hKK =>
      rw [d2] at hKK
      have h7 := hS.slot (e := 7) (by kernel_rfl) p7
      have e7 := at_eval h7
      obtain ⟨b0, b1, b2, b3, b4⟩ := cK.below hS.below hKl
      rw [Nat.zero_add] at b1 b2 b3 b4
      rw [hL.out, ← hL2.out]; refine wpOp_of_list' rfl ?_
      go_wp2_with fail
      exact hKK _ _ rfl (Below.refl _ _)
    | 3, _, hS, hKK =>
      rw [d3] at hKK
      obtain ⟨v17, h17, f17⟩ := hS.got 2 rfl (by kernel_rfl) d2
      obtain rfl : v17 = .agg #[.int .i64 g.op, .string g.name, .int .i64 g.val, .int .i64 g.bound, .slice o2 g.args.length c2] := f17
      have e17 := at_eval h17
      have hSB := hS.below
      have hgW : FAtP (fun b => b < W.heap.size ∧ Ok b) W (.agg #[.int .i64 g.op, .string g.name, .int .i64 g.val, .int .i64 g.bound, .slice o2 g.args.length c2]) g := (FAtP.kept hg hSB fun b hb => hb.elim (hPl b) fun h => h.2).mono fun b hb => ⟨Nat.lt_of_lt_of_le (hb.elim (hPl b) fun h => h.2) hSB.size, hb.elim (hOk1 b) fun h => hOk2 b h.1⟩
      rw [hL.out, ← hL2.out]; refine wpOp_of_list' rfl ?_
      go_wp2_with fail
      refine (refone_any (fun b => b < W.heap.size ∧ Ok b) 8 _ g W hgW (fun b hb => hb.1) ⟨by decide, by decide⟩).mono ?_
      rintro e W2 ⟨r, rfl, hN', hb⟩
      go_wp2_with fail
      exact hKK _ _ (fm_got hN' hb fun b h => hOk2 b (Nat.le_trans hbase (Nat.le_trans hSB.size h))) hb
    | 4, _, _, _ => exact absurd rfl h1
    | 5, _, _, _ => exact absurd rfl h2
    | k + 6, hi, _, _ => exact absurd hi (by omega)
  · intro i a W KK hi h1 h2 hs hsize hold hdep hnr _ _
    rw [hsz] at hi
    exfalso
    have : ∀ i, i < 6 → i ≠ 4 → i ≠ 5 → (reachL (opsAt Tryz.f95 5) 8 (depsOf (opsAt Tryz.f95 5) 4)).contains i = true := by
      intro i
      match i with
      | 0 => intro _ _ _; kernel_rfl
      | 1 => intro _ _ _; kernel_rfl
      | 2 => intro _ _ _; kernel_rfl
      | 3 => intro _ _ _; kernel_rfl
      | 4 => intro _ h _; omega
      | 5 => intro _ _ h; omega
      | k + 6 => intro h; omega
    rw [this i hi h1 h2] at hnr
    cases hnr
  · intro a W KK hS hKK
    rw [hfs] at hS
    obtain ⟨v15, h15, f15⟩ := hS.got 0 rfl (by kernel_rfl) d0
    obtain rfl : v15 = .int .i64 op := f15
    have e15 := at_eval h15
    obtain ⟨v16, h16, f16⟩ := hS.got 1 rfl (by kernel_rfl) d1
    obtain rfl : v16 = .agg #[.int .i64 f.op, .string f.name, .int .i64 f.val, .int .i64 f.bound, .slice o1 f.args.length c1] := f16
    have e16 := at_eval h16
    obtain ⟨v18, h18, f18⟩ := hS.got 3 rfl (by kernel_rfl) d3
    have e18 := at_eval h18
    replace f18 : FAtP (fun b => b < W.heap.size ∧ Ok b) W v18 (Fm.mk 8 ⟨#[]⟩ 0 0 [g]) := f18
    have hSB := hS.below
    have hfW : FAtP (fun b => b < W.heap.size ∧ Ok b) W (.agg #[.int .i64 f.op, .string f.name, .int .i64 f.val, .int .i64 f.bound, .slice o1 f.args.length c1]) f := (FAtP.kept hf hSB hPl).mono fun b hb => ⟨Nat.lt_of_lt_of_le (hPl b hb) hSB.size, hOk1 b hb⟩
    rw [hL.out, ← hL2.out]; refine wpOp_of_list' rfl ?_
    go_wp2_with fail
    refine (reftwo_any (fun b => b < W.heap.size ∧ Ok b) op _ _ f (Fm.mk 8 ⟨#[]⟩ 0 0 [g]) W hfW f18 (fun b hb => hb.1) hop).mono ?_
    rintro e W2 ⟨r, rfl, hN', hb⟩
    go_wp2_with fail
    exact ⟨hSB.trans (hb.mono hSB.size), fm_got hN' hb fun b h => hOk2 b (Nat.le_trans hbase (Nat.le_trans hSB.size h))⟩
  · rintro a W KK v - hold hdep hda ⟨hBW, hJ⟩ hKK
    have h7 := old_slot hold (e := 7) (by kernel_rfl) p7
    have e7 := at_eval h7
    have e19 := at_eval hda
    obtain ⟨oj, cj, rfl, hfj, haj⟩ := FAtP.open hJ
    have hrow := (hBW.block K hKl).trans rK.out
    have hres : Res5 W K := ⟨_, _, _, _, _, hrow⟩
    obtain ⟨a1, a2, a3, a4, a5, ⟨z0, z1, z2, z3, z4⟩, y0, y1, y2, y3, y4⟩ := hres.cells
    rw [d5] at hKK
    have hset := hres.set (.int .i64 op) (.string ⟨#[]⟩) (.int .i64 0) (.int .i64 0) (.slice oj 2 cj)
    have hoth := fun b' (h : b' ≠ K) => set5_other W K b' h (.int .i64 op) (.string ⟨#[]⟩) (.int .i64 0) (.int .i64 0) (.slice oj 2 cj)
    have hzs := set5_size W K (.int .i64 op) (.string ⟨#[]⟩) (.int .i64 0) (.int .i64 0) (.slice oj 2 cj)
    have hBN := set5_below (hB0.trans (hBW.mono (by omega))) hN (.int .i64 op) (.string ⟨#[]⟩) (.int .i64 0) (.int .i64 0) (.slice oj 2 cj)
    generalize hWF : ((((W.setCell ⟨K, 0, none⟩ (.int .i64 op)).setCell ⟨K, 1, none⟩ (.string ⟨#[]⟩)).setCell ⟨K, 2, none⟩ (.int .i64 0)).setCell ⟨K, 3, none⟩ (.int .i64 0)).setCell ⟨K, 4, none⟩ (.slice oj 2 cj) = WF at *
    have hJ2 : FAtP (fun b => P b ∨ (base ≤ b ∧ b < WF.heap.size)) WF (.agg #[.int .i64 op, .string ⟨#[]⟩, .int .i64 0, .int .i64 0, .slice oj 2 cj]) (Fm.mk op ⟨#[]⟩ 0 0 [f, Fm.mk 8 ⟨#[]⟩ 0 0 [g]]) := by
      refine (FAtP.same (P := fun b => b < W.heap.size ∧ Ok b) ⟨_, rfl, hfj, haj⟩ fun b hb => hoth b (fun e => ?_)).mono fun b hb => ?_
      · subst e
        rw [hOk] at hb
        rcases hb.2 with h | h
        · have := hPb _ h; omega
        · omega
      · rw [hOk] at hb
        rw [hzs]
        exact hb.2.imp id fun h => ⟨h, hb.1⟩
    have hfin := hidi (show ∃ o3 c3, Hid (WF.heap[K]? = some (.cells #[.int .i64 op, .string ⟨#[]⟩, .int .i64 0, .int .i64 0, .slice o3 2 c3] 24 (0, 0))) ∧ FAtP (fun b => P b ∨ (base ≤ b ∧ b < WF.heap.size)) WF (.agg #[.int .i64 op, .string ⟨#[]⟩, .int .i64 0, .int .i64 0, .slice o3 2 c3]) (Fm.mk op ⟨#[]⟩ 0 0 [f, Fm.mk 8 ⟨#[]⟩ 0 0 [g]]) ∧ (∀ b', b' < base → b' ≠ K → WF.heap[b']? = W0.heap[b']?) ∧ Below N w WF ∧ base ≤ WF.heap.size from
      ⟨oj, cj, hset, hJ2, fun b' h1 h2 => (hoth b' h2).trans (hBW.block b' (by omega)), hBN, by rw [hzs]; exact Nat.le_trans hbase hBW.size⟩)
    have hKK' := hidi hKK
    have hWF' := hidi hWF
    clear hKK hJ2 hoth hset hzs hBN hJ haj hWF hf hg hdep
    rw [hL.out, ← hL2.out]; refine wpOp_of_list' rfl ?_
    go_wp2_with fail
    have h9 := hKK'.out WF hfin.out
    rw [← hWF'.out] at h9
    exact h9
  · rintro x' W ⟨o3, c3, q1, q2, q3, q4, q5⟩
    have hl := hend x' W o3 c3 q1 q2 q3 q4 q5
    have hr : List.range (opsAt Tryz.f95 5).size = [0, 1, 2, 3, 4, 5] := by rw [hsz]; rfl
    rw [hr]
    simp only [putL, d0, d1, d2, d3, d4, d5, put_none3]
    exact hl
theorem ret2 {a b c d : Int} (h1 : a = c) (h2 : b = d) : Ending.returned (.tuple #[.int .i64 a, .int .i64 b]) = Ending.returned (.tuple #[.int .i64 c, .int .i64 d]) := by rw [h1, h2]
def ExtOk (f : Fm) : Prop := ∀ (neg : Bool) (B : Nat) (v : Value) (w : World), FAt B w v f → B ≤ w.heap.size →
  Calls Tryz.prog 67 #[v, .bool neg] w fun e w' => e = .returned (.tuple #[.int .i64 ((extF f neg).1 : Int), .int .i64 ((extF f neg).2 : Int)]) ∧ Below w.heap.size w w'
theorem ext_is (f : Fm) (b3 : (f.op == 3) = true) (_ : (f.op == 4) = false) (_ : (f.op == 7) = false) (_ : (f.op == 11) = false) (_ : (f.op == 12) = false) (_ : (f.op == 13) = false) (_ : (f.op == 14) = false) (_ : (f.op == 18) = false) (_ : (f.op == 19) = false) (_ : Hid (∀ g ∈ f.args, ExtOk g)) (_ : Hid (∀ g ∈ f.args, nodesB g = true)) (_ : 0 ≤ f.bound) (_ : f.bound ≤ 9) (_ : Hid (f.nodes ≤ 1000)) (B : Nat) (v : Value) (w : World) (hv : FAt B w v f) (hBw : B ≤ w.heap.size) :
    Calls Tryz.prog 67 #[v, .bool true] w fun e w' => e = .returned (.tuple #[.int .i64 ((extF f true).1 : Int), .int .i64 ((extF f true).2 : Int)]) ∧ Below w.heap.size w w' := by
  obtain ⟨o, c, rfl, -, hA⟩ := hv.open
  have hA' := hA.mono hBw
  have hlen := hA.len
  obtain ⟨W0, hW0, hB0, hc, hlt⟩ := fm_open w (.int .i64 f.op) (.string f.name) (.int .i64 f.val) (.int .i64 f.bound) (.slice o f.args.length c)
  obtain ⟨d0, d1, d2, d3, d4⟩ := hc.out
  rw [Nat.zero_add] at d1 d2 d3 d4
  have hE : Hid (extF f true = (2, 2)) := hidi (by rw [extF_eq, if_pos ⟨eq_of_beq b3, rfl⟩])
  go_enter Tryz.func67, Tryz.ntmps67
  go_wp2_with fail
  rw [hW0.out]
  go_ret2
  exact ⟨by rw [hE.out]; rfl, hB0⟩
theorem ext_isn (f : Fm) (b3 : (f.op == 3) = true) (b4 : (f.op == 4) = false) (b7 : (f.op == 7) = false) (b11 : (f.op == 11) = false) (b12 : (f.op == 12) = false) (b13 : (f.op == 13) = false) (b14 : (f.op == 14) = false) (b18 : (f.op == 18) = false) (b19 : (f.op == 19) = false) (ih : Hid (∀ g ∈ f.args, ExtOk g)) (hb : Hid (∀ g ∈ f.args, nodesB g = true)) (_ : 0 ≤ f.bound) (_ : f.bound ≤ 9) (hn : Hid (f.nodes ≤ 1000)) (B : Nat) (v : Value) (w : World) (hv : FAt B w v f) (hBw : B ≤ w.heap.size) :
    Calls Tryz.prog 67 #[v, .bool false] w fun e w' => e = .returned (.tuple #[.int .i64 ((extF f false).1 : Int), .int .i64 ((extF f false).2 : Int)]) ∧ Below w.heap.size w w' := by
  obtain ⟨o, c, rfl, -, hA⟩ := hv.open
  have hA' := hA.mono hBw
  have hlen := hA.len
  obtain ⟨W0, hW0, hB0, hc, hlt⟩ := fm_open w (.int .i64 f.op) (.string f.name) (.int .i64 f.val) (.int .i64 f.bound) (.slice o f.args.length c)
  obtain ⟨d0, d1, d2, d3, d4⟩ := hc.out
  rw [Nat.zero_add] at d1 d2 d3 d4
  have hnl : Hid (Fm.nodesL f.args ≤ 1000) := hidi (by have := hn.out; rw [f.nodes_eq] at this; omega)
  have hE : Hid (extF f false = extN f.op f.bound.toNat (1 + (extL f.args false false).1) ((extL f.args false false).2 + 1)) := hidi (by
    rw [extF_eq, if_neg (by rintro ⟨h, h2⟩; first | (cases h2; done) | (rw [h] at b3; cases b3)), b4, b7]
    rfl)
  go_enter Tryz.func67, Tryz.ntmps67
  go_wp2_with fail
  rw [hW0.out]
  go_loopw [6, 7, 8] (fun s d i wr => ∃ k : Nat, k ≤ f.args.length ∧ s = .int .i64 ((1 + (extL (f.args.take k) false false).1 : Nat) : Int) ∧ d = .int .i64 (((extL (f.args.take k) false false).2 : Nat) : Int) ∧ i = .int .i64 (k : Int) ∧ Below W0.heap.size W0 wr) (fun _ _ i _ => f.args.length - (intOf i).toNat)
  case atStart => exact ⟨0, Nat.zero_le _, by simp [extL_nil], by simp [extL_nil], rfl, Below.refl _ _⟩
  case round =>
    clear d0 d1 d2 d3 d4
    obtain ⟨k, hk, rfl, rfl, rfl, hB⟩ := hrel
    obtain ⟨d0, d1, d2, d3, d4⟩ := hc.out.later hB hlt
    rw [Nat.zero_add] at d1 d2 d3 d4
    have hW := hB0.trans (hB.mono hB0.size)
    have hl1 := extL_sum (f.args.take k) (fun x hx => hb.out x (List.mem_of_mem_take hx)) false false
    have hl2 := extL_depth (f.args.take k) (fun x hx => hb.out x (List.mem_of_mem_take hx)) false false
    rw [List.length_take, Nat.min_eq_left hk] at hl1
    have hl3 := Fm.nodesL_take_le f.args k
    have hl4 := hnl.out
    have hl5 := Fm.length_le_nodes f.args
    by_cases hlt2 : k < f.args.length
    · skip
      obtain ⟨b, off, rfl, hbb, hat⟩ := hA'.at (by omega)
      obtain ⟨sl, hc5, hF⟩ := hat k hlt2
      obtain ⟨e0, e1, e2, e3, e4⟩ := hc5.below hW hbb
      have hS := hidi (extL_take hlt2 false false)
      have ihk := ih.out _ (List.getElem_mem hlt2)
      have hbk := ext_bounds _ (hb.out _ (List.getElem_mem hlt2)) false
      have hnk := Fm.nodes_get hlt2
      have j1 : (0 : Int) ≤ k := by omega
      have j2 : (k : Int) < f.args.length := by omega
      rw [ite_self] at hS
      generalize f.args[k] = g at *
      have ihk2 := ihk false w.heap.size (fval g sl) _ (hF.kept hW (Nat.le_refl _)) hW.size
      generalize extF g false = ex at *
      generalize extL (List.take k f.args) false false = el at *
      go_wp2_with fail
      refine ihk2.mono ?_
      rintro e w1 ⟨rfl, hb1⟩
      replace hB := hB.trans (hb1.mono hB.size)
      clear d0 d1 d2 d3 d4 e0 e1 e2 e3 e4
      go_wp2_with fail
      go_roundw
      case rel => exact ⟨k + 1, by omega, by rw [hS.out]; go_num, by rw [hS.out]; go_num, by go_num, hB⟩
      case measure => simp [intOf]; omega
    · obtain rfl : k = f.args.length := by omega
      rw [List.take_length] at hl1 hl2
      rw [List.take_length]
      have hfin : Hid (extF f false = (min (1 + (extL f.args false false).1) 1000, (extL f.args false false).2 + 1)) := hidi (by
        rw [hE.out]; unfold extN
        have m3 := eq_of_beq b3
        have m4 := ne_of_beq_false b4
        have m7 := ne_of_beq_false b7
        have m11 := ne_of_beq_false b11
        have m12 := ne_of_beq_false b12
        have m13 := ne_of_beq_false b13
        have m14 := ne_of_beq_false b14
        have m18 := ne_of_beq_false b18
        have m19 := ne_of_beq_false b19
        rw [if_neg m4, if_neg (by omega), if_neg (by omega)])
      generalize extL f.args false false = el at *
      go_wp2_with fail
      all_goals (go_ret2; refine ⟨ret2 ?_ ?_, hW⟩)
      all_goals (rw [hfin.out]; first | (push_cast; omega) | (simp; omega) | omega)
theorem ext_ops {a K : Int} (h : a = K) : (a == 3) = (K == 3) ∧ (a == 4) = (K == 4) ∧ (a == 7) = (K == 7) ∧ (a == 11) = (K == 11) ∧ (a == 12) = (K == 12) ∧ (a == 13) = (K == 13) ∧ (a == 14) = (K == 14) ∧ (a == 18) = (K == 18) ∧ (a == 19) = (K == 19) := by
  subst h; exact ⟨rfl, rfl, rfl, rfl, rfl, rfl, rfl, rfl, rfl⟩
theorem ext_w (f : Fm) (o3 : ¬ f.op = 3) (ih : Hid (∀ g ∈ f.args, ExtOk g)) (hb : Hid (∀ g ∈ f.args, nodesB g = true)) (hbd : 0 ≤ f.bound) (hbd2 : f.bound ≤ 9) (hn : Hid (f.nodes ≤ 1000)) (p q neg : Bool) (hp : Hid ((neg != (f.op == 4 || f.op == 7)) = p)) (hq : Hid ((neg != (f.op == 4)) = q)) (B : Nat) (v : Value) (w : World) (hv : FAt B w v f) (hBw : B ≤ w.heap.size) :
    Calls Tryz.prog 67 #[v, .bool neg] w fun e w' => e = .returned (.tuple #[.int .i64 ((extF f neg).1 : Int), .int .i64 ((extF f neg).2 : Int)]) ∧ Below w.heap.size w w' := by
  obtain ⟨o, c, rfl, -, hA⟩ := hv.open
  have hA' := hA.mono hBw
  have hlen := hA.len
  obtain ⟨W0, hW0, hB0, hc, hlt⟩ := fm_open w (.int .i64 f.op) (.string f.name) (.int .i64 f.val) (.int .i64 f.bound) (.slice o f.args.length c)
  obtain ⟨d0, d1, d2, d3, d4⟩ := hc.out
  rw [Nat.zero_add] at d1 d2 d3 d4
  have b3 : (f.op == 3) = false := beq_eq_false_iff_ne.2 o3
  have hnl : Hid (Fm.nodesL f.args ≤ 1000) := hidi (by have := hn.out; rw [f.nodes_eq] at this; omega)
  have hE : Hid (extF f neg = extN f.op f.bound.toNat (1 + (extL f.args p q).1) ((extL f.args p q).2 + 1)) := hidi (by rw [extF_eq, if_neg (fun h => o3 h.1), ← hp.out, ← hq.out])
  replace o3 := hidi o3
  go_enter Tryz.func67, Tryz.ntmps67
  go_wp2_with fail
  rw [hW0.out]
  go_loopw [6, 7, 8] (fun s d i wr => ∃ k : Nat, k ≤ f.args.length ∧ s = .int .i64 ((1 + (extL (f.args.take k) p q).1 : Nat) : Int) ∧ d = .int .i64 (((extL (f.args.take k) p q).2 : Nat) : Int) ∧ i = .int .i64 (k : Int) ∧ Below W0.heap.size W0 wr) (fun _ _ i _ => f.args.length - (intOf i).toNat)
  case atStart => exact ⟨0, Nat.zero_le _, by simp [extL_nil], by simp [extL_nil], rfl, Below.refl _ _⟩
  case round =>
    clear d0 d1 d2 d3 d4
    obtain ⟨k, hk, rfl, rfl, rfl, hB⟩ := hrel
    obtain ⟨d0, d1, d2, d3, d4⟩ := hc.out.later hB hlt
    rw [Nat.zero_add] at d1 d2 d3 d4
    have hW := hB0.trans (hB.mono hB0.size)
    have hl1 := extL_sum (f.args.take k) (fun x hx => hb.out x (List.mem_of_mem_take hx)) p q
    have hl2 := extL_depth (f.args.take k) (fun x hx => hb.out x (List.mem_of_mem_take hx)) p q
    rw [List.length_take, Nat.min_eq_left hk] at hl1
    have hl3 := Fm.nodesL_take_le f.args k
    have hl4 := hnl.out
    have hl5 := Fm.length_le_nodes f.args
    by_cases hlt2 : k < f.args.length
    · obtain ⟨b, off, rfl, hbb, hat⟩ := hA'.at (by omega)
      obtain ⟨sl, hc5, hF⟩ := hat k hlt2
      obtain ⟨e0, e1, e2, e3, e4⟩ := hc5.below hW hbb
      have hS := hidi (extL_take hlt2 p q)
      have ihk := ih.out _ (List.getElem_mem hlt2)
      have hbk := ext_bounds _ (hb.out _ (List.getElem_mem hlt2)) (if k = 0 then p else q)
      have hnk := Fm.nodes_get hlt2
      have j1 : (0 : Int) ≤ k := by omega
      have j2 : (k : Int) < f.args.length := by omega
      generalize f.args[k] = g at *
      have ihk2 := hidi (ihk (if k = 0 then p else q) w.heap.size (fval g sl) _ (hF.kept hW (Nat.le_refl _)) hW.size)
      generalize extF g (if k = 0 then p else q) = ex at *
      generalize extL (List.take k f.args) p q = el at *
      clear hE ihk
      by_cases o4 : f.op = 4
      have b4 : (f.op == 4) = true := by rw [o4]; rfl
      have hs : (if k = 0 then p else q) = !neg := by rw [← hp.out, ← hq.out, b4]; cases neg <;> simp
      clear o4
      rotate_left
      have b4 : (f.op == 4) = false := beq_eq_false_iff_ne.2 o4
      by_cases o7 : f.op = 7
      have b7 : (f.op == 7) = true := by rw [o7]; rfl
      clear o7
      by_cases k0 : k = 0
      have j0 : ((k : Int) == 0) = true := by rw [k0]; rfl
      have hs : (if k = 0 then p else q) = !neg := by rw [if_pos k0, ← hp.out, b4, b7]; cases neg <;> rfl
      replace k0 := hidi k0
      rotate_left
      have j0 : ((k : Int) == 0) = false := beq_eq_false_iff_ne.2 (by omega)
      have hs : (if k = 0 then p else q) = neg := by rw [if_neg k0, ← hq.out, b4]; cases neg <;> rfl
      replace k0 := hidi k0
      rotate_left
      have b7 : (f.op == 7) = false := beq_eq_false_iff_ne.2 o7
      have hs : (if k = 0 then p else q) = neg := by rw [← hp.out, ← hq.out, b4, b7]; cases neg <;> simp
      rotate_left
      all_goals
       rw [hs] at ihk2
       clear hs
       go_wp2_with fail
       refine ihk2.out.mono ?_
       rintro e w1 ⟨rfl, hb1⟩
       replace hB := hB.trans (hb1.mono hB.size)
       clear d0 d1 d2 d3 d4 e0 e1 e2 e3 e4
       go_wp2_with fail
       go_roundw
       case rel => exact ⟨k + 1, by omega, by rw [hS.out]; go_num, by rw [hS.out]; go_num, by go_num, hB⟩
       case measure => simp [intOf]; omega
    · obtain rfl : k = f.args.length := by omega
      rw [List.take_length] at hl1 hl2
      rw [List.take_length]
      clear hp hq
      generalize extL f.args p q = el at *
      by_cases o : f.op = 4
      have hfin : Hid (extF f neg = (min (1 + el.1 - 1) 1000, el.2 + 1 - 1)) := hidi (by rw [hE.out]; unfold extN; rw [if_pos o])
      obtain ⟨b3, b4, b7, b11, b12, b13, b14, b18, b19⟩ := ext_ops (K := 4) o
      clear o
      rotate_left
      have o4 := o
      clear o
      by_cases o : f.op = 7
      have hfin : Hid (extF f neg = (min (1 + el.1) 1000, el.2 + 1)) := hidi (by rw [hE.out]; unfold extN; rw [if_neg (by omega), if_neg (by omega), if_neg (by omega)])
      obtain ⟨b3, b4, b7, b11, b12, b13, b14, b18, b19⟩ := ext_ops (K := 7) o
      clear o
      rotate_left
      have o7 := o
      clear o
      by_cases o : f.op = 11
      have hfin : Hid (extF f neg = (min (1 + el.1 + 1) 1000, el.2 + 1)) := hidi (by rw [hE.out]; unfold extN; rw [if_neg (by omega), if_pos (by omega)])
      obtain ⟨b3, b4, b7, b11, b12, b13, b14, b18, b19⟩ := ext_ops (K := 11) o
      clear o
      rotate_left
      have o11 := o
      clear o
      by_cases o : f.op = 12
      have hfin : Hid (extF f neg = (min (1 + el.1 + 1) 1000, el.2 + 1)) := hidi (by rw [hE.out]; unfold extN; rw [if_neg (by omega), if_pos (by omega)])
      obtain ⟨b3, b4, b7, b11, b12, b13, b14, b18, b19⟩ := ext_ops (K := 12) o
      clear o
      rotate_left
      have o12 := o
      clear o
      by_cases o : f.op = 18
      have hfin : Hid (extF f neg = (min (1 + el.1 + 1) 1000, el.2 + 1)) := hidi (by rw [hE.out]; unfold extN; rw [if_neg (by omega), if_pos (by omega)])
      obtain ⟨b3, b4, b7, b11, b12, b13, b14, b18, b19⟩ := ext_ops (K := 18) o
      clear o
      rotate_left
      have o18 := o
      clear o
      by_cases o : f.op = 19
      have hfin : Hid (extF f neg = (min (1 + el.1 + 1) 1000, el.2 + 1)) := hidi (by rw [hE.out]; unfold extN; rw [if_neg (by omega), if_pos (by omega)])
      obtain ⟨b3, b4, b7, b11, b12, b13, b14, b18, b19⟩ := ext_ops (K := 19) o
      clear o
      rotate_left
      have o19 := o
      clear o
      by_cases o : f.op = 13
      obtain ⟨bn, hbn⟩ : ∃ bn : Nat, f.bound = (bn : Int) := ⟨f.bound.toNat, by omega⟩
      have hfin : Hid (extF f neg = (min ((1 + el.1 - 1) * (bn + 1) + 2 * bn) 1000, el.2 + 1 - 1 + 2 * bn)) := hidi (by rw [hE.out]; unfold extN; rw [hbn, Int.toNat_natCast, if_neg (by omega), if_neg (by omega), if_pos (by omega)])
      obtain ⟨b3, b4, b7, b11, b12, b13, b14, b18, b19⟩ := ext_ops (K := 13) o
      clear o
      rw [hbn] at d3 hbd2
      have hmb : el.1 * (bn + 1) ≤ 1000000 * 10 := Nat.mul_le_mul (by omega) (by omega)
      have ha1 : 1 + el.1 - 1 = el.1 := by omega
      have ha2 : el.2 + 1 - 1 = el.2 := by omega
      rw [ha1, ha2] at hfin
      clear ha1 ha2
      obtain ⟨pr, hpr⟩ : ∃ pr : Nat, el.1 * (bn + 1) = pr := ⟨_, rfl⟩
      have hw1 : (el.1 : Int) * ((bn : Int) + 1) = (pr : Int) := by rw [← hpr]; push_cast; rfl
      have hw2 : ((1 : Int) + (el.1 : Int) - 1) * ((bn : Int) + 1) = (pr : Int) := by rw [Int.add_comm 1, Int.add_sub_cancel, hw1]
      rw [hpr] at hmb hfin
      clear hpr
      rotate_left
      have o13 := o
      clear o
      by_cases o : f.op = 14
      obtain ⟨bn, hbn⟩ : ∃ bn : Nat, f.bound = (bn : Int) := ⟨f.bound.toNat, by omega⟩
      have hfin : Hid (extF f neg = (min ((1 + el.1 - 1) * (bn + 1) + 2 * bn) 1000, el.2 + 1 - 1 + 2 * bn)) := hidi (by rw [hE.out]; unfold extN; rw [hbn, Int.toNat_natCast, if_neg (by omega), if_neg (by omega), if_pos (by omega)])
      obtain ⟨b3, b4, b7, b11, b12, b13, b14, b18, b19⟩ := ext_ops (K := 14) o
      clear o
      rw [hbn] at d3 hbd2
      have hmb : el.1 * (bn + 1) ≤ 1000000 * 10 := Nat.mul_le_mul (by omega) (by omega)
      have ha1 : 1 + el.1 - 1 = el.1 := by omega
      have ha2 : el.2 + 1 - 1 = el.2 := by omega
      rw [ha1, ha2] at hfin
      clear ha1 ha2
      obtain ⟨pr, hpr⟩ : ∃ pr : Nat, el.1 * (bn + 1) = pr := ⟨_, rfl⟩
      have hw1 : (el.1 : Int) * ((bn : Int) + 1) = (pr : Int) := by rw [← hpr]; push_cast; rfl
      have hw2 : ((1 : Int) + (el.1 : Int) - 1) * ((bn : Int) + 1) = (pr : Int) := by rw [Int.add_comm 1, Int.add_sub_cancel, hw1]
      rw [hpr] at hmb hfin
      clear hpr
      rotate_left
      have o14 := o
      clear o
      have hfin : Hid (extF f neg = (min (1 + el.1) 1000, el.2 + 1)) := hidi (by have o3 := o3.out; rw [hE.out]; unfold extN; rw [if_neg (by omega), if_neg (by omega), if_neg (by omega)])
      have b4 : (f.op == 4) = false := beq_eq_false_iff_ne.2 o4
      have b7 : (f.op == 7) = false := beq_eq_false_iff_ne.2 o7
      have b11 : (f.op == 11) = false := beq_eq_false_iff_ne.2 o11
      have b12 : (f.op == 12) = false := beq_eq_false_iff_ne.2 o12
      have b13 : (f.op == 13) = false := beq_eq_false_iff_ne.2 o13
      have b14 : (f.op == 14) = false := beq_eq_false_iff_ne.2 o14
      have b18 : (f.op == 18) = false := beq_eq_false_iff_ne.2 o18
      have b19 : (f.op == 19) = false := beq_eq_false_iff_ne.2 o19
      clear o4 o7 o11 o12 o13 o14 o18 o19
      all_goals
       clear hE
       go_wp2_with fail
       all_goals (go_ret2; refine ⟨ret2 ?_ ?_, hW⟩)
       all_goals (rw [hfin.out]; first | (push_cast; omega) | (simp; omega) | omega)
theorem extent_any (f : Fm) : nodesB f = true → f.nodes ≤ 1000 → ExtOk f := by
  induction f using Fm.ind with
  | h f ih0 =>
    intro hf hn neg B v w hv hBw
    have ih : Hid (∀ g ∈ f.args, ExtOk g) := hidi fun g hg => ih0 g hg (nodesB_arg hf hg) (by
      obtain ⟨k, hk, rfl⟩ := List.mem_iff_getElem.1 hg
      have h1 := Fm.nodes_get hk
      rw [Fm.nodes_eq f] at hn
      omega)
    have hb : Hid (∀ g ∈ f.args, nodesB g = true) := hidi fun g hg => nodesB_arg hf hg
    obtain ⟨-, -, -, h4, h5, -, -⟩ := nodeB_flds (nodesB_self hf)
    have hb9 : f.bound ≤ 9 := by
      have : fBound f.op.toNat ≤ 9 := by
        rcases op_cases (nodeB_known (nodesB_self hf)) with e | e | e | e | e | e | e | e | e | e | e | e | e | e | e | e | e | e | e <;> rw [e] <;> decide
      omega
    by_cases o3 : f.op = 3
    · cases neg
      · exact ext_isn f (by rw [o3]; rfl) (by rw [o3]; rfl) (by rw [o3]; rfl) (by rw [o3]; rfl) (by rw [o3]; rfl) (by rw [o3]; rfl) (by rw [o3]; rfl) (by rw [o3]; rfl) (by rw [o3]; rfl) ih hb h4 hb9 (hidi hn) B v w hv hBw
      · exact ext_is f (by rw [o3]; rfl) (by rw [o3]; rfl) (by rw [o3]; rfl) (by rw [o3]; rfl) (by rw [o3]; rfl) (by rw [o3]; rfl) (by rw [o3]; rfl) (by rw [o3]; rfl) (by rw [o3]; rfl) ih hb h4 hb9 (hidi hn) B v w hv hBw
    exact ext_w f o3 ih hb h4 hb9 (hidi hn) _ _ neg (hidi rfl) (hidi rfl) B v w hv hBw

end Go.Proofs.YtbnnjbfbifihaaaGreatDoor
