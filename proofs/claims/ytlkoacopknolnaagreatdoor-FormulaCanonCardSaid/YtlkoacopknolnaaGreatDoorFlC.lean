/-
  The law's reversed: the region that puts the last argument twice, nested.
-/
import Derived.Test.YtlkoacopknolnaaGreatDoorFlB
namespace Go.Proofs.YtlkoacopknolnaaGreatDoor
open Go.RowKit

set_option maxRecDepth 100000 in
set_option maxHeartbeats 4000000 in
theorem rev_r13 {Qf : Nat → Prop} {y : Fm} {es : List (Fm × Value)} {A G N k7 gb k1 uc : Nat} {op : Int} {sly : Value} (a0 : Act) (W0 w : World) (Q : Exit → Act → World → Prop) (hz : a0.tmps.size = 73) (p1 : a0.tmps[(1 : Nat)]? = some (.pointer (some ⟨A, 0, none⟩))) (p3 : a0.tmps[(3 : Nat)]? = some (.pointer (some ⟨G, 0, none⟩))) (p7 : a0.tmps[(7 : Nat)]? = some (.pointer (some ⟨k7, 0, none⟩)))
    (hA : A < W0.heap.size) (hG : G < W0.heap.size) (hk7 : k7 < W0.heap.size) (hgb : gb < W0.heap.size) (hNg : N ≤ gb) (hB0 : Below N w W0) (hk1 : k1 ≤ 1000)
    (cA : W0.cell? ⟨A, 0, none⟩ = some (.int .i64 op)) (cG : W0.cell? ⟨G, 4, none⟩ = some (.slice (some ⟨gb, 0, none⟩) (k1 + 1) uc)) (e : Cells5 W0 k7 0 (.int .i64 y.op) (.string y.name) (.int .i64 y.val) (.int .i64 y.bound) sly) (hop : I64 op)
    (hR : RowF Qf W0 gb es) (hes : es.length = k1 + 1) (hfy : Fits y) (hay : FArgsP Qf W0 sly y.args) (hQ : ∀ b, Qf b → b ≠ gb ∧ b < W0.heap.size)
    (hend : ∀ (x' : Nat → Value) (W : World) (sl' : Value), RowF (fun b => (Qf b ∨ W0.heap.size ≤ b) ∧ b < W.heap.size) W gb (es.set k1 ((Fm.mk op ⟨#[]⟩ 0 0 [y, y]), sl')) → (∀ b', b' < W0.heap.size → b' ≠ gb → W.heap[b']? = W0.heap[b']?) → Below N w W → W0.heap.size ≤ W.heap.size → Q .normal (((((((((((((a0.put (some 59) (x' 0)).put (some 60) (x' 1)).put (some 61) (x' 2)).put (some 62) (x' 3)).put (some 63) (x' 4)).put (some 64) (x' 5)).put (some 65) (x' 6)).put (some 66) (x' 7)).put (some 67) (x' 8)).put (some 68) (x' 9)).put (some 69) (x' 10)).put (some 70) (x' 11)).put (some 71) (x' 12)) W) :
    (Code.region 13 (opsAt Tryz.f47 13) true).wp Tryz.prog Q a0 W0 := by
  have d0 : dstOf (opsAt Tryz.f47 13) 0 = some 59 := by kernel_rfl
  have d1 : dstOf (opsAt Tryz.f47 13) 1 = some 60 := by kernel_rfl
  have d2 : dstOf (opsAt Tryz.f47 13) 2 = some 61 := by kernel_rfl
  have d3 : dstOf (opsAt Tryz.f47 13) 3 = some 62 := by kernel_rfl
  have d4 : dstOf (opsAt Tryz.f47 13) 4 = some 63 := by kernel_rfl
  have d5 : dstOf (opsAt Tryz.f47 13) 5 = some 64 := by kernel_rfl
  have d6 : dstOf (opsAt Tryz.f47 13) 6 = some 65 := by kernel_rfl
  have d7 : dstOf (opsAt Tryz.f47 13) 7 = some 66 := by kernel_rfl
  have d8 : dstOf (opsAt Tryz.f47 13) 8 = some 67 := by kernel_rfl
  have d9 : dstOf (opsAt Tryz.f47 13) 9 = some 68 := by kernel_rfl
  have d10 : dstOf (opsAt Tryz.f47 13) 10 = some 69 := by kernel_rfl
  have d11 : dstOf (opsAt Tryz.f47 13) 11 = some 70 := by kernel_rfl
  have d12 : dstOf (opsAt Tryz.f47 13) 12 = some 71 := by kernel_rfl
  have d13 : dstOf (opsAt Tryz.f47 13) 13 = none := by kernel_rfl
  have hsz : (opsAt Tryz.f47 13).size = 14 := by kernel_rfl
  obtain ⟨L, hL⟩ : ∃ L, Hid ((opsAt Tryz.f47 13) = L) := ⟨_, hidi rfl⟩
  have hL2 := hL.out
  unfold opsAt Tryz.f47 at hL2
  simp only [findRegion, Nat.reduceBEq, if_true, if_false, Bool.false_eq_true, Option.getD_some] at hL2
  replace hL2 := hidi hL2
  obtain ⟨Ok, hOk⟩ : ∃ Ok : Nat → Prop, Ok = fun b => Qf b ∨ W0.heap.size ≤ b := ⟨_, rfl⟩
  have hOk1 : ∀ b, Qf b → Ok b := fun b h => by rw [hOk]; exact .inl h
  have hOk2 : ∀ b, W0.heap.size ≤ b → Ok b := fun b h => by rw [hOk]; exact .inr h
  obtain ⟨fs, hfs⟩ : ∃ fs : Nat → Fq, fs = (fun i => match i with
      | 0 => .valF (.pointer (some ⟨G, 4, none⟩))
      | 1 => .valF (.slice (some ⟨gb, 0, none⟩) (k1 + 1) uc)
      | 2 => .valF (.pointer (some ⟨G, 4, none⟩))
      | 3 => .valF (.slice (some ⟨gb, 0, none⟩) (k1 + 1) uc)
      | 4 => .valF (.int .i64 ((k1 : Int) + 1))
      | 5 => .valF (.int .i64 (k1 : Int))
      | 6 => .valF (.pointer (some ⟨A, 0, none⟩))
      | 7 => .valF (.int .i64 op)
      | 8 => .valF (.agg #[.int .i64 y.op, .string y.name, .int .i64 y.val, .int .i64 y.bound, sly])
      | 9 => .valF (.agg #[.int .i64 y.op, .string y.name, .int .i64 y.val, .int .i64 y.bound, sly])
      | 10 => .fmsF [y, y]
      | 11 => .free
      | 12 => .valF (.pointer (some ⟨gb, k1 * 5, none⟩))
      | 13 => .free
      | _ => .free) := ⟨_, rfl⟩
  have step : ∀ i a W (K : Act → World → Prop), i < 10 ∨ i = 12 → Below W0.heap.size W0 W → (∀ e, (∀ j, j < (opsAt Tryz.f47 13).size → dstOf (opsAt Tryz.f47 13) j ≠ some e) → a.tmps[e]? = a0.tmps[e]?) → (∀ j d, j < 10 → (depsOf (opsAt Tryz.f47 13) i).contains j = true → dstOf (opsAt Tryz.f47 13) j = some d → ∃ v, a.tmps[d]? = some v ∧ (fs j).holds Ok v W) →
      (∀ v, (fs i).holds Ok v W → K (a.put (dstOf (opsAt Tryz.f47 13) i) v) W) → wpOp Tryz.prog (opsAt Tryz.f47 13) Q i K a W := by
    intro i a W K hi hB hold hdep hK
    rw [hfs] at hdep hK
    match i, hi, hdep, hK with
    | 0, _, hdep, hK =>
      rw [d0] at hK
      have h3 := old_slot hold (e := 3) (by kernel_rfl) p3
      have e3 := at_eval h3
      rw [hL.out, ← hL2.out]; refine wpOp_of_list' rfl ?_
      go_wp2_with fail
      first | exact rfl | (show Value.int .i64 _ = Value.int .i64 _; congr 1; omega)
    | 1, _, hdep, hK =>
      rw [d1] at hK
      obtain ⟨v59, h59, f59⟩ := hdep 0 59 (by decide) (by kernel_rfl) d0
      obtain rfl : v59 = .pointer (some ⟨G, 4, none⟩) := f59
      have e59 := at_eval h59
      have b4 := (hB.cell (p := ⟨G, 4, none⟩) hG).trans cG
      rw [hL.out, ← hL2.out]; refine wpOp_of_list' rfl ?_
      go_wp2_with fail
      first | exact rfl | (show Value.int .i64 _ = Value.int .i64 _; congr 1; omega)
    | 2, _, hdep, hK =>
      rw [d2] at hK
      have h3 := old_slot hold (e := 3) (by kernel_rfl) p3
      have e3 := at_eval h3
      rw [hL.out, ← hL2.out]; refine wpOp_of_list' rfl ?_
      go_wp2_with fail
      first | exact rfl | (show Value.int .i64 _ = Value.int .i64 _; congr 1; omega)
    | 3, _, hdep, hK =>
      rw [d3] at hK
      obtain ⟨v61, h61, f61⟩ := hdep 2 61 (by decide) (by kernel_rfl) d2
      obtain rfl : v61 = .pointer (some ⟨G, 4, none⟩) := f61
      have e61 := at_eval h61
      have b4 := (hB.cell (p := ⟨G, 4, none⟩) hG).trans cG
      rw [hL.out, ← hL2.out]; refine wpOp_of_list' rfl ?_
      go_wp2_with fail
      first | exact rfl | (show Value.int .i64 _ = Value.int .i64 _; congr 1; omega)
    | 4, _, hdep, hK =>
      rw [d4] at hK
      obtain ⟨v62, h62, f62⟩ := hdep 3 62 (by decide) (by kernel_rfl) d3
      obtain rfl : v62 = .slice (some ⟨gb, 0, none⟩) (k1 + 1) uc := f62
      have e62 := at_eval h62
      rw [hL.out, ← hL2.out]; refine wpOp_of_list' rfl ?_
      go_wp2_with fail
      first | exact rfl | (show Value.int .i64 _ = Value.int .i64 _; congr 1; omega)
    | 5, _, hdep, hK =>
      rw [d5] at hK
      obtain ⟨v63, h63, f63⟩ := hdep 4 63 (by decide) (by kernel_rfl) d4
      obtain rfl : v63 = .int .i64 ((k1 : Int) + 1) := f63
      have e63 := at_eval h63
      rw [hL.out, ← hL2.out]; refine wpOp_of_list' rfl ?_
      go_wp2_with fail
      first | exact rfl | (show Value.int .i64 _ = Value.int .i64 _; congr 1; omega)
    | 6, _, hdep, hK =>
      rw [d6] at hK
      have h1 := old_slot hold (e := 1) (by kernel_rfl) p1
      have e1 := at_eval h1
      rw [hL.out, ← hL2.out]; refine wpOp_of_list' rfl ?_
      go_wp2_with fail
      first | exact rfl | (show Value.int .i64 _ = Value.int .i64 _; congr 1; omega)
    | 7, _, hdep, hK =>
      rw [d7] at hK
      obtain ⟨v65, h65, f65⟩ := hdep 6 65 (by decide) (by kernel_rfl) d6
      obtain rfl : v65 = .pointer (some ⟨A, 0, none⟩) := f65
      have e65 := at_eval h65
      have b4 := (hB.cell (p := ⟨A, 0, none⟩) hA).trans cA
      rw [hL.out, ← hL2.out]; refine wpOp_of_list' rfl ?_
      go_wp2_with fail
      first | exact rfl | (show Value.int .i64 _ = Value.int .i64 _; congr 1; omega)
    | 8, _, hdep, hK =>
      rw [d8] at hK
      have h7 := old_slot hold (e := 7) (by kernel_rfl) p7
      have e7 := at_eval h7
      obtain ⟨b0, b1, b2, b3, b4⟩ := e.below hB hk7
      rw [Nat.zero_add] at b1 b2 b3 b4
      rw [hL.out, ← hL2.out]; refine wpOp_of_list' rfl ?_
      go_wp2_with fail
      first | exact rfl | (show Value.int .i64 _ = Value.int .i64 _; congr 1; omega)
    | 9, _, hdep, hK =>
      rw [d9] at hK
      have h7 := old_slot hold (e := 7) (by kernel_rfl) p7
      have e7 := at_eval h7
      obtain ⟨b0, b1, b2, b3, b4⟩ := e.below hB hk7
      rw [Nat.zero_add] at b1 b2 b3 b4
      rw [hL.out, ← hL2.out]; refine wpOp_of_list' rfl ?_
      go_wp2_with fail
      first | exact rfl | (show Value.int .i64 _ = Value.int .i64 _; congr 1; omega)
    | 12, _, hdep, hK =>
      rw [d12] at hK
      obtain ⟨v60, h60, f60⟩ := hdep 1 60 (by decide) (by kernel_rfl) d1
      obtain rfl : v60 = .slice (some ⟨gb, 0, none⟩) (k1 + 1) uc := f60
      have e60 := at_eval h60
      obtain ⟨v64, h64, f64⟩ := hdep 5 64 (by decide) (by kernel_rfl) d5
      obtain rfl : v64 = .int .i64 (k1 : Int) := f64
      have e64 := at_eval h64
      have j1 : (0 : Int) ≤ k1 := by omega
      have j2 : (k1 : Int) < k1 + 1 := by omega
      rw [hL.out, ← hL2.out]; refine wpOp_of_list' rfl ?_
      go_wp2_with fail
      first | exact rfl | (show Value.int .i64 _ = Value.int .i64 _; congr 1; omega)
    | 10, hi, _, _ => exact absurd hi (by omega)
    | 11, hi, _, _ => exact absurd hi (by omega)
    | k + 13, hi, _, _ => exact absurd hi (by omega)
  have hst : ∀ j, j < 10 → (fs j).still = true := by
    intro j
    rw [hfs]
    match j with
    | 0 => intro _; rfl
    | 1 => intro _; rfl
    | 2 => intro _; rfl
    | 3 => intro _; rfl
    | 4 => intro _; rfl
    | 5 => intro _; rfl
    | 6 => intro _; rfl
    | 7 => intro _; rfl
    | 8 => intro _; rfl
    | 9 => intro _; rfl
    | k + 10 => intro h; omega
  refine wp_region_tail (by kernel_rfl) (by kernel_rfl) (by kernel_rfl) (by rw [hz]; kernel_rfl) (by kernel_rfl) fs Ok 11 13 70 (by rw [hsz]; omega) (by rw [hsz]; omega) (by omega) d11 (by rw [hfs]; kernel_rfl) (by kernel_rfl)
    (fun v W => Below W0.heap.size W0 W ∧ (Fq.fmF (Fm.mk op ⟨#[]⟩ 0 0 [y, y])).holds Ok v W)
    (fun v W => ∃ sl', RowF (fun b => (Qf b ∨ W0.heap.size ≤ b) ∧ b < W.heap.size) W gb (es.set k1 ((Fm.mk op ⟨#[]⟩ 0 0 [y, y]), sl')) ∧ (∀ b', b' < W0.heap.size → b' ≠ gb → W.heap[b']? = W0.heap[b']?) ∧ Below N w W ∧ W0.heap.size ≤ W.heap.size) ?_ ?_ ?_ ?_ ?_ d13
  · intro i a W K hi h1 h2 hS hK
    rw [hsz] at hi
    by_cases hi7 : i < 10 ∨ i = 12
    · exact step i a W K hi7 hS.below hS.old (fun j d _ => hS.new j d) fun v hv => hK v W hv (Below.refl _ _)
    · have h8 : i = 10 := by omega
      subst h8
      rw [d10, hfs] at hK
      rw [hfs] at hS
      obtain ⟨v67, h67, f67⟩ := hS.got 8 rfl (by kernel_rfl) d8
      obtain rfl : v67 = .agg #[.int .i64 y.op, .string y.name, .int .i64 y.val, .int .i64 y.bound, sly] := f67
      obtain ⟨v68, h68, f68⟩ := hS.got 9 rfl (by kernel_rfl) d9
      obtain rfl : v68 = .agg #[.int .i64 y.op, .string y.name, .int .i64 y.val, .int .i64 y.bound, sly] := f68
      have e67 := at_eval h67
      have e68 := at_eval h68
      rw [hL.out, ← hL2.out]; refine wpOp_of_list' rfl ?_
      have hzW := hS.below.size
      have hzW2 : W.heap.size < (W.alloc (.cells #[.int .i64 y.op, .string y.name, .int .i64 y.val, .int .i64 y.bound, sly, .int .i64 y.op, .string y.name, .int .i64 y.val, .int .i64 y.bound, sly] 24)).heap.size := by simp
      have hyk : FArgsP (fun b => b < (W.alloc (.cells #[.int .i64 y.op, .string y.name, .int .i64 y.val, .int .i64 y.bound, sly, .int .i64 y.op, .string y.name, .int .i64 y.val, .int .i64 y.bound, sly] 24)).heap.size ∧ Ok b) (W.alloc (.cells #[.int .i64 y.op, .string y.name, .int .i64 y.val, .int .i64 y.bound, sly, .int .i64 y.op, .string y.name, .int .i64 y.val, .int .i64 y.bound, sly] 24)) sly y.args :=
        ((hay.kept hS.below fun b hb => (hQ b hb).2).kept (below_box W _) fun b hb => Nat.lt_of_lt_of_le (hQ b hb).2 hzW).mono fun b hb => ⟨Nat.lt_trans (Nat.lt_of_lt_of_le (hQ b hb).2 hzW) hzW2, hOk1 b hb⟩
      have hq : (Fq.fmsF [y, y]).holds Ok (.slice (some ⟨W.heap.size, 0, none⟩) 2 2) (W.alloc (.cells #[.int .i64 y.op, .string y.name, .int .i64 y.val, .int .i64 y.bound, sly, .int .i64 y.op, .string y.name, .int .i64 y.val, .int .i64 y.bound, sly] 24)) :=
        args_two ⟨hzW2, hOk2 _ hzW⟩ (heap_alloc_new W _) hfy hfy hyk hyk
      obtain ⟨osl, csl, rfl⟩ := hay.shape
      go_wp2_with fail
      exact hK _ _ hq (below_box _ _)
  · rintro i a W K hi h1 h2 hs hsize hold hdep hnr ⟨v, hB, -⟩ hK
    rw [hsz] at hi
    by_cases hi7 : i < 10 ∨ i = 12
    · exact step i a W K hi7 hB hold (fun j d hj hc hd => hdep j d hc hd (hst j hj) (by omega)) hK
    · exfalso
      have h10 : i = 10 := by omega
      subst h10
      rw [hfs] at hs
      cases hs
  · intro a W K hS hK
    rw [hfs] at hS
    obtain ⟨v66, h66, f66⟩ := hS.got 7 rfl (by kernel_rfl) d7
    obtain rfl : v66 = .int .i64 op := f66
    have e66 := at_eval h66
    obtain ⟨v69, h69, f69⟩ := hS.got 10 rfl (by kernel_rfl) d10
    replace f69 : FArgsP (fun b => b < W.heap.size ∧ Ok b) W v69 [y, y] := f69
    have e69 := at_eval h69
    have hSB := hS.below
    rw [hL.out, ← hL2.out]; refine wpOp_of_list' rfl ?_
    go_wp2_with fail
    refine (refop_any (fun b => b < W.heap.size ∧ Ok b) op _ [y, y] W f69 (fun b hb => hb.1) hop).mono ?_
    rintro e W2 ⟨r, rfl, hN, hb⟩
    go_wp2_with fail
    exact ⟨hSB.trans (hb.mono hSB.size), fm_got hN hb fun b h => hOk2 b (Nat.le_trans hSB.size h)⟩
  · rintro a W K v - hold hdep hda ⟨hBW, hJ⟩ hK
    obtain ⟨v71, h71, f71⟩ := hdep 12 71 (by rw [hsz]; omega) (by omega) (by rw [hfs]; rfl) d12
    rw [hfs] at f71
    obtain rfl : v71 = .pointer (some ⟨gb, k1 * 5, none⟩) := f71
    have e71 := at_eval h71
    have e70 := at_eval hda
    obtain ⟨oj, cj, rfl, hfj, haj⟩ := FAtP.open hJ
    have hRW := (hR.kept hBW hgb fun b hb => (hQ b hb).2)
    have hk : k1 < es.length := by omega
    obtain ⟨z0, z1, z2, z3, z4⟩ := hRW.cell k1 hk
    have y0 := hRW.free (k1 * 5) (by omega)
    have y1 := hRW.free (k1 * 5 + 1) (by omega)
    have y2 := hRW.free (k1 * 5 + 2) (by omega)
    have y3 := hRW.free (k1 * 5 + 3) (by omega)
    have y4 := hRW.free (k1 * 5 + 4) (by omega)
    rw [d13] at hK
    have hRW2 : RowF (fun b => (Qf b ∨ W0.heap.size ≤ b) ∧ b < W.heap.size) W gb es := ⟨hRW.cell, hRW.free, fun e he => ⟨(hRW.good e he).1, (hRW.good e he).2.mono fun b hb => ⟨.inl hb, Nat.lt_of_lt_of_le (hQ b hb).2 hBW.size⟩⟩⟩
    have haj2 : FArgsP (fun b => (Qf b ∨ W0.heap.size ≤ b) ∧ b < W.heap.size) W (.slice oj ((Fm.mk op ⟨#[]⟩ 0 0 [y, y])).args.length cj) ((Fm.mk op ⟨#[]⟩ 0 0 [y, y])).args := haj.mono fun b hb => by rw [hOk] at hb; exact ⟨hb.2, hb.1⟩
    have hset := hRW2.set hk hfj haj2 (fun b hb => ⟨fun e => by subst e; rcases hb.1 with h | h; exact (hQ _ h).1 rfl; omega, hb.2⟩) (Nat.lt_of_lt_of_le hgb hBW.size)
    have hsv := set5_sv W gb (k1 * 5) (.int .i64 ((Fm.mk op ⟨#[]⟩ 0 0 [y, y])).op) (.string ((Fm.mk op ⟨#[]⟩ 0 0 [y, y])).name) (.int .i64 ((Fm.mk op ⟨#[]⟩ 0 0 [y, y])).val) (.int .i64 ((Fm.mk op ⟨#[]⟩ 0 0 [y, y])).bound) (.slice oj ((Fm.mk op ⟨#[]⟩ 0 0 [y, y])).args.length cj)
    have hsz5 := set5_size' W gb (k1 * 5) (.int .i64 ((Fm.mk op ⟨#[]⟩ 0 0 [y, y])).op) (.string ((Fm.mk op ⟨#[]⟩ 0 0 [y, y])).name) (.int .i64 ((Fm.mk op ⟨#[]⟩ 0 0 [y, y])).val) (.int .i64 ((Fm.mk op ⟨#[]⟩ 0 0 [y, y])).bound) (.slice oj ((Fm.mk op ⟨#[]⟩ 0 0 [y, y])).args.length cj)
    have hfin : ∃ sl', RowF (fun b => (Qf b ∨ W0.heap.size ≤ b) ∧ b < (set5 W gb (k1 * 5) (.int .i64 ((Fm.mk op ⟨#[]⟩ 0 0 [y, y])).op) (.string ((Fm.mk op ⟨#[]⟩ 0 0 [y, y])).name) (.int .i64 ((Fm.mk op ⟨#[]⟩ 0 0 [y, y])).val) (.int .i64 ((Fm.mk op ⟨#[]⟩ 0 0 [y, y])).bound) (.slice oj ((Fm.mk op ⟨#[]⟩ 0 0 [y, y])).args.length cj)).heap.size) (set5 W gb (k1 * 5) (.int .i64 ((Fm.mk op ⟨#[]⟩ 0 0 [y, y])).op) (.string ((Fm.mk op ⟨#[]⟩ 0 0 [y, y])).name) (.int .i64 ((Fm.mk op ⟨#[]⟩ 0 0 [y, y])).val) (.int .i64 ((Fm.mk op ⟨#[]⟩ 0 0 [y, y])).bound) (.slice oj ((Fm.mk op ⟨#[]⟩ 0 0 [y, y])).args.length cj)) gb (es.set k1 ((Fm.mk op ⟨#[]⟩ 0 0 [y, y]), sl')) ∧ (∀ b', b' < W0.heap.size → b' ≠ gb → (set5 W gb (k1 * 5) (.int .i64 ((Fm.mk op ⟨#[]⟩ 0 0 [y, y])).op) (.string ((Fm.mk op ⟨#[]⟩ 0 0 [y, y])).name) (.int .i64 ((Fm.mk op ⟨#[]⟩ 0 0 [y, y])).val) (.int .i64 ((Fm.mk op ⟨#[]⟩ 0 0 [y, y])).bound) (.slice oj ((Fm.mk op ⟨#[]⟩ 0 0 [y, y])).args.length cj)).heap[b']? = W0.heap[b']?) ∧ Below N w (set5 W gb (k1 * 5) (.int .i64 ((Fm.mk op ⟨#[]⟩ 0 0 [y, y])).op) (.string ((Fm.mk op ⟨#[]⟩ 0 0 [y, y])).name) (.int .i64 ((Fm.mk op ⟨#[]⟩ 0 0 [y, y])).val) (.int .i64 ((Fm.mk op ⟨#[]⟩ 0 0 [y, y])).bound) (.slice oj ((Fm.mk op ⟨#[]⟩ 0 0 [y, y])).args.length cj)) ∧ W0.heap.size ≤ (set5 W gb (k1 * 5) (.int .i64 ((Fm.mk op ⟨#[]⟩ 0 0 [y, y])).op) (.string ((Fm.mk op ⟨#[]⟩ 0 0 [y, y])).name) (.int .i64 ((Fm.mk op ⟨#[]⟩ 0 0 [y, y])).val) (.int .i64 ((Fm.mk op ⟨#[]⟩ 0 0 [y, y])).bound) (.slice oj ((Fm.mk op ⟨#[]⟩ 0 0 [y, y])).args.length cj)).heap.size := by
      rw [hsz5]
      refine ⟨_, hset, fun b' h1 h2 => (hsv.block b' (Nat.lt_of_lt_of_le h1 hBW.size) h2).trans (hBW.block b' h1), ?_, hBW.size⟩
      have hz0 : N ≤ W0.heap.size := by omega
      have hBN := hB0.trans (hBW.mono hz0)
      exact ⟨hsv.os.trans hBN.os, hsv.tape.trans hBN.tape, hsv.output.trans hBN.output, by rw [hsz5]; exact hBN.size, fun b' hb' => (hsv.block b' (by have := hBW.size; omega) (by omega)).trans (hBN.block b' hb')⟩
    have hfin' := hidi hfin
    clear hfin hset hsv hsz5 hRW hRW2 haj haj2 hR hay hdep hJ
    have hK' := hidi hK
    clear hK
    rw [hL.out, ← hL2.out]; refine wpOp_of_list' rfl ?_
    go_wp2_with fail
    exact hK'.out _ hfin'.out
  · rintro x' W ⟨sl', q1, q2, q3, q4⟩
    have hl := hend x' W sl' q1 q2 q3 q4
    have hr : List.range (opsAt Tryz.f47 13).size = [0, 1, 2, 3, 4, 5, 6, 7, 8, 9, 10, 11, 12, 13] := by rw [hsz]; rfl
    rw [hr]
    simp only [putL, d0, d1, d2, d3, d4, d5, d6, d7, d8, d9, d10, d11, d12, d13, put_none2]
    exact hl

end Go.Proofs.YtlkoacopknolnaaGreatDoor
