/-
  The drawn region of FormulaLattice, FjN.
-/
import Derived.Test.YtlkoacopknolnaaGreatDoorFjB
import Derived.Test.YtlkoacopknolnaaGreatDoorGi
import Derived.Test.YtlkoacopknolnaaGreatDoorFiS
namespace Go.Proofs.YtlkoacopknolnaaGreatDoor
open Go.RowKit

set_option maxRecDepth 100000 in
set_option maxHeartbeats 8000000 in
theorem latc_r11 {f c : Fm} {k3 k8 : Nat} (a0 : Act) (W0 : World) (Q : Exit → Act → World → Prop) (hE : Env W0) (hz : a0.tmps.size = 183) (p3 : a0.tmps[(3 : Nat)]? = some (.pointer (some ⟨k3, 0, none⟩))) (p8 : a0.tmps[(8 : Nat)]? = some (.pointer (some ⟨k8, 0, none⟩))) (B3 : Hid (Bx W0 k3 (f))) (B8 : Hid (Bx W0 k8 (c))) (e1 : Hid (combineF 5 [f, f] = c)) (e2 : Hid (combineF 6 [f, f] = c)) (e3 : Hid (combineF 5 [f, fTrue] = c)) (e4 : Hid (combineF 6 [fFalse, f] = c)) (n1 : f.nodes ≤ 1000) (n2 : fTrue.nodes ≤ 1000) (n3 : fFalse.nodes ≤ 1000)
    (hend : ∀ (x : Nat → Value) (W : World), Below W0.heap.size W0 W → Q .normal (((((((((((((((((((((((((((((((((((a0.put (some 113) (x 0)).put (some 114) (x 1)).put (some 115) (x 2)).put (some 116) (x 3)).put (some 117) (x 4)).put (some 118) (.int .i64 (0))).put (some 119) (.bool true)).put (some 120) (.bool true)).put (some 121) (x 8)).put (some 122) (x 9)).put (some 123) (x 10)).put (some 124) (x 11)).put (some 125) (x 12)).put (some 126) (.int .i64 (0))).put (some 127) (.bool true)).put (some 128) (.bool true)).put (some 129) (.bool true)).put (some 130) (x 17)).put (some 131) (x 18)).put (some 132) (x 19)).put (some 133) (x 20)).put (some 134) (x 21)).put (some 135) (.int .i64 (0))).put (some 136) (.bool true)).put (some 137) (.bool true)).put (some 138) (.bool true)).put (some 139) (x 26)).put (some 140) (x 27)).put (some 141) (x 28)).put (some 142) (x 29)).put (some 143) (x 30)).put (some 144) (.int .i64 (0))).put (some 145) (.bool true)).put (some 146) (.bool true)).put (some 15) (.bool true)) W) :
    (Code.region 11 (opsAt Tryz.f10 11) true).wp Tryz.prog Q a0 W0 := by
  have d0 : dstOf (opsAt Tryz.f10 11) 0 = some 113 := by kernel_rfl
  have d1 : dstOf (opsAt Tryz.f10 11) 1 = some 114 := by kernel_rfl
  have d2 : dstOf (opsAt Tryz.f10 11) 2 = some 115 := by kernel_rfl
  have d3 : dstOf (opsAt Tryz.f10 11) 3 = some 116 := by kernel_rfl
  have d4 : dstOf (opsAt Tryz.f10 11) 4 = some 117 := by kernel_rfl
  have d5 : dstOf (opsAt Tryz.f10 11) 5 = some 118 := by kernel_rfl
  have d6 : dstOf (opsAt Tryz.f10 11) 6 = some 119 := by kernel_rfl
  have d7 : dstOf (opsAt Tryz.f10 11) 7 = some 120 := by kernel_rfl
  have d8 : dstOf (opsAt Tryz.f10 11) 8 = some 121 := by kernel_rfl
  have d9 : dstOf (opsAt Tryz.f10 11) 9 = some 122 := by kernel_rfl
  have d10 : dstOf (opsAt Tryz.f10 11) 10 = some 123 := by kernel_rfl
  have d11 : dstOf (opsAt Tryz.f10 11) 11 = some 124 := by kernel_rfl
  have d12 : dstOf (opsAt Tryz.f10 11) 12 = some 125 := by kernel_rfl
  have d13 : dstOf (opsAt Tryz.f10 11) 13 = some 126 := by kernel_rfl
  have d14 : dstOf (opsAt Tryz.f10 11) 14 = some 127 := by kernel_rfl
  have d15 : dstOf (opsAt Tryz.f10 11) 15 = some 128 := by kernel_rfl
  have d16 : dstOf (opsAt Tryz.f10 11) 16 = some 129 := by kernel_rfl
  have d17 : dstOf (opsAt Tryz.f10 11) 17 = some 130 := by kernel_rfl
  have d18 : dstOf (opsAt Tryz.f10 11) 18 = some 131 := by kernel_rfl
  have d19 : dstOf (opsAt Tryz.f10 11) 19 = some 132 := by kernel_rfl
  have d20 : dstOf (opsAt Tryz.f10 11) 20 = some 133 := by kernel_rfl
  have d21 : dstOf (opsAt Tryz.f10 11) 21 = some 134 := by kernel_rfl
  have d22 : dstOf (opsAt Tryz.f10 11) 22 = some 135 := by kernel_rfl
  have d23 : dstOf (opsAt Tryz.f10 11) 23 = some 136 := by kernel_rfl
  have d24 : dstOf (opsAt Tryz.f10 11) 24 = some 137 := by kernel_rfl
  have d25 : dstOf (opsAt Tryz.f10 11) 25 = some 138 := by kernel_rfl
  have d26 : dstOf (opsAt Tryz.f10 11) 26 = some 139 := by kernel_rfl
  have d27 : dstOf (opsAt Tryz.f10 11) 27 = some 140 := by kernel_rfl
  have d28 : dstOf (opsAt Tryz.f10 11) 28 = some 141 := by kernel_rfl
  have d29 : dstOf (opsAt Tryz.f10 11) 29 = some 142 := by kernel_rfl
  have d30 : dstOf (opsAt Tryz.f10 11) 30 = some 143 := by kernel_rfl
  have d31 : dstOf (opsAt Tryz.f10 11) 31 = some 144 := by kernel_rfl
  have d32 : dstOf (opsAt Tryz.f10 11) 32 = some 145 := by kernel_rfl
  have d33 : dstOf (opsAt Tryz.f10 11) 33 = some 146 := by kernel_rfl
  have d34 : dstOf (opsAt Tryz.f10 11) 34 = some 15 := by kernel_rfl
  have hsz : (opsAt Tryz.f10 11).size = 35 := by kernel_rfl
  obtain ⟨L, hL⟩ : ∃ L, Hid ((opsAt Tryz.f10 11) = L) := ⟨_, hidi rfl⟩
  have hL2 := hL.out
  unfold opsAt Tryz.f10 at hL2
  simp only [findRegion, Nat.reduceBEq, if_true, if_false, Bool.false_eq_true, Option.getD_some] at hL2
  replace hL2 := hidi hL2
  refine wp_region_facts (by kernel_rfl) (by kernel_rfl) (by kernel_rfl) (by rw [hz]; kernel_rfl) (by kernel_rfl) (fun i => match i with
      | 0 => .fmF (f)
      | 1 => .fmF (f)
      | 2 => .fmsF [f, f]
      | 3 => .fmF (c)
      | 4 => .fmF (c)
      | 5 => .intF (0)
      | 6 => .boolF true
      | 7 => .boolF true
      | 8 => .fmF (f)
      | 9 => .fmF (f)
      | 10 => .fmsF [f, f]
      | 11 => .fmF (c)
      | 12 => .fmF (c)
      | 13 => .intF (0)
      | 14 => .boolF true
      | 15 => .boolF true
      | 16 => .boolF true
      | 17 => .fmF (f)
      | 18 => .fmF (fTrue)
      | 19 => .fmsF [f, fTrue]
      | 20 => .fmF (c)
      | 21 => .fmF (c)
      | 22 => .intF (0)
      | 23 => .boolF true
      | 24 => .boolF true
      | 25 => .boolF true
      | 26 => .fmF (fFalse)
      | 27 => .fmF (f)
      | 28 => .fmsF [fFalse, f]
      | 29 => .fmF (c)
      | 30 => .fmF (c)
      | 31 => .intF (0)
      | 32 => .boolF true
      | 33 => .boolF true
      | 34 => .boolF true
      | _ => .free) ?_ ?_
  · intro i a W K hi hS hK
    have hEW := hE.below hS.below
    match i, hi, hS, hK with
    | 0, _, hS, hK =>
      rw [d0] at hK
      have h3 := hS.slot (by kernel_rfl) p3
      have e3 := at_eval h3
      obtain ⟨o3, c3, ⟨b0, b1, b2, b3, b4⟩, hfq⟩ := (B3.out.below hS.below).cells
      rw [hL.out, ← hL2.out]; refine wpOp_of_list' rfl ?_
      go_wp2_with fail
      exact hK _ _ hfq (Below.refl _ _)
    | 1, _, hS, hK =>
      rw [d1] at hK
      have h3 := hS.slot (by kernel_rfl) p3
      have e3 := at_eval h3
      obtain ⟨o3, c3, ⟨b0, b1, b2, b3, b4⟩, hfq⟩ := (B3.out.below hS.below).cells
      rw [hL.out, ← hL2.out]; refine wpOp_of_list' rfl ?_
      go_wp2_with fail
      exact hK _ _ hfq (Below.refl _ _)
    | 2, _, hS, hK =>
      rw [d2] at hK
      obtain ⟨v113, h113, f113⟩ := hS.got 0 (q := .fmF (f)) rfl (by kernel_rfl) d0
      have e113 := at_eval h113
      obtain ⟨v114, h114, f114⟩ := hS.got 1 (q := .fmF (f)) rfl (by kernel_rfl) d1
      have e114 := at_eval h114
      obtain ⟨o113, c113, rfl, hf113, ha113⟩ := fq_open f113
      obtain ⟨o114, c114, rfl, hf114, ha114⟩ := fq_open f114
      rw [hL.out, ← hL2.out]; refine wpOp_of_list' rfl ?_
      go_wp2_with fail
      exact hK _ _ (fms_new2 hf113 hf114 ha113 ha114) (below_box _ _)
    | 3, _, hS, hK =>
      rw [d3] at hK
      obtain ⟨v115, h115, f115⟩ := hS.got 2 (q := .fmsF [f, f]) rfl (by kernel_rfl) d2
      have e115 := at_eval h115
      rw [hL.out, ← hL2.out]; refine wpOp_of_list' rfl ?_
      go_wp2_with fail
      refine (and_any (fun b => b < W.heap.size ∧ True) [f, f] _ W hEW f115 (fun b hb => hb.1) (by simp only [Fm.nodesL_cons, Fm.nodesL_nil]; omega)).mono ?_
      rintro e W2 ⟨r, rfl, hN, hb⟩
      rw [e1.out] at hN
      go_wp2_with fail
      exact hK _ _ (fm_got (Ok := fun _ => True) hN hb (fun _ _ => trivial)) hb
    | 4, _, hS, hK =>
      rw [d4] at hK
      have h8 := hS.slot (by kernel_rfl) p8
      have e8 := at_eval h8
      obtain ⟨o8, c8, ⟨b0, b1, b2, b3, b4⟩, hfq⟩ := (B8.out.below hS.below).cells
      rw [hL.out, ← hL2.out]; refine wpOp_of_list' rfl ?_
      go_wp2_with fail
      exact hK _ _ hfq (Below.refl _ _)
    | 5, _, hS, hK =>
      rw [d5] at hK
      obtain ⟨v116, h116, f116⟩ := hS.got 3 (q := .fmF (c)) rfl (by kernel_rfl) d3
      have e116 := at_eval h116
      obtain ⟨v117, h117, f117⟩ := hS.got 4 (q := .fmF (c)) rfl (by kernel_rfl) d4
      have e117 := at_eval h117
      rw [hL.out, ← hL2.out]; refine wpOp_of_list' rfl ?_
      go_wp2_with fail
      refine (compare_any (c) (c) W.heap.size _ _ W (fm_at f116) (fm_at f117) (Nat.le_refl _)).mono ?_
      rintro e W2 ⟨rfl, hb⟩
      rw [cmpF_self]
      go_wp2_with fail
      exact hK _ _ rfl hb
    | 6, _, hS, hK =>
      rw [d6] at hK
      obtain ⟨v118, h118, f118⟩ := hS.got 5 (q := .intF (0)) rfl (by kernel_rfl) d5
      obtain rfl : v118 = .int .i64 (0) := f118
      have e118 := at_eval h118
      rw [hL.out, ← hL2.out]; refine wpOp_of_list' rfl ?_
      go_wp2_with fail
      exact hK _ _ rfl (Below.refl _ _)
    | 7, _, hS, hK =>
      rw [d7] at hK
      obtain ⟨v119, h119, f119⟩ := hS.got 6 (q := .boolF true) rfl (by kernel_rfl) d6
      obtain rfl : v119 = .bool true := f119
      have e119 := at_eval h119
      rw [hL.out, ← hL2.out]; refine wpOp_of_list' rfl ?_
      go_wp2_with fail
      exact hK _ _ rfl (Below.refl _ _)
    | 8, _, hS, hK =>
      rw [d8] at hK
      obtain ⟨v120, h120, f120⟩ := hS.got 7 (q := .boolF true) rfl (by kernel_rfl) d7
      obtain rfl : v120 = .bool true := f120
      have e120 := at_eval h120
      have h3 := hS.slot (by kernel_rfl) p3
      have e3 := at_eval h3
      obtain ⟨o3, c3, ⟨b0, b1, b2, b3, b4⟩, hfq⟩ := (B3.out.below hS.below).cells
      rw [hL.out, ← hL2.out]; refine wpOp_of_list' rfl ?_
      go_wp2_with fail
      exact hK _ _ hfq (Below.refl _ _)
    | 9, _, hS, hK =>
      rw [d9] at hK
      obtain ⟨v120, h120, f120⟩ := hS.got 7 (q := .boolF true) rfl (by kernel_rfl) d7
      obtain rfl : v120 = .bool true := f120
      have e120 := at_eval h120
      have h3 := hS.slot (by kernel_rfl) p3
      have e3 := at_eval h3
      obtain ⟨o3, c3, ⟨b0, b1, b2, b3, b4⟩, hfq⟩ := (B3.out.below hS.below).cells
      rw [hL.out, ← hL2.out]; refine wpOp_of_list' rfl ?_
      go_wp2_with fail
      exact hK _ _ hfq (Below.refl _ _)
    | 10, _, hS, hK =>
      rw [d10] at hK
      obtain ⟨v120, h120, f120⟩ := hS.got 7 (q := .boolF true) rfl (by kernel_rfl) d7
      obtain rfl : v120 = .bool true := f120
      have e120 := at_eval h120
      obtain ⟨v121, h121, f121⟩ := hS.got 8 (q := .fmF (f)) rfl (by kernel_rfl) d8
      have e121 := at_eval h121
      obtain ⟨v122, h122, f122⟩ := hS.got 9 (q := .fmF (f)) rfl (by kernel_rfl) d9
      have e122 := at_eval h122
      obtain ⟨o121, c121, rfl, hf121, ha121⟩ := fq_open f121
      obtain ⟨o122, c122, rfl, hf122, ha122⟩ := fq_open f122
      rw [hL.out, ← hL2.out]; refine wpOp_of_list' rfl ?_
      go_wp2_with fail
      exact hK _ _ (fms_new2 hf121 hf122 ha121 ha122) (below_box _ _)
    | 11, _, hS, hK =>
      rw [d11] at hK
      obtain ⟨v120, h120, f120⟩ := hS.got 7 (q := .boolF true) rfl (by kernel_rfl) d7
      obtain rfl : v120 = .bool true := f120
      have e120 := at_eval h120
      obtain ⟨v123, h123, f123⟩ := hS.got 10 (q := .fmsF [f, f]) rfl (by kernel_rfl) d10
      have e123 := at_eval h123
      rw [hL.out, ← hL2.out]; refine wpOp_of_list' rfl ?_
      go_wp2_with fail
      refine (or_any (fun b => b < W.heap.size ∧ True) [f, f] _ W hEW f123 (fun b hb => hb.1) (by simp only [Fm.nodesL_cons, Fm.nodesL_nil]; omega)).mono ?_
      rintro e W2 ⟨r, rfl, hN, hb⟩
      rw [e2.out] at hN
      go_wp2_with fail
      exact hK _ _ (fm_got (Ok := fun _ => True) hN hb (fun _ _ => trivial)) hb
    | 12, _, hS, hK =>
      rw [d12] at hK
      obtain ⟨v120, h120, f120⟩ := hS.got 7 (q := .boolF true) rfl (by kernel_rfl) d7
      obtain rfl : v120 = .bool true := f120
      have e120 := at_eval h120
      have h8 := hS.slot (by kernel_rfl) p8
      have e8 := at_eval h8
      obtain ⟨o8, c8, ⟨b0, b1, b2, b3, b4⟩, hfq⟩ := (B8.out.below hS.below).cells
      rw [hL.out, ← hL2.out]; refine wpOp_of_list' rfl ?_
      go_wp2_with fail
      exact hK _ _ hfq (Below.refl _ _)
    | 13, _, hS, hK =>
      rw [d13] at hK
      obtain ⟨v120, h120, f120⟩ := hS.got 7 (q := .boolF true) rfl (by kernel_rfl) d7
      obtain rfl : v120 = .bool true := f120
      have e120 := at_eval h120
      obtain ⟨v124, h124, f124⟩ := hS.got 11 (q := .fmF (c)) rfl (by kernel_rfl) d11
      have e124 := at_eval h124
      obtain ⟨v125, h125, f125⟩ := hS.got 12 (q := .fmF (c)) rfl (by kernel_rfl) d12
      have e125 := at_eval h125
      rw [hL.out, ← hL2.out]; refine wpOp_of_list' rfl ?_
      go_wp2_with fail
      refine (compare_any (c) (c) W.heap.size _ _ W (fm_at f124) (fm_at f125) (Nat.le_refl _)).mono ?_
      rintro e W2 ⟨rfl, hb⟩
      rw [cmpF_self]
      go_wp2_with fail
      exact hK _ _ rfl hb
    | 14, _, hS, hK =>
      rw [d14] at hK
      obtain ⟨v120, h120, f120⟩ := hS.got 7 (q := .boolF true) rfl (by kernel_rfl) d7
      obtain rfl : v120 = .bool true := f120
      have e120 := at_eval h120
      obtain ⟨v126, h126, f126⟩ := hS.got 13 (q := .intF (0)) rfl (by kernel_rfl) d13
      obtain rfl : v126 = .int .i64 (0) := f126
      have e126 := at_eval h126
      rw [hL.out, ← hL2.out]; refine wpOp_of_list' rfl ?_
      go_wp2_with fail
      exact hK _ _ rfl (Below.refl _ _)
    | 15, _, hS, hK =>
      rw [d15] at hK
      obtain ⟨v120, h120, f120⟩ := hS.got 7 (q := .boolF true) rfl (by kernel_rfl) d7
      obtain rfl : v120 = .bool true := f120
      have e120 := at_eval h120
      obtain ⟨v127, h127, f127⟩ := hS.got 14 (q := .boolF true) rfl (by kernel_rfl) d14
      obtain rfl : v127 = .bool true := f127
      have e127 := at_eval h127
      rw [hL.out, ← hL2.out]; refine wpOp_of_list' rfl ?_
      go_wp2_with fail
      exact hK _ _ rfl (Below.refl _ _)
    | 16, _, hS, hK =>
      rw [d16] at hK
      obtain ⟨v128, h128, f128⟩ := hS.got 15 (q := .boolF true) rfl (by kernel_rfl) d15
      obtain rfl : v128 = .bool true := f128
      have e128 := at_eval h128
      rw [hL.out, ← hL2.out]; refine wpOp_of_list' rfl ?_
      go_wp2_with fail
      exact hK _ _ rfl (Below.refl _ _)
    | 17, _, hS, hK =>
      rw [d17] at hK
      obtain ⟨v129, h129, f129⟩ := hS.got 16 (q := .boolF true) rfl (by kernel_rfl) d16
      obtain rfl : v129 = .bool true := f129
      have e129 := at_eval h129
      have h3 := hS.slot (by kernel_rfl) p3
      have e3 := at_eval h3
      obtain ⟨o3, c3, ⟨b0, b1, b2, b3, b4⟩, hfq⟩ := (B3.out.below hS.below).cells
      rw [hL.out, ← hL2.out]; refine wpOp_of_list' rfl ?_
      go_wp2_with fail
      exact hK _ _ hfq (Below.refl _ _)
    | 18, _, hS, hK =>
      rw [d18] at hK
      obtain ⟨v129, h129, f129⟩ := hS.got 16 (q := .boolF true) rfl (by kernel_rfl) d16
      obtain rfl : v129 = .bool true := f129
      have e129 := at_eval h129
      rw [hL.out, ← hL2.out]; refine wpOp_of_list' rfl ?_
      go_wp2_with fail
      refine (reftrue_any (fun b => b < W.heap.size ∧ True) W).mono ?_
      rintro e W2 ⟨r, rfl, hN, hb⟩
      go_wp2_with fail
      exact hK _ _ (fm_got (Ok := fun _ => True) hN hb (fun _ _ => trivial)) hb
    | 19, _, hS, hK =>
      rw [d19] at hK
      obtain ⟨v129, h129, f129⟩ := hS.got 16 (q := .boolF true) rfl (by kernel_rfl) d16
      obtain rfl : v129 = .bool true := f129
      have e129 := at_eval h129
      obtain ⟨v130, h130, f130⟩ := hS.got 17 (q := .fmF (f)) rfl (by kernel_rfl) d17
      have e130 := at_eval h130
      obtain ⟨v131, h131, f131⟩ := hS.got 18 (q := .fmF (fTrue)) rfl (by kernel_rfl) d18
      have e131 := at_eval h131
      obtain ⟨o130, c130, rfl, hf130, ha130⟩ := fq_open f130
      obtain ⟨o131, c131, rfl, hf131, ha131⟩ := fq_open f131
      rw [hL.out, ← hL2.out]; refine wpOp_of_list' rfl ?_
      go_wp2_with fail
      exact hK _ _ (fms_new2 hf130 hf131 ha130 ha131) (below_box _ _)
    | 20, _, hS, hK =>
      rw [d20] at hK
      obtain ⟨v129, h129, f129⟩ := hS.got 16 (q := .boolF true) rfl (by kernel_rfl) d16
      obtain rfl : v129 = .bool true := f129
      have e129 := at_eval h129
      obtain ⟨v132, h132, f132⟩ := hS.got 19 (q := .fmsF [f, fTrue]) rfl (by kernel_rfl) d19
      have e132 := at_eval h132
      rw [hL.out, ← hL2.out]; refine wpOp_of_list' rfl ?_
      go_wp2_with fail
      refine (and_any (fun b => b < W.heap.size ∧ True) [f, fTrue] _ W hEW f132 (fun b hb => hb.1) (by simp only [Fm.nodesL_cons, Fm.nodesL_nil]; omega)).mono ?_
      rintro e W2 ⟨r, rfl, hN, hb⟩
      rw [e3.out] at hN
      go_wp2_with fail
      exact hK _ _ (fm_got (Ok := fun _ => True) hN hb (fun _ _ => trivial)) hb
    | 21, _, hS, hK =>
      rw [d21] at hK
      obtain ⟨v129, h129, f129⟩ := hS.got 16 (q := .boolF true) rfl (by kernel_rfl) d16
      obtain rfl : v129 = .bool true := f129
      have e129 := at_eval h129
      have h8 := hS.slot (by kernel_rfl) p8
      have e8 := at_eval h8
      obtain ⟨o8, c8, ⟨b0, b1, b2, b3, b4⟩, hfq⟩ := (B8.out.below hS.below).cells
      rw [hL.out, ← hL2.out]; refine wpOp_of_list' rfl ?_
      go_wp2_with fail
      exact hK _ _ hfq (Below.refl _ _)
    | 22, _, hS, hK =>
      rw [d22] at hK
      obtain ⟨v129, h129, f129⟩ := hS.got 16 (q := .boolF true) rfl (by kernel_rfl) d16
      obtain rfl : v129 = .bool true := f129
      have e129 := at_eval h129
      obtain ⟨v133, h133, f133⟩ := hS.got 20 (q := .fmF (c)) rfl (by kernel_rfl) d20
      have e133 := at_eval h133
      obtain ⟨v134, h134, f134⟩ := hS.got 21 (q := .fmF (c)) rfl (by kernel_rfl) d21
      have e134 := at_eval h134
      rw [hL.out, ← hL2.out]; refine wpOp_of_list' rfl ?_
      go_wp2_with fail
      refine (compare_any (c) (c) W.heap.size _ _ W (fm_at f133) (fm_at f134) (Nat.le_refl _)).mono ?_
      rintro e W2 ⟨rfl, hb⟩
      rw [cmpF_self]
      go_wp2_with fail
      exact hK _ _ rfl hb
    | 23, _, hS, hK =>
      rw [d23] at hK
      obtain ⟨v129, h129, f129⟩ := hS.got 16 (q := .boolF true) rfl (by kernel_rfl) d16
      obtain rfl : v129 = .bool true := f129
      have e129 := at_eval h129
      obtain ⟨v135, h135, f135⟩ := hS.got 22 (q := .intF (0)) rfl (by kernel_rfl) d22
      obtain rfl : v135 = .int .i64 (0) := f135
      have e135 := at_eval h135
      rw [hL.out, ← hL2.out]; refine wpOp_of_list' rfl ?_
      go_wp2_with fail
      exact hK _ _ rfl (Below.refl _ _)
    | 24, _, hS, hK =>
      rw [d24] at hK
      obtain ⟨v129, h129, f129⟩ := hS.got 16 (q := .boolF true) rfl (by kernel_rfl) d16
      obtain rfl : v129 = .bool true := f129
      have e129 := at_eval h129
      obtain ⟨v136, h136, f136⟩ := hS.got 23 (q := .boolF true) rfl (by kernel_rfl) d23
      obtain rfl : v136 = .bool true := f136
      have e136 := at_eval h136
      rw [hL.out, ← hL2.out]; refine wpOp_of_list' rfl ?_
      go_wp2_with fail
      exact hK _ _ rfl (Below.refl _ _)
    | 25, _, hS, hK =>
      rw [d25] at hK
      obtain ⟨v137, h137, f137⟩ := hS.got 24 (q := .boolF true) rfl (by kernel_rfl) d24
      obtain rfl : v137 = .bool true := f137
      have e137 := at_eval h137
      rw [hL.out, ← hL2.out]; refine wpOp_of_list' rfl ?_
      go_wp2_with fail
      exact hK _ _ rfl (Below.refl _ _)
    | 26, _, hS, hK =>
      rw [d26] at hK
      obtain ⟨v138, h138, f138⟩ := hS.got 25 (q := .boolF true) rfl (by kernel_rfl) d25
      obtain rfl : v138 = .bool true := f138
      have e138 := at_eval h138
      rw [hL.out, ← hL2.out]; refine wpOp_of_list' rfl ?_
      go_wp2_with fail
      refine (reffalse_any (fun b => b < W.heap.size ∧ True) W).mono ?_
      rintro e W2 ⟨r, rfl, hN, hb⟩
      go_wp2_with fail
      exact hK _ _ (fm_got (Ok := fun _ => True) hN hb (fun _ _ => trivial)) hb
    | 27, _, hS, hK =>
      rw [d27] at hK
      obtain ⟨v138, h138, f138⟩ := hS.got 25 (q := .boolF true) rfl (by kernel_rfl) d25
      obtain rfl : v138 = .bool true := f138
      have e138 := at_eval h138
      have h3 := hS.slot (by kernel_rfl) p3
      have e3 := at_eval h3
      obtain ⟨o3, c3, ⟨b0, b1, b2, b3, b4⟩, hfq⟩ := (B3.out.below hS.below).cells
      rw [hL.out, ← hL2.out]; refine wpOp_of_list' rfl ?_
      go_wp2_with fail
      exact hK _ _ hfq (Below.refl _ _)
    | 28, _, hS, hK =>
      rw [d28] at hK
      obtain ⟨v138, h138, f138⟩ := hS.got 25 (q := .boolF true) rfl (by kernel_rfl) d25
      obtain rfl : v138 = .bool true := f138
      have e138 := at_eval h138
      obtain ⟨v139, h139, f139⟩ := hS.got 26 (q := .fmF (fFalse)) rfl (by kernel_rfl) d26
      have e139 := at_eval h139
      obtain ⟨v140, h140, f140⟩ := hS.got 27 (q := .fmF (f)) rfl (by kernel_rfl) d27
      have e140 := at_eval h140
      obtain ⟨o139, c139, rfl, hf139, ha139⟩ := fq_open f139
      obtain ⟨o140, c140, rfl, hf140, ha140⟩ := fq_open f140
      rw [hL.out, ← hL2.out]; refine wpOp_of_list' rfl ?_
      go_wp2_with fail
      exact hK _ _ (fms_new2 hf139 hf140 ha139 ha140) (below_box _ _)
    | 29, _, hS, hK =>
      rw [d29] at hK
      obtain ⟨v138, h138, f138⟩ := hS.got 25 (q := .boolF true) rfl (by kernel_rfl) d25
      obtain rfl : v138 = .bool true := f138
      have e138 := at_eval h138
      obtain ⟨v141, h141, f141⟩ := hS.got 28 (q := .fmsF [fFalse, f]) rfl (by kernel_rfl) d28
      have e141 := at_eval h141
      rw [hL.out, ← hL2.out]; refine wpOp_of_list' rfl ?_
      go_wp2_with fail
      refine (or_any (fun b => b < W.heap.size ∧ True) [fFalse, f] _ W hEW f141 (fun b hb => hb.1) (by simp only [Fm.nodesL_cons, Fm.nodesL_nil]; omega)).mono ?_
      rintro e W2 ⟨r, rfl, hN, hb⟩
      rw [e4.out] at hN
      go_wp2_with fail
      exact hK _ _ (fm_got (Ok := fun _ => True) hN hb (fun _ _ => trivial)) hb
    | 30, _, hS, hK =>
      rw [d30] at hK
      obtain ⟨v138, h138, f138⟩ := hS.got 25 (q := .boolF true) rfl (by kernel_rfl) d25
      obtain rfl : v138 = .bool true := f138
      have e138 := at_eval h138
      have h8 := hS.slot (by kernel_rfl) p8
      have e8 := at_eval h8
      obtain ⟨o8, c8, ⟨b0, b1, b2, b3, b4⟩, hfq⟩ := (B8.out.below hS.below).cells
      rw [hL.out, ← hL2.out]; refine wpOp_of_list' rfl ?_
      go_wp2_with fail
      exact hK _ _ hfq (Below.refl _ _)
    | 31, _, hS, hK =>
      rw [d31] at hK
      obtain ⟨v138, h138, f138⟩ := hS.got 25 (q := .boolF true) rfl (by kernel_rfl) d25
      obtain rfl : v138 = .bool true := f138
      have e138 := at_eval h138
      obtain ⟨v142, h142, f142⟩ := hS.got 29 (q := .fmF (c)) rfl (by kernel_rfl) d29
      have e142 := at_eval h142
      obtain ⟨v143, h143, f143⟩ := hS.got 30 (q := .fmF (c)) rfl (by kernel_rfl) d30
      have e143 := at_eval h143
      rw [hL.out, ← hL2.out]; refine wpOp_of_list' rfl ?_
      go_wp2_with fail
      refine (compare_any (c) (c) W.heap.size _ _ W (fm_at f142) (fm_at f143) (Nat.le_refl _)).mono ?_
      rintro e W2 ⟨rfl, hb⟩
      rw [cmpF_self]
      go_wp2_with fail
      exact hK _ _ rfl hb
    | 32, _, hS, hK =>
      rw [d32] at hK
      obtain ⟨v138, h138, f138⟩ := hS.got 25 (q := .boolF true) rfl (by kernel_rfl) d25
      obtain rfl : v138 = .bool true := f138
      have e138 := at_eval h138
      obtain ⟨v144, h144, f144⟩ := hS.got 31 (q := .intF (0)) rfl (by kernel_rfl) d31
      obtain rfl : v144 = .int .i64 (0) := f144
      have e144 := at_eval h144
      rw [hL.out, ← hL2.out]; refine wpOp_of_list' rfl ?_
      go_wp2_with fail
      exact hK _ _ rfl (Below.refl _ _)
    | 33, _, hS, hK =>
      rw [d33] at hK
      obtain ⟨v138, h138, f138⟩ := hS.got 25 (q := .boolF true) rfl (by kernel_rfl) d25
      obtain rfl : v138 = .bool true := f138
      have e138 := at_eval h138
      obtain ⟨v145, h145, f145⟩ := hS.got 32 (q := .boolF true) rfl (by kernel_rfl) d32
      obtain rfl : v145 = .bool true := f145
      have e145 := at_eval h145
      rw [hL.out, ← hL2.out]; refine wpOp_of_list' rfl ?_
      go_wp2_with fail
      exact hK _ _ rfl (Below.refl _ _)
    | 34, _, hS, hK =>
      rw [d34] at hK
      obtain ⟨v146, h146, f146⟩ := hS.got 33 (q := .boolF true) rfl (by kernel_rfl) d33
      obtain rfl : v146 = .bool true := f146
      have e146 := at_eval h146
      rw [hL.out, ← hL2.out]; refine wpOp_of_list' rfl ?_
      go_wp2_with fail
      exact hK _ _ rfl (Below.refl _ _)
    | n + 35, hi, _, _ => exact absurd hi (by rw [hsz]; omega)
  · intro x W hB hx
    have y5 : x 5 = .int .i64 (0) := hx 5 118 (by rw [hsz]; omega) d5
    have y6 : x 6 = .bool true := hx 6 119 (by rw [hsz]; omega) d6
    have y7 : x 7 = .bool true := hx 7 120 (by rw [hsz]; omega) d7
    have y13 : x 13 = .int .i64 (0) := hx 13 126 (by rw [hsz]; omega) d13
    have y14 : x 14 = .bool true := hx 14 127 (by rw [hsz]; omega) d14
    have y15 : x 15 = .bool true := hx 15 128 (by rw [hsz]; omega) d15
    have y16 : x 16 = .bool true := hx 16 129 (by rw [hsz]; omega) d16
    have y22 : x 22 = .int .i64 (0) := hx 22 135 (by rw [hsz]; omega) d22
    have y23 : x 23 = .bool true := hx 23 136 (by rw [hsz]; omega) d23
    have y24 : x 24 = .bool true := hx 24 137 (by rw [hsz]; omega) d24
    have y25 : x 25 = .bool true := hx 25 138 (by rw [hsz]; omega) d25
    have y31 : x 31 = .int .i64 (0) := hx 31 144 (by rw [hsz]; omega) d31
    have y32 : x 32 = .bool true := hx 32 145 (by rw [hsz]; omega) d32
    have y33 : x 33 = .bool true := hx 33 146 (by rw [hsz]; omega) d33
    have y34 : x 34 = .bool true := hx 34 15 (by rw [hsz]; omega) d34
    have hl := hend x W hB
    have hr : List.range (opsAt Tryz.f10 11).size = [0, 1, 2, 3, 4, 5, 6, 7, 8, 9, 10, 11, 12, 13, 14, 15, 16, 17, 18, 19, 20, 21, 22, 23, 24, 25, 26, 27, 28, 29, 30, 31, 32, 33, 34] := by rw [hsz]; rfl
    rw [hr]
    simp only [putL, d0, d1, d2, d3, d4, d5, d6, d7, d8, d9, d10, d11, d12, d13, d14, d15, d16, d17, d18, d19, d20, d21, d22, d23, d24, d25, d26, d27, d28, d29, d30, d31, d32, d33, d34]
    simp only [y5, y6, y7, y13, y14, y15, y16, y22, y23, y24, y25, y31, y32, y33, y34]
    exact hl
end Go.Proofs.YtlkoacopknolnaaGreatDoor
