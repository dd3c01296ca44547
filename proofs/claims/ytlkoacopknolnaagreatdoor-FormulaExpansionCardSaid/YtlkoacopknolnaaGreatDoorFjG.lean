/-
  The drawn regions of FormulaExpansion.
-/
import Derived.Test.YtlkoacopknolnaaGreatDoorFjB
import Derived.Test.YtlkoacopknolnaaGreatDoorFiP
import Derived.Test.YtlkoacopknolnaaGreatDoorFjE
namespace Go.Proofs.YtlkoacopknolnaaGreatDoor
open Go.RowKit

set_option maxRecDepth 100000 in
set_option maxHeartbeats 8000000 in
theorem exd_r15 {f g no ot : Fm} {k3 k4 k14 k15 : Nat} (a0 : Act) (W0 : World) (Q : Exit → Act → World → Prop) (hE : Env W0) (hz : a0.tmps.size = 146) (p3 : a0.tmps[(3 : Nat)]? = some (.pointer (some ⟨k3, 0, none⟩))) (p4 : a0.tmps[(4 : Nat)]? = some (.pointer (some ⟨k4, 0, none⟩))) (p14 : a0.tmps[(14 : Nat)]? = some (.pointer (some ⟨k14, 0, none⟩))) (p15 : a0.tmps[(15 : Nat)]? = some (.pointer (some ⟨k15, 0, none⟩))) (p18 : a0.tmps[(18 : Nat)]? = some (.int .i64 (0))) (B3 : Hid (Bx W0 k3 (f))) (B4 : Hid (Bx W0 k4 (g))) (B14 : Hid (Bx W0 k14 (no))) (B15 : Hid (Bx W0 k15 (ot))) (e1 : Hid (pairB (Fm.mk 4 ⟨#[]⟩ 0 0 [Fm.mk 16 ⟨#[]⟩ 0 0 [f, g]]) (Fm.mk 17 ⟨#[]⟩ 1 0 [no, ot]) = true)) (e2 : Hid (pairB (Fm.mk 18 ⟨#[]⟩ 0 0 [f]) (Fm.mk 16 ⟨#[]⟩ 0 0 [fTrue, f]) = true)) (n_f : f.nodes ≤ 1000) (n_g : g.nodes ≤ 1000) (n_no : no.nodes ≤ 1000) (n_ot : ot.nodes ≤ 1000) (n_fTrue : fTrue.nodes ≤ 1000)
    (hend : ∀ (x : Nat → Value) (W : World), Below W0.heap.size W0 W → Q .normal (((((((((((((((((((((((a0.put (some 111) (.int .i64 (0))).put (some 112) (x 1)).put (some 113) (x 2)).put (some 114) (x 3)).put (some 115) (x 4)).put (some 116) (x 5)).put (some 117) (.int .i64 (0))).put (some 118) (.int .i64 (1))).put (some 119) (x 8)).put (some 120) (x 9)).put (some 121) (x 10)).put (some 122) (x 11)).put (some 123) (.bool true)).put (some 124) (.bool true)).put (some 125) (x 14)).put (some 126) (x 15)).put (some 127) (x 16)).put (some 128) (x 17)).put (some 129) (x 18)).put (some 130) (x 19)).put (some 131) (.bool true)).put (some 132) (.bool true)).put (some 19) (.bool true)) W) :
    (Code.region 15 (opsAt Tryz.f8 15) true).wp Tryz.prog Q a0 W0 := by
  have d0 : dstOf (opsAt Tryz.f8 15) 0 = some 111 := by kernel_rfl
  have d1 : dstOf (opsAt Tryz.f8 15) 1 = some 112 := by kernel_rfl
  have d2 : dstOf (opsAt Tryz.f8 15) 2 = some 113 := by kernel_rfl
  have d3 : dstOf (opsAt Tryz.f8 15) 3 = some 114 := by kernel_rfl
  have d4 : dstOf (opsAt Tryz.f8 15) 4 = some 115 := by kernel_rfl
  have d5 : dstOf (opsAt Tryz.f8 15) 5 = some 116 := by kernel_rfl
  have d6 : dstOf (opsAt Tryz.f8 15) 6 = some 117 := by kernel_rfl
  have d7 : dstOf (opsAt Tryz.f8 15) 7 = some 118 := by kernel_rfl
  have d8 : dstOf (opsAt Tryz.f8 15) 8 = some 119 := by kernel_rfl
  have d9 : dstOf (opsAt Tryz.f8 15) 9 = some 120 := by kernel_rfl
  have d10 : dstOf (opsAt Tryz.f8 15) 10 = some 121 := by kernel_rfl
  have d11 : dstOf (opsAt Tryz.f8 15) 11 = some 122 := by kernel_rfl
  have d12 : dstOf (opsAt Tryz.f8 15) 12 = some 123 := by kernel_rfl
  have d13 : dstOf (opsAt Tryz.f8 15) 13 = some 124 := by kernel_rfl
  have d14 : dstOf (opsAt Tryz.f8 15) 14 = some 125 := by kernel_rfl
  have d15 : dstOf (opsAt Tryz.f8 15) 15 = some 126 := by kernel_rfl
  have d16 : dstOf (opsAt Tryz.f8 15) 16 = some 127 := by kernel_rfl
  have d17 : dstOf (opsAt Tryz.f8 15) 17 = some 128 := by kernel_rfl
  have d18 : dstOf (opsAt Tryz.f8 15) 18 = some 129 := by kernel_rfl
  have d19 : dstOf (opsAt Tryz.f8 15) 19 = some 130 := by kernel_rfl
  have d20 : dstOf (opsAt Tryz.f8 15) 20 = some 131 := by kernel_rfl
  have d21 : dstOf (opsAt Tryz.f8 15) 21 = some 132 := by kernel_rfl
  have d22 : dstOf (opsAt Tryz.f8 15) 22 = some 19 := by kernel_rfl
  have hsz : (opsAt Tryz.f8 15).size = 23 := by kernel_rfl
  obtain ⟨L, hL⟩ : ∃ L, Hid ((opsAt Tryz.f8 15) = L) := ⟨_, hidi rfl⟩
  have hL2 := hL.out
  unfold opsAt Tryz.f8 at hL2
  simp only [findRegion, Nat.reduceBEq, if_true, if_false, Bool.false_eq_true, Option.getD_some] at hL2
  replace hL2 := hidi hL2
  refine wp_region_facts (by kernel_rfl) (by kernel_rfl) (by kernel_rfl) (by rw [hz]; kernel_rfl) (by kernel_rfl) (fun i => match i with
      | 0 => .intF (0)
      | 1 => .fmF (f)
      | 2 => .fmF (g)
      | 3 => .fmsF [f, g]
      | 4 => .fmF (Fm.mk 16 ⟨#[]⟩ 0 0 [f, g])
      | 5 => .fmF (Fm.mk 4 ⟨#[]⟩ 0 0 [Fm.mk 16 ⟨#[]⟩ 0 0 [f, g]])
      | 6 => .intF (0)
      | 7 => .intF (1)
      | 8 => .fmF (no)
      | 9 => .fmF (ot)
      | 10 => .fmsF [no, ot]
      | 11 => .fmF (Fm.mk 17 ⟨#[]⟩ 1 0 [no, ot])
      | 12 => .boolF true
      | 13 => .boolF true
      | 14 => .fmF (f)
      | 15 => .fmF (Fm.mk 18 ⟨#[]⟩ 0 0 [f])
      | 16 => .fmF (fTrue)
      | 17 => .fmF (f)
      | 18 => .fmsF [fTrue, f]
      | 19 => .fmF (Fm.mk 16 ⟨#[]⟩ 0 0 [fTrue, f])
      | 20 => .boolF true
      | 21 => .boolF true
      | 22 => .boolF true
      | _ => .free) ?_ ?_
  · intro i a W K hi hS hK
    have hEW := hE.below hS.below
    match i, hi, hS, hK with
    | 0, _, hS, hK =>
      rw [d0] at hK
      have h18 := hS.slot (by kernel_rfl) p18
      have e18 := at_eval h18
      rw [hL.out, ← hL2.out]; refine wpOp_of_list' rfl ?_
      go_wp2_with fail
      exact hK _ _ rfl (Below.refl _ _)
    | 1, _, hS, hK =>
      rw [d1] at hK
      have h3 := hS.slot (by kernel_rfl) p3
      have e3 := at_eval h3
      obtain ⟨o3, c3, ⟨b0, b1, b2, b3, b4⟩, hfq⟩ := (B3.out.below hS.below).cells
      rw [hL.out, ← hL2.out]; refine wpOp_of_list' rfl ?_
      go_wp2_with fail
      exact hK _ _ hfq (Below.refl _ _)
    | 2, _, hS, hK =>
      rw [d2] at hK
      have h4 := hS.slot (by kernel_rfl) p4
      have e4 := at_eval h4
      obtain ⟨o4, c4, ⟨b0, b1, b2, b3, b4⟩, hfq⟩ := (B4.out.below hS.below).cells
      rw [hL.out, ← hL2.out]; refine wpOp_of_list' rfl ?_
      go_wp2_with fail
      exact hK _ _ hfq (Below.refl _ _)
    | 3, _, hS, hK =>
      rw [d3] at hK
      obtain ⟨v112, h112, f112⟩ := hS.got 1 (q := .fmF (f)) rfl (by kernel_rfl) d1
      have e112 := at_eval h112
      obtain ⟨v113, h113, f113⟩ := hS.got 2 (q := .fmF (g)) rfl (by kernel_rfl) d2
      have e113 := at_eval h113
      obtain ⟨o112, c112, rfl, hf112, ha112⟩ := fq_open f112
      obtain ⟨o113, c113, rfl, hf113, ha113⟩ := fq_open f113
      rw [hL.out, ← hL2.out]; refine wpOp_of_list' rfl ?_
      go_wp2_with fail
      exact hK _ _ (fms_new2 hf112 hf113 ha112 ha113) (below_box _ _)
    | 4, _, hS, hK =>
      rw [d4] at hK
      obtain ⟨v111, h111, f111⟩ := hS.got 0 (q := .intF (0)) rfl (by kernel_rfl) d0
      obtain rfl : v111 = .int .i64 (0) := f111
      have e111 := at_eval h111
      obtain ⟨v114, h114, f114⟩ := hS.got 3 (q := .fmsF [f, g]) rfl (by kernel_rfl) d3
      have e114 := at_eval h114
      rw [hL.out, ← hL2.out]; refine wpOp_of_list' rfl ?_
      go_wp2_with fail
      refine (reflate_any (fun b => b < W.heap.size ∧ True) 16 0 _ [f, g] W f114 (fun b hb => hb.1) ⟨by decide, by decide⟩ ⟨by decide, by decide⟩).mono ?_
      rintro e W2 ⟨r, rfl, hN, hb⟩
      go_wp2_with fail
      exact hK _ _ (fm_got (Ok := fun _ => True) hN hb (fun _ _ => trivial)) hb
    | 5, _, hS, hK =>
      rw [d5] at hK
      obtain ⟨v115, h115, f115⟩ := hS.got 4 (q := .fmF (Fm.mk 16 ⟨#[]⟩ 0 0 [f, g])) rfl (by kernel_rfl) d4
      have e115 := at_eval h115
      rw [hL.out, ← hL2.out]; refine wpOp_of_list' rfl ?_
      go_wp2_with fail
      refine (refone_any (fun b => b < W.heap.size ∧ True) 4 _ (Fm.mk 16 ⟨#[]⟩ 0 0 [f, g]) W f115 (fun b hb => hb.1) ⟨by decide, by decide⟩).mono ?_
      rintro e W2 ⟨r, rfl, hN, hb⟩
      go_wp2_with fail
      exact hK _ _ (fm_got (Ok := fun _ => True) hN hb (fun _ _ => trivial)) hb
    | 6, _, hS, hK =>
      rw [d6] at hK
      have h18 := hS.slot (by kernel_rfl) p18
      have e18 := at_eval h18
      rw [hL.out, ← hL2.out]; refine wpOp_of_list' rfl ?_
      go_wp2_with fail
      exact hK _ _ rfl (Below.refl _ _)
    | 7, _, hS, hK =>
      rw [d7] at hK
      obtain ⟨v117, h117, f117⟩ := hS.got 6 (q := .intF (0)) rfl (by kernel_rfl) d6
      obtain rfl : v117 = .int .i64 (0) := f117
      have e117 := at_eval h117
      rw [hL.out, ← hL2.out]; refine wpOp_of_list' rfl ?_
      go_wp2_with fail
      exact hK _ _ rfl (Below.refl _ _)
    | 8, _, hS, hK =>
      rw [d8] at hK
      have h14 := hS.slot (by kernel_rfl) p14
      have e14 := at_eval h14
      obtain ⟨o14, c14, ⟨b0, b1, b2, b3, b4⟩, hfq⟩ := (B14.out.below hS.below).cells
      rw [hL.out, ← hL2.out]; refine wpOp_of_list' rfl ?_
      go_wp2_with fail
      exact hK _ _ hfq (Below.refl _ _)
    | 9, _, hS, hK =>
      rw [d9] at hK
      have h15 := hS.slot (by kernel_rfl) p15
      have e15 := at_eval h15
      obtain ⟨o15, c15, ⟨b0, b1, b2, b3, b4⟩, hfq⟩ := (B15.out.below hS.below).cells
      rw [hL.out, ← hL2.out]; refine wpOp_of_list' rfl ?_
      go_wp2_with fail
      exact hK _ _ hfq (Below.refl _ _)
    | 10, _, hS, hK =>
      rw [d10] at hK
      obtain ⟨v119, h119, f119⟩ := hS.got 8 (q := .fmF (no)) rfl (by kernel_rfl) d8
      have e119 := at_eval h119
      obtain ⟨v120, h120, f120⟩ := hS.got 9 (q := .fmF (ot)) rfl (by kernel_rfl) d9
      have e120 := at_eval h120
      obtain ⟨o119, c119, rfl, hf119, ha119⟩ := fq_open f119
      obtain ⟨o120, c120, rfl, hf120, ha120⟩ := fq_open f120
      rw [hL.out, ← hL2.out]; refine wpOp_of_list' rfl ?_
      go_wp2_with fail
      exact hK _ _ (fms_new2 hf119 hf120 ha119 ha120) (below_box _ _)
    | 11, _, hS, hK =>
      rw [d11] at hK
      obtain ⟨v118, h118, f118⟩ := hS.got 7 (q := .intF (1)) rfl (by kernel_rfl) d7
      obtain rfl : v118 = .int .i64 (1) := f118
      have e118 := at_eval h118
      obtain ⟨v121, h121, f121⟩ := hS.got 10 (q := .fmsF [no, ot]) rfl (by kernel_rfl) d10
      have e121 := at_eval h121
      rw [hL.out, ← hL2.out]; refine wpOp_of_list' rfl ?_
      go_wp2_with fail
      refine (reflate_any (fun b => b < W.heap.size ∧ True) 17 1 _ [no, ot] W f121 (fun b hb => hb.1) ⟨by decide, by decide⟩ ⟨by decide, by decide⟩).mono ?_
      rintro e W2 ⟨r, rfl, hN, hb⟩
      go_wp2_with fail
      exact hK _ _ (fm_got (Ok := fun _ => True) hN hb (fun _ _ => trivial)) hb
    | 12, _, hS, hK =>
      rw [d12] at hK
      obtain ⟨v116, h116, f116⟩ := hS.got 5 (q := .fmF (Fm.mk 4 ⟨#[]⟩ 0 0 [Fm.mk 16 ⟨#[]⟩ 0 0 [f, g]])) rfl (by kernel_rfl) d5
      have e116 := at_eval h116
      obtain ⟨v122, h122, f122⟩ := hS.got 11 (q := .fmF (Fm.mk 17 ⟨#[]⟩ 1 0 [no, ot])) rfl (by kernel_rfl) d11
      have e122 := at_eval h122
      rw [hL.out, ← hL2.out]; refine wpOp_of_list' rfl ?_
      go_wp2_with fail
      refine (pair_any W.heap.size (Fm.mk 4 ⟨#[]⟩ 0 0 [Fm.mk 16 ⟨#[]⟩ 0 0 [f, g]]) (Fm.mk 17 ⟨#[]⟩ 1 0 [no, ot]) _ _ W hEW (fm_at f116) (fm_at f122) (Nat.le_refl _) (by simp only [nodes_mk1, Fm.nodesL_cons, Fm.nodesL_nil]; omega) (by simp only [nodes_mk1, Fm.nodesL_cons, Fm.nodesL_nil]; omega)).mono ?_
      rintro e W2 ⟨rfl, hb⟩
      rw [e1.out]
      go_wp2_with fail
      exact hK _ _ rfl hb
    | 13, _, hS, hK =>
      rw [d13] at hK
      obtain ⟨v123, h123, f123⟩ := hS.got 12 (q := .boolF true) rfl (by kernel_rfl) d12
      obtain rfl : v123 = .bool true := f123
      have e123 := at_eval h123
      rw [hL.out, ← hL2.out]; refine wpOp_of_list' rfl ?_
      go_wp2_with fail
      exact hK _ _ rfl (Below.refl _ _)
    | 14, _, hS, hK =>
      rw [d14] at hK
      obtain ⟨v124, h124, f124⟩ := hS.got 13 (q := .boolF true) rfl (by kernel_rfl) d13
      obtain rfl : v124 = .bool true := f124
      have e124 := at_eval h124
      have h3 := hS.slot (by kernel_rfl) p3
      have e3 := at_eval h3
      obtain ⟨o3, c3, ⟨b0, b1, b2, b3, b4⟩, hfq⟩ := (B3.out.below hS.below).cells
      rw [hL.out, ← hL2.out]; refine wpOp_of_list' rfl ?_
      go_wp2_with fail
      exact hK _ _ hfq (Below.refl _ _)
    | 15, _, hS, hK =>
      rw [d15] at hK
      obtain ⟨v124, h124, f124⟩ := hS.got 13 (q := .boolF true) rfl (by kernel_rfl) d13
      obtain rfl : v124 = .bool true := f124
      have e124 := at_eval h124
      obtain ⟨v125, h125, f125⟩ := hS.got 14 (q := .fmF (f)) rfl (by kernel_rfl) d14
      have e125 := at_eval h125
      rw [hL.out, ← hL2.out]; refine wpOp_of_list' rfl ?_
      go_wp2_with fail
      refine (refone_any (fun b => b < W.heap.size ∧ True) 18 _ f W f125 (fun b hb => hb.1) ⟨by decide, by decide⟩).mono ?_
      rintro e W2 ⟨r, rfl, hN, hb⟩
      go_wp2_with fail
      exact hK _ _ (fm_got (Ok := fun _ => True) hN hb (fun _ _ => trivial)) hb
    | 16, _, hS, hK =>
      rw [d16] at hK
      obtain ⟨v124, h124, f124⟩ := hS.got 13 (q := .boolF true) rfl (by kernel_rfl) d13
      obtain rfl : v124 = .bool true := f124
      have e124 := at_eval h124
      rw [hL.out, ← hL2.out]; refine wpOp_of_list' rfl ?_
      go_wp2_with fail
      refine (reftrue_any (fun b => b < W.heap.size ∧ True) W).mono ?_
      rintro e W2 ⟨r, rfl, hN, hb⟩
      go_wp2_with fail
      exact hK _ _ (fm_got (Ok := fun _ => True) hN hb (fun _ _ => trivial)) hb
    | 17, _, hS, hK =>
      rw [d17] at hK
      obtain ⟨v124, h124, f124⟩ := hS.got 13 (q := .boolF true) rfl (by kernel_rfl) d13
      obtain rfl : v124 = .bool true := f124
      have e124 := at_eval h124
      have h3 := hS.slot (by kernel_rfl) p3
      have e3 := at_eval h3
      obtain ⟨o3, c3, ⟨b0, b1, b2, b3, b4⟩, hfq⟩ := (B3.out.below hS.below).cells
      rw [hL.out, ← hL2.out]; refine wpOp_of_list' rfl ?_
      go_wp2_with fail
      exact hK _ _ hfq (Below.refl _ _)
    | 18, _, hS, hK =>
      rw [d18] at hK
      obtain ⟨v124, h124, f124⟩ := hS.got 13 (q := .boolF true) rfl (by kernel_rfl) d13
      obtain rfl : v124 = .bool true := f124
      have e124 := at_eval h124
      obtain ⟨v127, h127, f127⟩ := hS.got 16 (q := .fmF (fTrue)) rfl (by kernel_rfl) d16
      have e127 := at_eval h127
      obtain ⟨v128, h128, f128⟩ := hS.got 17 (q := .fmF (f)) rfl (by kernel_rfl) d17
      have e128 := at_eval h128
      obtain ⟨o127, c127, rfl, hf127, ha127⟩ := fq_open f127
      obtain ⟨o128, c128, rfl, hf128, ha128⟩ := fq_open f128
      rw [hL.out, ← hL2.out]; refine wpOp_of_list' rfl ?_
      go_wp2_with fail
      exact hK _ _ (fms_new2 hf127 hf128 ha127 ha128) (below_box _ _)
    | 19, _, hS, hK =>
      rw [d19] at hK
      obtain ⟨v124, h124, f124⟩ := hS.got 13 (q := .boolF true) rfl (by kernel_rfl) d13
      obtain rfl : v124 = .bool true := f124
      have e124 := at_eval h124
      obtain ⟨v129, h129, f129⟩ := hS.got 18 (q := .fmsF [fTrue, f]) rfl (by kernel_rfl) d18
      have e129 := at_eval h129
      rw [hL.out, ← hL2.out]; refine wpOp_of_list' rfl ?_
      go_wp2_with fail
      refine (reflate_any (fun b => b < W.heap.size ∧ True) 16 0 _ [fTrue, f] W f129 (fun b hb => hb.1) ⟨by decide, by decide⟩ ⟨by decide, by decide⟩).mono ?_
      rintro e W2 ⟨r, rfl, hN, hb⟩
      go_wp2_with fail
      exact hK _ _ (fm_got (Ok := fun _ => True) hN hb (fun _ _ => trivial)) hb
    | 20, _, hS, hK =>
      rw [d20] at hK
      obtain ⟨v124, h124, f124⟩ := hS.got 13 (q := .boolF true) rfl (by kernel_rfl) d13
      obtain rfl : v124 = .bool true := f124
      have e124 := at_eval h124
      obtain ⟨v126, h126, f126⟩ := hS.got 15 (q := .fmF (Fm.mk 18 ⟨#[]⟩ 0 0 [f])) rfl (by kernel_rfl) d15
      have e126 := at_eval h126
      obtain ⟨v130, h130, f130⟩ := hS.got 19 (q := .fmF (Fm.mk 16 ⟨#[]⟩ 0 0 [fTrue, f])) rfl (by kernel_rfl) d19
      have e130 := at_eval h130
      rw [hL.out, ← hL2.out]; refine wpOp_of_list' rfl ?_
      go_wp2_with fail
      refine (pair_any W.heap.size (Fm.mk 18 ⟨#[]⟩ 0 0 [f]) (Fm.mk 16 ⟨#[]⟩ 0 0 [fTrue, f]) _ _ W hEW (fm_at f126) (fm_at f130) (Nat.le_refl _) (by simp only [nodes_mk1, Fm.nodesL_cons, Fm.nodesL_nil]; omega) (by simp only [nodes_mk1, Fm.nodesL_cons, Fm.nodesL_nil]; omega)).mono ?_
      rintro e W2 ⟨rfl, hb⟩
      rw [e2.out]
      go_wp2_with fail
      exact hK _ _ rfl hb
    | 21, _, hS, hK =>
      rw [d21] at hK
      obtain ⟨v124, h124, f124⟩ := hS.got 13 (q := .boolF true) rfl (by kernel_rfl) d13
      obtain rfl : v124 = .bool true := f124
      have e124 := at_eval h124
      obtain ⟨v131, h131, f131⟩ := hS.got 20 (q := .boolF true) rfl (by kernel_rfl) d20
      obtain rfl : v131 = .bool true := f131
      have e131 := at_eval h131
      rw [hL.out, ← hL2.out]; refine wpOp_of_list' rfl ?_
      go_wp2_with fail
      exact hK _ _ rfl (Below.refl _ _)
    | 22, _, hS, hK =>
      rw [d22] at hK
      obtain ⟨v132, h132, f132⟩ := hS.got 21 (q := .boolF true) rfl (by kernel_rfl) d21
      obtain rfl : v132 = .bool true := f132
      have e132 := at_eval h132
      rw [hL.out, ← hL2.out]; refine wpOp_of_list' rfl ?_
      go_wp2_with fail
      exact hK _ _ rfl (Below.refl _ _)
    | n + 23, hi, _, _ => exact absurd hi (by rw [hsz]; omega)
  · intro x W hB hx
    have y0 : x 0 = .int .i64 (0) := hx 0 111 (by rw [hsz]; omega) d0
    have y6 : x 6 = .int .i64 (0) := hx 6 117 (by rw [hsz]; omega) d6
    have y7 : x 7 = .int .i64 (1) := hx 7 118 (by rw [hsz]; omega) d7
    have y12 : x 12 = .bool true := hx 12 123 (by rw [hsz]; omega) d12
    have y13 : x 13 = .bool true := hx 13 124 (by rw [hsz]; omega) d13
    have y20 : x 20 = .bool true := hx 20 131 (by rw [hsz]; omega) d20
    have y21 : x 21 = .bool true := hx 21 132 (by rw [hsz]; omega) d21
    have y22 : x 22 = .bool true := hx 22 19 (by rw [hsz]; omega) d22
    have hl := hend x W hB
    have hr : List.range (opsAt Tryz.f8 15).size = [0, 1, 2, 3, 4, 5, 6, 7, 8, 9, 10, 11, 12, 13, 14, 15, 16, 17, 18, 19, 20, 21, 22] := by rw [hsz]; rfl
    rw [hr]
    simp only [putL, d0, d1, d2, d3, d4, d5, d6, d7, d8, d9, d10, d11, d12, d13, d14, d15, d16, d17, d18, d19, d20, d21, d22]
    simp only [y0, y6, y7, y12, y13, y20, y21, y22]
    exact hl

set_option maxRecDepth 100000 in
set_option maxHeartbeats 8000000 in
theorem exe_r15 {f g no ot : Fm} {k3 k4 k14 k15 : Nat} (a0 : Act) (W0 : World) (Q : Exit → Act → World → Prop) (hE : Env W0) (hz : a0.tmps.size = 146) (p3 : a0.tmps[(3 : Nat)]? = some (.pointer (some ⟨k3, 0, none⟩))) (p4 : a0.tmps[(4 : Nat)]? = some (.pointer (some ⟨k4, 0, none⟩))) (p14 : a0.tmps[(14 : Nat)]? = some (.pointer (some ⟨k14, 0, none⟩))) (p15 : a0.tmps[(15 : Nat)]? = some (.pointer (some ⟨k15, 0, none⟩))) (p18 : a0.tmps[(18 : Nat)]? = some (.int .i64 (1))) (B3 : Hid (Bx W0 k3 (f))) (B4 : Hid (Bx W0 k4 (g))) (B14 : Hid (Bx W0 k14 (no))) (B15 : Hid (Bx W0 k15 (ot))) (e1 : Hid (pairB (Fm.mk 4 ⟨#[]⟩ 0 0 [Fm.mk 16 ⟨#[]⟩ 1 0 [f, g]]) (Fm.mk 17 ⟨#[]⟩ 0 0 [no, ot]) = true)) (e2 : Hid (pairB (Fm.mk 18 ⟨#[]⟩ 0 0 [f]) (Fm.mk 16 ⟨#[]⟩ 0 0 [fTrue, f]) = true)) (n_f : f.nodes ≤ 1000) (n_g : g.nodes ≤ 1000) (n_no : no.nodes ≤ 1000) (n_ot : ot.nodes ≤ 1000) (n_fTrue : fTrue.nodes ≤ 1000)
    (hend : ∀ (x : Nat → Value) (W : World), Below W0.heap.size W0 W → Q .normal (((((((((((((((((((((((a0.put (some 111) (.int .i64 (1))).put (some 112) (x 1)).put (some 113) (x 2)).put (some 114) (x 3)).put (some 115) (x 4)).put (some 116) (x 5)).put (some 117) (.int .i64 (1))).put (some 118) (.int .i64 (0))).put (some 119) (x 8)).put (some 120) (x 9)).put (some 121) (x 10)).put (some 122) (x 11)).put (some 123) (.bool true)).put (some 124) (.bool true)).put (some 125) (x 14)).put (some 126) (x 15)).put (some 127) (x 16)).put (some 128) (x 17)).put (some 129) (x 18)).put (some 130) (x 19)).put (some 131) (.bool true)).put (some 132) (.bool true)).put (some 19) (.bool true)) W) :
    (Code.region 15 (opsAt Tryz.f8 15) true).wp Tryz.prog Q a0 W0 := by
  have d0 : dstOf (opsAt Tryz.f8 15) 0 = some 111 := by kernel_rfl
  have d1 : dstOf (opsAt Tryz.f8 15) 1 = some 112 := by kernel_rfl
  have d2 : dstOf (opsAt Tryz.f8 15) 2 = some 113 := by kernel_rfl
  have d3 : dstOf (opsAt Tryz.f8 15) 3 = some 114 := by kernel_rfl
  have d4 : dstOf (opsAt Tryz.f8 15) 4 = some 115 := by kernel_rfl
  have d5 : dstOf (opsAt Tryz.f8 15) 5 = some 116 := by kernel_rfl
  have d6 : dstOf (opsAt Tryz.f8 15) 6 = some 117 := by kernel_rfl
  have d7 : dstOf (opsAt Tryz.f8 15) 7 = some 118 := by kernel_rfl
  have d8 : dstOf (opsAt Tryz.f8 15) 8 = some 119 := by kernel_rfl
  have d9 : dstOf (opsAt Tryz.f8 15) 9 = some 120 := by kernel_rfl
  have d10 : dstOf (opsAt Tryz.f8 15) 10 = some 121 := by kernel_rfl
  have d11 : dstOf (opsAt Tryz.f8 15) 11 = some 122 := by kernel_rfl
  have d12 : dstOf (opsAt Tryz.f8 15) 12 = some 123 := by kernel_rfl
  have d13 : dstOf (opsAt Tryz.f8 15) 13 = some 124 := by kernel_rfl
  have d14 : dstOf (opsAt Tryz.f8 15) 14 = some 125 := by kernel_rfl
  have d15 : dstOf (opsAt Tryz.f8 15) 15 = some 126 := by kernel_rfl
  have d16 : dstOf (opsAt Tryz.f8 15) 16 = some 127 := by kernel_rfl
  have d17 : dstOf (opsAt Tryz.f8 15) 17 = some 128 := by kernel_rfl
  have d18 : dstOf (opsAt Tryz.f8 15) 18 = some 129 := by kernel_rfl
  have d19 : dstOf (opsAt Tryz.f8 15) 19 = some 130 := by kernel_rfl
  have d20 : dstOf (opsAt Tryz.f8 15) 20 = some 131 := by kernel_rfl
  have d21 : dstOf (opsAt Tryz.f8 15) 21 = some 132 := by kernel_rfl
  have d22 : dstOf (opsAt Tryz.f8 15) 22 = some 19 := by kernel_rfl
  have hsz : (opsAt Tryz.f8 15).size = 23 := by kernel_rfl
  obtain ⟨L, hL⟩ : ∃ L, Hid ((opsAt Tryz.f8 15) = L) := ⟨_, hidi rfl⟩
  have hL2 := hL.out
  unfold opsAt Tryz.f8 at hL2
  simp only [findRegion, Nat.reduceBEq, if_true, if_false, Bool.false_eq_true, Option.getD_some] at hL2
  replace hL2 := hidi hL2
  refine wp_region_facts (by kernel_rfl) (by kernel_rfl) (by kernel_rfl) (by rw [hz]; kernel_rfl) (by kernel_rfl) (fun i => match i with
      | 0 => .intF (1)
      | 1 => .fmF (f)
      | 2 => .fmF (g)
      | 3 => .fmsF [f, g]
      | 4 => .fmF (Fm.mk 16 ⟨#[]⟩ 1 0 [f, g])
      | 5 => .fmF (Fm.mk 4 ⟨#[]⟩ 0 0 [Fm.mk 16 ⟨#[]⟩ 1 0 [f, g]])
      | 6 => .intF (1)
      | 7 => .intF (0)
      | 8 => .fmF (no)
      | 9 => .fmF (ot)
      | 10 => .fmsF [no, ot]
      | 11 => .fmF (Fm.mk 17 ⟨#[]⟩ 0 0 [no, ot])
      | 12 => .boolF true
      | 13 => .boolF true
      | 14 => .fmF (f)
      | 15 => .fmF (Fm.mk 18 ⟨#[]⟩ 0 0 [f])
      | 16 => .fmF (fTrue)
      | 17 => .fmF (f)
      | 18 => .fmsF [fTrue, f]
      | 19 => .fmF (Fm.mk 16 ⟨#[]⟩ 0 0 [fTrue, f])
      | 20 => .boolF true
      | 21 => .boolF true
      | 22 => .boolF true
      | _ => .free) ?_ ?_
  · intro i a W K hi hS hK
    have hEW := hE.below hS.below
    match i, hi, hS, hK with
    | 0, _, hS, hK =>
      rw [d0] at hK
      have h18 := hS.slot (by kernel_rfl) p18
      have e18 := at_eval h18
      rw [hL.out, ← hL2.out]; refine wpOp_of_list' rfl ?_
      go_wp2_with fail
      exact hK _ _ rfl (Below.refl _ _)
    | 1, _, hS, hK =>
      rw [d1] at hK
      have h3 := hS.slot (by kernel_rfl) p3
      have e3 := at_eval h3
      obtain ⟨o3, c3, ⟨b0, b1, b2, b3, b4⟩, hfq⟩ := (B3.out.below hS.below).cells
      rw [hL.out, ← hL2.out]; refine wpOp_of_list' rfl ?_
      go_wp2_with fail
      exact hK _ _ hfq (Below.refl _ _)
    | 2, _, hS, hK =>
      rw [d2] at hK
      have h4 := hS.slot (by kernel_rfl) p4
      have e4 := at_eval h4
      obtain ⟨o4, c4, ⟨b0, b1, b2, b3, b4⟩, hfq⟩ := (B4.out.below hS.below).cells
      rw [hL.out, ← hL2.out]; refine wpOp_of_list' rfl ?_
      go_wp2_with fail
      exact hK _ _ hfq (Below.refl _ _)
    | 3, _, hS, hK =>
      rw [d3] at hK
      obtain ⟨v112, h112, f112⟩ := hS.got 1 (q := .fmF (f)) rfl (by kernel_rfl) d1
      have e112 := at_eval h112
      obtain ⟨v113, h113, f113⟩ := hS.got 2 (q := .fmF (g)) rfl (by kernel_rfl) d2
      have e113 := at_eval h113
      obtain ⟨o112, c112, rfl, hf112, ha112⟩ := fq_open f112
      obtain ⟨o113, c113, rfl, hf113, ha113⟩ := fq_open f113
      rw [hL.out, ← hL2.out]; refine wpOp_of_list' rfl ?_
      go_wp2_with fail
      exact hK _ _ (fms_new2 hf112 hf113 ha112 ha113) (below_box _ _)
    | 4, _, hS, hK =>
      rw [d4] at hK
      obtain ⟨v111, h111, f111⟩ := hS.got 0 (q := .intF (1)) rfl (by kernel_rfl) d0
      obtain rfl : v111 = .int .i64 (1) := f111
      have e111 := at_eval h111
      obtain ⟨v114, h114, f114⟩ := hS.got 3 (q := .fmsF [f, g]) rfl (by kernel_rfl) d3
      have e114 := at_eval h114
      rw [hL.out, ← hL2.out]; refine wpOp_of_list' rfl ?_
      go_wp2_with fail
      refine (reflate_any (fun b => b < W.heap.size ∧ True) 16 1 _ [f, g] W f114 (fun b hb => hb.1) ⟨by decide, by decide⟩ ⟨by decide, by decide⟩).mono ?_
      rintro e W2 ⟨r, rfl, hN, hb⟩
      go_wp2_with fail
      exact hK _ _ (fm_got (Ok := fun _ => True) hN hb (fun _ _ => trivial)) hb
    | 5, _, hS, hK =>
      rw [d5] at hK
      obtain ⟨v115, h115, f115⟩ := hS.got 4 (q := .fmF (Fm.mk 16 ⟨#[]⟩ 1 0 [f, g])) rfl (by kernel_rfl) d4
      have e115 := at_eval h115
      rw [hL.out, ← hL2.out]; refine wpOp_of_list' rfl ?_
      go_wp2_with fail
      refine (refone_any (fun b => b < W.heap.size ∧ True) 4 _ (Fm.mk 16 ⟨#[]⟩ 1 0 [f, g]) W f115 (fun b hb => hb.1) ⟨by decide, by decide⟩).mono ?_
      rintro e W2 ⟨r, rfl, hN, hb⟩
      go_wp2_with fail
      exact hK _ _ (fm_got (Ok := fun _ => True) hN hb (fun _ _ => trivial)) hb
    | 6, _, hS, hK =>
      rw [d6] at hK
      have h18 := hS.slot (by kernel_rfl) p18
      have e18 := at_eval h18
      rw [hL.out, ← hL2.out]; refine wpOp_of_list' rfl ?_
      go_wp2_with fail
      exact hK _ _ rfl (Below.refl _ _)
    | 7, _, hS, hK =>
      rw [d7] at hK
      obtain ⟨v117, h117, f117⟩ := hS.got 6 (q := .intF (1)) rfl (by kernel_rfl) d6
      obtain rfl : v117 = .int .i64 (1) := f117
      have e117 := at_eval h117
      rw [hL.out, ← hL2.out]; refine wpOp_of_list' rfl ?_
      go_wp2_with fail
      exact hK _ _ rfl (Below.refl _ _)
    | 8, _, hS, hK =>
      rw [d8] at hK
      have h14 := hS.slot (by kernel_rfl) p14
      have e14 := at_eval h14
      obtain ⟨o14, c14, ⟨b0, b1, b2, b3, b4⟩, hfq⟩ := (B14.out.below hS.below).cells
      rw [hL.out, ← hL2.out]; refine wpOp_of_list' rfl ?_
      go_wp2_with fail
      exact hK _ _ hfq (Below.refl _ _)
    | 9, _, hS, hK =>
      rw [d9] at hK
      have h15 := hS.slot (by kernel_rfl) p15
      have e15 := at_eval h15
      obtain ⟨o15, c15, ⟨b0, b1, b2, b3, b4⟩, hfq⟩ := (B15.out.below hS.below).cells
      rw [hL.out, ← hL2.out]; refine wpOp_of_list' rfl ?_
      go_wp2_with fail
      exact hK _ _ hfq (Below.refl _ _)
    | 10, _, hS, hK =>
      rw [d10] at hK
      obtain ⟨v119, h119, f119⟩ := hS.got 8 (q := .fmF (no)) rfl (by kernel_rfl) d8
      have e119 := at_eval h119
      obtain ⟨v120, h120, f120⟩ := hS.got 9 (q := .fmF (ot)) rfl (by kernel_rfl) d9
      have e120 := at_eval h120
      obtain ⟨o119, c119, rfl, hf119, ha119⟩ := fq_open f119
      obtain ⟨o120, c120, rfl, hf120, ha120⟩ := fq_open f120
      rw [hL.out, ← hL2.out]; refine wpOp_of_list' rfl ?_
      go_wp2_with fail
      exact hK _ _ (fms_new2 hf119 hf120 ha119 ha120) (below_box _ _)
    | 11, _, hS, hK =>
      rw [d11] at hK
      obtain ⟨v118, h118, f118⟩ := hS.got 7 (q := .intF (0)) rfl (by kernel_rfl) d7
      obtain rfl : v118 = .int .i64 (0) := f118
      have e118 := at_eval h118
      obtain ⟨v121, h121, f121⟩ := hS.got 10 (q := .fmsF [no, ot]) rfl (by kernel_rfl) d10
      have e121 := at_eval h121
      rw [hL.out, ← hL2.out]; refine wpOp_of_list' rfl ?_
      go_wp2_with fail
      refine (reflate_any (fun b => b < W.heap.size ∧ True) 17 0 _ [no, ot] W f121 (fun b hb => hb.1) ⟨by decide, by decide⟩ ⟨by decide, by decide⟩).mono ?_
      rintro e W2 ⟨r, rfl, hN, hb⟩
      go_wp2_with fail
      exact hK _ _ (fm_got (Ok := fun _ => True) hN hb (fun _ _ => trivial)) hb
    | 12, _, hS, hK =>
      rw [d12] at hK
      obtain ⟨v116, h116, f116⟩ := hS.got 5 (q := .fmF (Fm.mk 4 ⟨#[]⟩ 0 0 [Fm.mk 16 ⟨#[]⟩ 1 0 [f, g]])) rfl (by kernel_rfl) d5
      have e116 := at_eval h116
      obtain ⟨v122, h122, f122⟩ := hS.got 11 (q := .fmF (Fm.mk 17 ⟨#[]⟩ 0 0 [no, ot])) rfl (by kernel_rfl) d11
      have e122 := at_eval h122
      rw [hL.out, ← hL2.out]; refine wpOp_of_list' rfl ?_
      go_wp2_with fail
      refine (pair_any W.heap.size (Fm.mk 4 ⟨#[]⟩ 0 0 [Fm.mk 16 ⟨#[]⟩ 1 0 [f, g]]) (Fm.mk 17 ⟨#[]⟩ 0 0 [no, ot]) _ _ W hEW (fm_at f116) (fm_at f122) (Nat.le_refl _) (by simp only [nodes_mk1, Fm.nodesL_cons, Fm.nodesL_nil]; omega) (by simp only [nodes_mk1, Fm.nodesL_cons, Fm.nodesL_nil]; omega)).mono ?_
      rintro e W2 ⟨rfl, hb⟩
      rw [e1.out]
      go_wp2_with fail
      exact hK _ _ rfl hb
    | 13, _, hS, hK =>
      rw [d13] at hK
      obtain ⟨v123, h123, f123⟩ := hS.got 12 (q := .boolF true) rfl (by kernel_rfl) d12
      obtain rfl : v123 = .bool true := f123
      have e123 := at_eval h123
      rw [hL.out, ← hL2.out]; refine wpOp_of_list' rfl ?_
      go_wp2_with fail
      exact hK _ _ rfl (Below.refl _ _)
    | 14, _, hS, hK =>
      rw [d14] at hK
      obtain ⟨v124, h124, f124⟩ := hS.got 13 (q := .boolF true) rfl (by kernel_rfl) d13
      obtain rfl : v124 = .bool true := f124
      have e124 := at_eval h124
      have h3 := hS.slot (by kernel_rfl) p3
      have e3 := at_eval h3
      obtain ⟨o3, c3, ⟨b0, b1, b2, b3, b4⟩, hfq⟩ := (B3.out.below hS.below).cells
      rw [hL.out, ← hL2.out]; refine wpOp_of_list' rfl ?_
      go_wp2_with fail
      exact hK _ _ hfq (Below.refl _ _)
    | 15, _, hS, hK =>
      rw [d15] at hK
      obtain ⟨v124, h124, f124⟩ := hS.got 13 (q := .boolF true) rfl (by kernel_rfl) d13
      obtain rfl : v124 = .bool true := f124
      have e124 := at_eval h124
      obtain ⟨v125, h125, f125⟩ := hS.got 14 (q := .fmF (f)) rfl (by kernel_rfl) d14
      have e125 := at_eval h125
      rw [hL.out, ← hL2.out]; refine wpOp_of_list' rfl ?_
      go_wp2_with fail
      refine (refone_any (fun b => b < W.heap.size ∧ True) 18 _ f W f125 (fun b hb => hb.1) ⟨by decide, by decide⟩).mono ?_
      rintro e W2 ⟨r, rfl, hN, hb⟩
      go_wp2_with fail
      exact hK _ _ (fm_got (Ok := fun _ => True) hN hb (fun _ _ => trivial)) hb
    | 16, _, hS, hK =>
      rw [d16] at hK
      obtain ⟨v124, h124, f124⟩ := hS.got 13 (q := .boolF true) rfl (by kernel_rfl) d13
      obtain rfl : v124 = .bool true := f124
      have e124 := at_eval h124
      rw [hL.out, ← hL2.out]; refine wpOp_of_list' rfl ?_
      go_wp2_with fail
      refine (reftrue_any (fun b => b < W.heap.size ∧ True) W).mono ?_
      rintro e W2 ⟨r, rfl, hN, hb⟩
      go_wp2_with fail
      exact hK _ _ (fm_got (Ok := fun _ => True) hN hb (fun _ _ => trivial)) hb
    | 17, _, hS, hK =>
      rw [d17] at hK
      obtain ⟨v124, h124, f124⟩ := hS.got 13 (q := .boolF true) rfl (by kernel_rfl) d13
      obtain rfl : v124 = .bool true := f124
      have e124 := at_eval h124
      have h3 := hS.slot (by kernel_rfl) p3
      have e3 := at_eval h3
      obtain ⟨o3, c3, ⟨b0, b1, b2, b3, b4⟩, hfq⟩ := (B3.out.below hS.below).cells
      rw [hL.out, ← hL2.out]; refine wpOp_of_list' rfl ?_
      go_wp2_with fail
      exact hK _ _ hfq (Below.refl _ _)
    | 18, _, hS, hK =>
      rw [d18] at hK
      obtain ⟨v124, h124, f124⟩ := hS.got 13 (q := .boolF true) rfl (by kernel_rfl) d13
      obtain rfl : v124 = .bool true := f124
      have e124 := at_eval h124
      obtain ⟨v127, h127, f127⟩ := hS.got 16 (q := .fmF (fTrue)) rfl (by kernel_rfl) d16
      have e127 := at_eval h127
      obtain ⟨v128, h128, f128⟩ := hS.got 17 (q := .fmF (f)) rfl (by kernel_rfl) d17
      have e128 := at_eval h128
      obtain ⟨o127, c127, rfl, hf127, ha127⟩ := fq_open f127
      obtain ⟨o128, c128, rfl, hf128, ha128⟩ := fq_open f128
      rw [hL.out, ← hL2.out]; refine wpOp_of_list' rfl ?_
      go_wp2_with fail
      exact hK _ _ (fms_new2 hf127 hf128 ha127 ha128) (below_box _ _)
    | 19, _, hS, hK =>
      rw [d19] at hK
      obtain ⟨v124, h124, f124⟩ := hS.got 13 (q := .boolF true) rfl (by kernel_rfl) d13
      obtain rfl : v124 = .bool true := f124
      have e124 := at_eval h124
      obtain ⟨v129, h129, f129⟩ := hS.got 18 (q := .fmsF [fTrue, f]) rfl (by kernel_rfl) d18
      have e129 := at_eval h129
      rw [hL.out, ← hL2.out]; refine wpOp_of_list' rfl ?_
      go_wp2_with fail
      refine (reflate_any (fun b => b < W.heap.size ∧ True) 16 0 _ [fTrue, f] W f129 (fun b hb => hb.1) ⟨by decide, by decide⟩ ⟨by decide, by decide⟩).mono ?_
      rintro e W2 ⟨r, rfl, hN, hb⟩
      go_wp2_with fail
      exact hK _ _ (fm_got (Ok := fun _ => True) hN hb (fun _ _ => trivial)) hb
    | 20, _, hS, hK =>
      rw [d20] at hK
      obtain ⟨v124, h124, f124⟩ := hS.got 13 (q := .boolF true) rfl (by kernel_rfl) d13
      obtain rfl : v124 = .bool true := f124
      have e124 := at_eval h124
      obtain ⟨v126, h126, f126⟩ := hS.got 15 (q := .fmF (Fm.mk 18 ⟨#[]⟩ 0 0 [f])) rfl (by kernel_rfl) d15
      have e126 := at_eval h126
      obtain ⟨v130, h130, f130⟩ := hS.got 19 (q := .fmF (Fm.mk 16 ⟨#[]⟩ 0 0 [fTrue, f])) rfl (by kernel_rfl) d19
      have e130 := at_eval h130
      rw [hL.out, ← hL2.out]; refine wpOp_of_list' rfl ?_
      go_wp2_with fail
      refine (pair_any W.heap.size (Fm.mk 18 ⟨#[]⟩ 0 0 [f]) (Fm.mk 16 ⟨#[]⟩ 0 0 [fTrue, f]) _ _ W hEW (fm_at f126) (fm_at f130) (Nat.le_refl _) (by simp only [nodes_mk1, Fm.nodesL_cons, Fm.nodesL_nil]; omega) (by simp only [nodes_mk1, Fm.nodesL_cons, Fm.nodesL_nil]; omega)).mono ?_
      rintro e W2 ⟨rfl, hb⟩
      rw [e2.out]
      go_wp2_with fail
      exact hK _ _ rfl hb
    | 21, _, hS, hK =>
      rw [d21] at hK
      obtain ⟨v124, h124, f124⟩ := hS.got 13 (q := .boolF true) rfl (by kernel_rfl) d13
      obtain rfl : v124 = .bool true := f124
      have e124 := at_eval h124
      obtain ⟨v131, h131, f131⟩ := hS.got 20 (q := .boolF true) rfl (by kernel_rfl) d20
      obtain rfl : v131 = .bool true := f131
      have e131 := at_eval h131
      rw [hL.out, ← hL2.out]; refine wpOp_of_list' rfl ?_
      go_wp2_with fail
      exact hK _ _ rfl (Below.refl _ _)
    | 22, _, hS, hK =>
      rw [d22] at hK
      obtain ⟨v132, h132, f132⟩ := hS.got 21 (q := .boolF true) rfl (by kernel_rfl) d21
      obtain rfl : v132 = .bool true := f132
      have e132 := at_eval h132
      rw [hL.out, ← hL2.out]; refine wpOp_of_list' rfl ?_
      go_wp2_with fail
      exact hK _ _ rfl (Below.refl _ _)
    | n + 23, hi, _, _ => exact absurd hi (by rw [hsz]; omega)
  · intro x W hB hx
    have y0 : x 0 = .int .i64 (1) := hx 0 111 (by rw [hsz]; omega) d0
    have y6 : x 6 = .int .i64 (1) := hx 6 117 (by rw [hsz]; omega) d6
    have y7 : x 7 = .int .i64 (0) := hx 7 118 (by rw [hsz]; omega) d7
    have y12 : x 12 = .bool true := hx 12 123 (by rw [hsz]; omega) d12
    have y13 : x 13 = .bool true := hx 13 124 (by rw [hsz]; omega) d13
    have y20 : x 20 = .bool true := hx 20 131 (by rw [hsz]; omega) d20
    have y21 : x 21 = .bool true := hx 21 132 (by rw [hsz]; omega) d21
    have y22 : x 22 = .bool true := hx 22 19 (by rw [hsz]; omega) d22
    have hl := hend x W hB
    have hr : List.range (opsAt Tryz.f8 15).size = [0, 1, 2, 3, 4, 5, 6, 7, 8, 9, 10, 11, 12, 13, 14, 15, 16, 17, 18, 19, 20, 21, 22] := by rw [hsz]; rfl
    rw [hr]
    simp only [putL, d0, d1, d2, d3, d4, d5, d6, d7, d8, d9, d10, d11, d12, d13, d14, d15, d16, d17, d18, d19, d20, d21, d22]
    simp only [y0, y6, y7, y12, y13, y20, y21, y22]
    exact hl

end Go.Proofs.YtlkoacopknolnaaGreatDoor
