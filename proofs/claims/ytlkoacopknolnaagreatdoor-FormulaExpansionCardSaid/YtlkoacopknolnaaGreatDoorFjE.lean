/-
  The drawn regions of FormulaExpansion.
-/
import Derived.Test.YtlkoacopknolnaaGreatDoorFjB
import Derived.Test.YtlkoacopknolnaaGreatDoorFiP
namespace Go.Proofs.YtlkoacopknolnaaGreatDoor
open Go.RowKit

theorem nodes_mk1 (o : Int) (n : ByteArray) (v b : Int) (l : List Fm) : (Fm.mk o n v b l).nodes = 1 + Fm.nodesL l := Fm.nodes_eq _

set_option maxRecDepth 100000 in
set_option maxHeartbeats 8000000 in
theorem exa_r9 {f wi du mo lo : Fm} {k3 k9 k10 k11 k12 : Nat} (a0 : Act) (W0 : World) (Q : Exit → Act → World → Prop) (hE : Env W0) (hz : a0.tmps.size = 146) (p3 : a0.tmps[(3 : Nat)]? = some (.pointer (some ⟨k3, 0, none⟩))) (p9 : a0.tmps[(9 : Nat)]? = some (.pointer (some ⟨k9, 0, none⟩))) (p10 : a0.tmps[(10 : Nat)]? = some (.pointer (some ⟨k10, 0, none⟩))) (p11 : a0.tmps[(11 : Nat)]? = some (.pointer (some ⟨k11, 0, none⟩))) (p12 : a0.tmps[(12 : Nat)]? = some (.pointer (some ⟨k12, 0, none⟩))) (B3 : Hid (Bx W0 k3 (f))) (B9 : Hid (Bx W0 k9 (wi))) (B10 : Hid (Bx W0 k10 (du))) (B11 : Hid (Bx W0 k11 (mo))) (B12 : Hid (Bx W0 k12 (lo))) (e1 : Hid (pairB mo (Fm.mk 6 ⟨#[]⟩ 0 0 [f, Fm.mk 8 ⟨#[]⟩ 0 0 [wi]]) = true)) (e2 : Hid (pairB lo (Fm.mk 5 ⟨#[]⟩ 0 0 [f, Fm.mk 8 ⟨#[]⟩ 0 0 [du]]) = true)) (n_f : f.nodes ≤ 1000) (n_wi : wi.nodes ≤ 1000) (n_du : du.nodes ≤ 1000) (n_mo : mo.nodes ≤ 1000) (n_lo : lo.nodes ≤ 1000)
    (hend : ∀ (x : Nat → Value) (W : World), Below W0.heap.size W0 W → Q .normal (((((((((((((((a0.put (some 51) (x 0)).put (some 52) (x 1)).put (some 53) (x 2)).put (some 54) (x 3)).put (some 55) (x 4)).put (some 56) (.bool true)).put (some 57) (.bool true)).put (some 58) (x 7)).put (some 59) (x 8)).put (some 60) (x 9)).put (some 61) (x 10)).put (some 62) (x 11)).put (some 63) (.bool true)).put (some 64) (.bool true)).put (some 13) (.bool true)) W) :
    (Code.region 9 (opsAt Tryz.f8 9) true).wp Tryz.prog Q a0 W0 := by
  have d0 : dstOf (opsAt Tryz.f8 9) 0 = some 51 := by kernel_rfl
  have d1 : dstOf (opsAt Tryz.f8 9) 1 = some 52 := by kernel_rfl
  have d2 : dstOf (opsAt Tryz.f8 9) 2 = some 53 := by kernel_rfl
  have d3 : dstOf (opsAt Tryz.f8 9) 3 = some 54 := by kernel_rfl
  have d4 : dstOf (opsAt Tryz.f8 9) 4 = some 55 := by kernel_rfl
  have d5 : dstOf (opsAt Tryz.f8 9) 5 = some 56 := by kernel_rfl
  have d6 : dstOf (opsAt Tryz.f8 9) 6 = some 57 := by kernel_rfl
  have d7 : dstOf (opsAt Tryz.f8 9) 7 = some 58 := by kernel_rfl
  have d8 : dstOf (opsAt Tryz.f8 9) 8 = some 59 := by kernel_rfl
  have d9 : dstOf (opsAt Tryz.f8 9) 9 = some 60 := by kernel_rfl
  have d10 : dstOf (opsAt Tryz.f8 9) 10 = some 61 := by kernel_rfl
  have d11 : dstOf (opsAt Tryz.f8 9) 11 = some 62 := by kernel_rfl
  have d12 : dstOf (opsAt Tryz.f8 9) 12 = some 63 := by kernel_rfl
  have d13 : dstOf (opsAt Tryz.f8 9) 13 = some 64 := by kernel_rfl
  have d14 : dstOf (opsAt Tryz.f8 9) 14 = some 13 := by kernel_rfl
  have hsz : (opsAt Tryz.f8 9).size = 15 := by kernel_rfl
  obtain ⟨L, hL⟩ : ∃ L, Hid ((opsAt Tryz.f8 9) = L) := ⟨_, hidi rfl⟩
  have hL2 := hL.out
  unfold opsAt Tryz.f8 at hL2
  simp only [findRegion, Nat.reduceBEq, if_true, if_false, Bool.false_eq_true, Option.getD_some] at hL2
  replace hL2 := hidi hL2
  refine wp_region_facts (by kernel_rfl) (by kernel_rfl) (by kernel_rfl) (by rw [hz]; kernel_rfl) (by kernel_rfl) (fun i => match i with
      | 0 => .fmF (mo)
      | 1 => .fmF (f)
      | 2 => .fmF (wi)
      | 3 => .fmF (Fm.mk 8 ⟨#[]⟩ 0 0 [wi])
      | 4 => .fmF (Fm.mk 6 ⟨#[]⟩ 0 0 [f, Fm.mk 8 ⟨#[]⟩ 0 0 [wi]])
      | 5 => .boolF true
      | 6 => .boolF true
      | 7 => .fmF (lo)
      | 8 => .fmF (f)
      | 9 => .fmF (du)
      | 10 => .fmF (Fm.mk 8 ⟨#[]⟩ 0 0 [du])
      | 11 => .fmF (Fm.mk 5 ⟨#[]⟩ 0 0 [f, Fm.mk 8 ⟨#[]⟩ 0 0 [du]])
      | 12 => .boolF true
      | 13 => .boolF true
      | 14 => .boolF true
      | _ => .free) ?_ ?_
  · intro i a W K hi hS hK
    have hEW := hE.below hS.below
    match i, hi, hS, hK with
    | 0, _, hS, hK =>
      rw [d0] at hK
      have h11 := hS.slot (by kernel_rfl) p11
      have e11 := at_eval h11
      obtain ⟨o11, c11, ⟨b0, b1, b2, b3, b4⟩, hfq⟩ := (B11.out.below hS.below).cells
      rw [hL.out, ← hL2.out]; refine wpOp_of_list' rfl ?_
      go_wp2_with fail
      exact hK _ _ hfq (Below.refl _ _)
    | 1, _, hS, hK =>
      rw [d1] at hK
      have h3 := hS.slot (by kernel_rfl) p3
      have e3 := at_eval h3
      obtain ⟨o3, c3, ⟨b0, b1, b2, b3, b4⟩, hfq⟩ := (B3.out.below hS.below).cells
      rw [hL.out, ← hL2.out]; refine wpOp_of_list' rfl ?_
      go_wp2_with fail
      exact hK _ _ hfq (Below.refl _ _)
    | 2, _, hS, hK =>
      rw [d2] at hK
      have h9 := hS.slot (by kernel_rfl) p9
      have e9 := at_eval h9
      obtain ⟨o9, c9, ⟨b0, b1, b2, b3, b4⟩, hfq⟩ := (B9.out.below hS.below).cells
      rw [hL.out, ← hL2.out]; refine wpOp_of_list' rfl ?_
      go_wp2_with fail
      exact hK _ _ hfq (Below.refl _ _)
    | 3, _, hS, hK =>
      rw [d3] at hK
      obtain ⟨v53, h53, f53⟩ := hS.got 2 (q := .fmF (wi)) rfl (by kernel_rfl) d2
      have e53 := at_eval h53
      rw [hL.out, ← hL2.out]; refine wpOp_of_list' rfl ?_
      go_wp2_with fail
      refine (refone_any (fun b => b < W.heap.size ∧ True) 8 _ wi W f53 (fun b hb => hb.1) ⟨by decide, by decide⟩).mono ?_
      rintro e W2 ⟨r, rfl, hN, hb⟩
      go_wp2_with fail
      exact hK _ _ (fm_got (Ok := fun _ => True) hN hb (fun _ _ => trivial)) hb
    | 4, _, hS, hK =>
      rw [d4] at hK
      obtain ⟨v52, h52, f52⟩ := hS.got 1 (q := .fmF (f)) rfl (by kernel_rfl) d1
      have e52 := at_eval h52
      obtain ⟨v54, h54, f54⟩ := hS.got 3 (q := .fmF (Fm.mk 8 ⟨#[]⟩ 0 0 [wi])) rfl (by kernel_rfl) d3
      have e54 := at_eval h54
      rw [hL.out, ← hL2.out]; refine wpOp_of_list' rfl ?_
      go_wp2_with fail
      refine (reftwo_any (fun b => b < W.heap.size ∧ True) 6 _ _ f (Fm.mk 8 ⟨#[]⟩ 0 0 [wi]) W f52 f54 (fun b hb => hb.1) ⟨by decide, by decide⟩).mono ?_
      rintro e W2 ⟨r, rfl, hN, hb⟩
      go_wp2_with fail
      exact hK _ _ (fm_got (Ok := fun _ => True) hN hb (fun _ _ => trivial)) hb
    | 5, _, hS, hK =>
      rw [d5] at hK
      obtain ⟨v51, h51, f51⟩ := hS.got 0 (q := .fmF (mo)) rfl (by kernel_rfl) d0
      have e51 := at_eval h51
      obtain ⟨v55, h55, f55⟩ := hS.got 4 (q := .fmF (Fm.mk 6 ⟨#[]⟩ 0 0 [f, Fm.mk 8 ⟨#[]⟩ 0 0 [wi]])) rfl (by kernel_rfl) d4
      have e55 := at_eval h55
      rw [hL.out, ← hL2.out]; refine wpOp_of_list' rfl ?_
      go_wp2_with fail
      refine (pair_any W.heap.size mo (Fm.mk 6 ⟨#[]⟩ 0 0 [f, Fm.mk 8 ⟨#[]⟩ 0 0 [wi]]) _ _ W hEW (fm_at f51) (fm_at f55) (Nat.le_refl _) (by omega) (by simp only [nodes_mk1, Fm.nodesL_cons, Fm.nodesL_nil]; omega)).mono ?_
      rintro e W2 ⟨rfl, hb⟩
      rw [e1.out]
      go_wp2_with fail
      exact hK _ _ rfl hb
    | 6, _, hS, hK =>
      rw [d6] at hK
      obtain ⟨v56, h56, f56⟩ := hS.got 5 (q := .boolF true) rfl (by kernel_rfl) d5
      obtain rfl : v56 = .bool true := f56
      have e56 := at_eval h56
      rw [hL.out, ← hL2.out]; refine wpOp_of_list' rfl ?_
      go_wp2_with fail
      exact hK _ _ rfl (Below.refl _ _)
    | 7, _, hS, hK =>
      rw [d7] at hK
      obtain ⟨v57, h57, f57⟩ := hS.got 6 (q := .boolF true) rfl (by kernel_rfl) d6
      obtain rfl : v57 = .bool true := f57
      have e57 := at_eval h57
      have h12 := hS.slot (by kernel_rfl) p12
      have e12 := at_eval h12
      obtain ⟨o12, c12, ⟨b0, b1, b2, b3, b4⟩, hfq⟩ := (B12.out.below hS.below).cells
      rw [hL.out, ← hL2.out]; refine wpOp_of_list' rfl ?_
      go_wp2_with fail
      exact hK _ _ hfq (Below.refl _ _)
    | 8, _, hS, hK =>
      rw [d8] at hK
      obtain ⟨v57, h57, f57⟩ := hS.got 6 (q := .boolF true) rfl (by kernel_rfl) d6
      obtain rfl : v57 = .bool true := f57
      have e57 := at_eval h57
      have h3 := hS.slot (by kernel_rfl) p3
      have e3 := at_eval h3
      obtain ⟨o3, c3, ⟨b0, b1, b2, b3, b4⟩, hfq⟩ := (B3.out.below hS.below).cells
      rw [hL.out, ← hL2.out]; refine wpOp_of_list' rfl ?_
      go_wp2_with fail
      exact hK _ _ hfq (Below.refl _ _)
    | 9, _, hS, hK =>
      rw [d9] at hK
      obtain ⟨v57, h57, f57⟩ := hS.got 6 (q := .boolF true) rfl (by kernel_rfl) d6
      obtain rfl : v57 = .bool true := f57
      have e57 := at_eval h57
      have h10 := hS.slot (by kernel_rfl) p10
      have e10 := at_eval h10
      obtain ⟨o10, c10, ⟨b0, b1, b2, b3, b4⟩, hfq⟩ := (B10.out.below hS.below).cells
      rw [hL.out, ← hL2.out]; refine wpOp_of_list' rfl ?_
      go_wp2_with fail
      exact hK _ _ hfq (Below.refl _ _)
    | 10, _, hS, hK =>
      rw [d10] at hK
      obtain ⟨v57, h57, f57⟩ := hS.got 6 (q := .boolF true) rfl (by kernel_rfl) d6
      obtain rfl : v57 = .bool true := f57
      have e57 := at_eval h57
      obtain ⟨v60, h60, f60⟩ := hS.got 9 (q := .fmF (du)) rfl (by kernel_rfl) d9
      have e60 := at_eval h60
      rw [hL.out, ← hL2.out]; refine wpOp_of_list' rfl ?_
      go_wp2_with fail
      refine (refone_any (fun b => b < W.heap.size ∧ True) 8 _ du W f60 (fun b hb => hb.1) ⟨by decide, by decide⟩).mono ?_
      rintro e W2 ⟨r, rfl, hN, hb⟩
      go_wp2_with fail
      exact hK _ _ (fm_got (Ok := fun _ => True) hN hb (fun _ _ => trivial)) hb
    | 11, _, hS, hK =>
      rw [d11] at hK
      obtain ⟨v57, h57, f57⟩ := hS.got 6 (q := .boolF true) rfl (by kernel_rfl) d6
      obtain rfl : v57 = .bool true := f57
      have e57 := at_eval h57
      obtain ⟨v59, h59, f59⟩ := hS.got 8 (q := .fmF (f)) rfl (by kernel_rfl) d8
      have e59 := at_eval h59
      obtain ⟨v61, h61, f61⟩ := hS.got 10 (q := .fmF (Fm.mk 8 ⟨#[]⟩ 0 0 [du])) rfl (by kernel_rfl) d10
      have e61 := at_eval h61
      rw [hL.out, ← hL2.out]; refine wpOp_of_list' rfl ?_
      go_wp2_with fail
      refine (reftwo_any (fun b => b < W.heap.size ∧ True) 5 _ _ f (Fm.mk 8 ⟨#[]⟩ 0 0 [du]) W f59 f61 (fun b hb => hb.1) ⟨by decide, by decide⟩).mono ?_
      rintro e W2 ⟨r, rfl, hN, hb⟩
      go_wp2_with fail
      exact hK _ _ (fm_got (Ok := fun _ => True) hN hb (fun _ _ => trivial)) hb
    | 12, _, hS, hK =>
      rw [d12] at hK
      obtain ⟨v57, h57, f57⟩ := hS.got 6 (q := .boolF true) rfl (by kernel_rfl) d6
      obtain rfl : v57 = .bool true := f57
      have e57 := at_eval h57
      obtain ⟨v58, h58, f58⟩ := hS.got 7 (q := .fmF (lo)) rfl (by kernel_rfl) d7
      have e58 := at_eval h58
      obtain ⟨v62, h62, f62⟩ := hS.got 11 (q := .fmF (Fm.mk 5 ⟨#[]⟩ 0 0 [f, Fm.mk 8 ⟨#[]⟩ 0 0 [du]])) rfl (by kernel_rfl) d11
      have e62 := at_eval h62
      rw [hL.out, ← hL2.out]; refine wpOp_of_list' rfl ?_
      go_wp2_with fail
      refine (pair_any W.heap.size lo (Fm.mk 5 ⟨#[]⟩ 0 0 [f, Fm.mk 8 ⟨#[]⟩ 0 0 [du]]) _ _ W hEW (fm_at f58) (fm_at f62) (Nat.le_refl _) (by omega) (by simp only [nodes_mk1, Fm.nodesL_cons, Fm.nodesL_nil]; omega)).mono ?_
      rintro e W2 ⟨rfl, hb⟩
      rw [e2.out]
      go_wp2_with fail
      exact hK _ _ rfl hb
    | 13, _, hS, hK =>
      rw [d13] at hK
      obtain ⟨v57, h57, f57⟩ := hS.got 6 (q := .boolF true) rfl (by kernel_rfl) d6
      obtain rfl : v57 = .bool true := f57
      have e57 := at_eval h57
      obtain ⟨v63, h63, f63⟩ := hS.got 12 (q := .boolF true) rfl (by kernel_rfl) d12
      obtain rfl : v63 = .bool true := f63
      have e63 := at_eval h63
      rw [hL.out, ← hL2.out]; refine wpOp_of_list' rfl ?_
      go_wp2_with fail
      exact hK _ _ rfl (Below.refl _ _)
    | 14, _, hS, hK =>
      rw [d14] at hK
      obtain ⟨v64, h64, f64⟩ := hS.got 13 (q := .boolF true) rfl (by kernel_rfl) d13
      obtain rfl : v64 = .bool true := f64
      have e64 := at_eval h64
      rw [hL.out, ← hL2.out]; refine wpOp_of_list' rfl ?_
      go_wp2_with fail
      exact hK _ _ rfl (Below.refl _ _)
    | n + 15, hi, _, _ => exact absurd hi (by rw [hsz]; omega)
  · intro x W hB hx
    have y5 : x 5 = .bool true := hx 5 56 (by rw [hsz]; omega) d5
    have y6 : x 6 = .bool true := hx 6 57 (by rw [hsz]; omega) d6
    have y12 : x 12 = .bool true := hx 12 63 (by rw [hsz]; omega) d12
    have y13 : x 13 = .bool true := hx 13 64 (by rw [hsz]; omega) d13
    have y14 : x 14 = .bool true := hx 14 13 (by rw [hsz]; omega) d14
    have hl := hend x W hB
    have hr : List.range (opsAt Tryz.f8 9).size = [0, 1, 2, 3, 4, 5, 6, 7, 8, 9, 10, 11, 12, 13, 14] := by rw [hsz]; rfl
    rw [hr]
    simp only [putL, d0, d1, d2, d3, d4, d5, d6, d7, d8, d9, d10, d11, d12, d13, d14]
    simp only [y5, y6, y12, y13, y14]
    exact hl

set_option maxRecDepth 100000 in
set_option maxHeartbeats 8000000 in
theorem exb_r12 {f g no : Fm} {k3 k4 k14 : Nat} (a0 : Act) (W0 : World) (Q : Exit → Act → World → Prop) (hE : Env W0) (hz : a0.tmps.size = 146) (p3 : a0.tmps[(3 : Nat)]? = some (.pointer (some ⟨k3, 0, none⟩))) (p4 : a0.tmps[(4 : Nat)]? = some (.pointer (some ⟨k4, 0, none⟩))) (p14 : a0.tmps[(14 : Nat)]? = some (.pointer (some ⟨k14, 0, none⟩))) (B3 : Hid (Bx W0 k3 (f))) (B4 : Hid (Bx W0 k4 (g))) (B14 : Hid (Bx W0 k14 (no))) (e1 : Hid (pairB (Fm.mk 7 ⟨#[]⟩ 0 0 [f, g]) (Fm.mk 6 ⟨#[]⟩ 0 0 [no, g]) = true)) (e2 : Hid (pairB (Fm.mk 4 ⟨#[]⟩ 0 0 [Fm.mk 12 ⟨#[]⟩ 0 0 [f]]) (Fm.mk 11 ⟨#[]⟩ 0 0 [no]) = true)) (e3 : Hid (pairB (Fm.mk 4 ⟨#[]⟩ 0 0 [Fm.mk 19 ⟨#[]⟩ 0 0 [f]]) (Fm.mk 18 ⟨#[]⟩ 0 0 [no]) = true)) (n_f : f.nodes ≤ 1000) (n_g : g.nodes ≤ 1000) (n_no : no.nodes ≤ 1000)
    (hend : ∀ (x : Nat → Value) (W : World), Below W0.heap.size W0 W → Q .normal ((((((((((((((((((((((((a0.put (some 69) (x 0)).put (some 70) (x 1)).put (some 71) (x 2)).put (some 72) (x 3)).put (some 73) (x 4)).put (some 74) (x 5)).put (some 75) (.bool true)).put (some 76) (.bool true)).put (some 77) (x 8)).put (some 78) (x 9)).put (some 79) (x 10)).put (some 80) (x 11)).put (some 81) (x 12)).put (some 82) (.bool true)).put (some 83) (.bool true)).put (some 84) (.bool true)).put (some 85) (x 16)).put (some 86) (x 17)).put (some 87) (x 18)).put (some 88) (x 19)).put (some 89) (x 20)).put (some 90) (.bool true)).put (some 91) (.bool true)).put (some 16) (.bool true)) W) :
    (Code.region 12 (opsAt Tryz.f8 12) true).wp Tryz.prog Q a0 W0 := by
  have d0 : dstOf (opsAt Tryz.f8 12) 0 = some 69 := by kernel_rfl
  have d1 : dstOf (opsAt Tryz.f8 12) 1 = some 70 := by kernel_rfl
  have d2 : dstOf (opsAt Tryz.f8 12) 2 = some 71 := by kernel_rfl
  have d3 : dstOf (opsAt Tryz.f8 12) 3 = some 72 := by kernel_rfl
  have d4 : dstOf (opsAt Tryz.f8 12) 4 = some 73 := by kernel_rfl
  have d5 : dstOf (opsAt Tryz.f8 12) 5 = some 74 := by kernel_rfl
  have d6 : dstOf (opsAt Tryz.f8 12) 6 = some 75 := by kernel_rfl
  have d7 : dstOf (opsAt Tryz.f8 12) 7 = some 76 := by kernel_rfl
  have d8 : dstOf (opsAt Tryz.f8 12) 8 = some 77 := by kernel_rfl
  have d9 : dstOf (opsAt Tryz.f8 12) 9 = some 78 := by kernel_rfl
  have d10 : dstOf (opsAt Tryz.f8 12) 10 = some 79 := by kernel_rfl
  have d11 : dstOf (opsAt Tryz.f8 12) 11 = some 80 := by kernel_rfl
  have d12 : dstOf (opsAt Tryz.f8 12) 12 = some 81 := by kernel_rfl
  have d13 : dstOf (opsAt Tryz.f8 12) 13 = some 82 := by kernel_rfl
  have d14 : dstOf (opsAt Tryz.f8 12) 14 = some 83 := by kernel_rfl
  have d15 : dstOf (opsAt Tryz.f8 12) 15 = some 84 := by kernel_rfl
  have d16 : dstOf (opsAt Tryz.f8 12) 16 = some 85 := by kernel_rfl
  have d17 : dstOf (opsAt Tryz.f8 12) 17 = some 86 := by kernel_rfl
  have d18 : dstOf (opsAt Tryz.f8 12) 18 = some 87 := by kernel_rfl
  have d19 : dstOf (opsAt Tryz.f8 12) 19 = some 88 := by kernel_rfl
  have d20 : dstOf (opsAt Tryz.f8 12) 20 = some 89 := by kernel_rfl
  have d21 : dstOf (opsAt Tryz.f8 12) 21 = some 90 := by kernel_rfl
  have d22 : dstOf (opsAt Tryz.f8 12) 22 = some 91 := by kernel_rfl
  have d23 : dstOf (opsAt Tryz.f8 12) 23 = some 16 := by kernel_rfl
  have hsz : (opsAt Tryz.f8 12).size = 24 := by kernel_rfl
  obtain ⟨L, hL⟩ : ∃ L, Hid ((opsAt Tryz.f8 12) = L) := ⟨_, hidi rfl⟩
  have hL2 := hL.out
  unfold opsAt Tryz.f8 at hL2
  simp only [findRegion, Nat.reduceBEq, if_true, if_false, Bool.false_eq_true, Option.getD_some] at hL2
  replace hL2 := hidi hL2
  refine wp_region_facts (by kernel_rfl) (by kernel_rfl) (by kernel_rfl) (by rw [hz]; kernel_rfl) (by kernel_rfl) (fun i => match i with
      | 0 => .fmF (f)
      | 1 => .fmF (g)
      | 2 => .fmF (Fm.mk 7 ⟨#[]⟩ 0 0 [f, g])
      | 3 => .fmF (no)
      | 4 => .fmF (g)
      | 5 => .fmF (Fm.mk 6 ⟨#[]⟩ 0 0 [no, g])
      | 6 => .boolF true
      | 7 => .boolF true
      | 8 => .fmF (f)
      | 9 => .fmF (Fm.mk 12 ⟨#[]⟩ 0 0 [f])
      | 10 => .fmF (Fm.mk 4 ⟨#[]⟩ 0 0 [Fm.mk 12 ⟨#[]⟩ 0 0 [f]])
      | 11 => .fmF (no)
      | 12 => .fmF (Fm.mk 11 ⟨#[]⟩ 0 0 [no])
      | 13 => .boolF true
      | 14 => .boolF true
      | 15 => .boolF true
      | 16 => .fmF (f)
      | 17 => .fmF (Fm.mk 19 ⟨#[]⟩ 0 0 [f])
      | 18 => .fmF (Fm.mk 4 ⟨#[]⟩ 0 0 [Fm.mk 19 ⟨#[]⟩ 0 0 [f]])
      | 19 => .fmF (no)
      | 20 => .fmF (Fm.mk 18 ⟨#[]⟩ 0 0 [no])
      | 21 => .boolF true
      | 22 => .boolF true
      | 23 => .boolF true
      | _ => .free) ?_ ?_
  · intro i a W K hi hS hK
    have hEW := hE.below hS.below
    match i, hi, hS, hK with
    | 0, _, hS, hK =>
      rw [d0] at hK
      have h3 := hS.slot (by kernel_rfl) p3
      have e3 := at_eval h3
      obtain ⟨o3, c3, ⟨b0, b1, b2, b3, b4⟩, hfq⟩ := (B3.out.below hS.below).cells
      rw [hL.out, ← hL2.out]; refine wpOp_of_list' rfl ?_
      go_wp2_with fail
      exact hK _ _ hfq (Below.refl _ _)
    | 1, _, hS, hK =>
      rw [d1] at hK
      have h4 := hS.slot (by kernel_rfl) p4
      have e4 := at_eval h4
      obtain ⟨o4, c4, ⟨b0, b1, b2, b3, b4⟩, hfq⟩ := (B4.out.below hS.below).cells
      rw [hL.out, ← hL2.out]; refine wpOp_of_list' rfl ?_
      go_wp2_with fail
      exact hK _ _ hfq (Below.refl _ _)
    | 2, _, hS, hK =>
      rw [d2] at hK
      obtain ⟨v69, h69, f69⟩ := hS.got 0 (q := .fmF (f)) rfl (by kernel_rfl) d0
      have e69 := at_eval h69
      obtain ⟨v70, h70, f70⟩ := hS.got 1 (q := .fmF (g)) rfl (by kernel_rfl) d1
      have e70 := at_eval h70
      rw [hL.out, ← hL2.out]; refine wpOp_of_list' rfl ?_
      go_wp2_with fail
      refine (reftwo_any (fun b => b < W.heap.size ∧ True) 7 _ _ f g W f69 f70 (fun b hb => hb.1) ⟨by decide, by decide⟩).mono ?_
      rintro e W2 ⟨r, rfl, hN, hb⟩
      go_wp2_with fail
      exact hK _ _ (fm_got (Ok := fun _ => True) hN hb (fun _ _ => trivial)) hb
    | 3, _, hS, hK =>
      rw [d3] at hK
      have h14 := hS.slot (by kernel_rfl) p14
      have e14 := at_eval h14
      obtain ⟨o14, c14, ⟨b0, b1, b2, b3, b4⟩, hfq⟩ := (B14.out.below hS.below).cells
      rw [hL.out, ← hL2.out]; refine wpOp_of_list' rfl ?_
      go_wp2_with fail
      exact hK _ _ hfq (Below.refl _ _)
    | 4, _, hS, hK =>
      rw [d4] at hK
      have h4 := hS.slot (by kernel_rfl) p4
      have e4 := at_eval h4
      obtain ⟨o4, c4, ⟨b0, b1, b2, b3, b4⟩, hfq⟩ := (B4.out.below hS.below).cells
      rw [hL.out, ← hL2.out]; refine wpOp_of_list' rfl ?_
      go_wp2_with fail
      exact hK _ _ hfq (Below.refl _ _)
    | 5, _, hS, hK =>
      rw [d5] at hK
      obtain ⟨v72, h72, f72⟩ := hS.got 3 (q := .fmF (no)) rfl (by kernel_rfl) d3
      have e72 := at_eval h72
      obtain ⟨v73, h73, f73⟩ := hS.got 4 (q := .fmF (g)) rfl (by kernel_rfl) d4
      have e73 := at_eval h73
      rw [hL.out, ← hL2.out]; refine wpOp_of_list' rfl ?_
      go_wp2_with fail
      refine (reftwo_any (fun b => b < W.heap.size ∧ True) 6 _ _ no g W f72 f73 (fun b hb => hb.1) ⟨by decide, by decide⟩).mono ?_
      rintro e W2 ⟨r, rfl, hN, hb⟩
      go_wp2_with fail
      exact hK _ _ (fm_got (Ok := fun _ => True) hN hb (fun _ _ => trivial)) hb
    | 6, _, hS, hK =>
      rw [d6] at hK
      obtain ⟨v71, h71, f71⟩ := hS.got 2 (q := .fmF (Fm.mk 7 ⟨#[]⟩ 0 0 [f, g])) rfl (by kernel_rfl) d2
      have e71 := at_eval h71
      obtain ⟨v74, h74, f74⟩ := hS.got 5 (q := .fmF (Fm.mk 6 ⟨#[]⟩ 0 0 [no, g])) rfl (by kernel_rfl) d5
      have e74 := at_eval h74
      rw [hL.out, ← hL2.out]; refine wpOp_of_list' rfl ?_
      go_wp2_with fail
      refine (pair_any W.heap.size (Fm.mk 7 ⟨#[]⟩ 0 0 [f, g]) (Fm.mk 6 ⟨#[]⟩ 0 0 [no, g]) _ _ W hEW (fm_at f71) (fm_at f74) (Nat.le_refl _) (by simp only [nodes_mk1, Fm.nodesL_cons, Fm.nodesL_nil]; omega) (by simp only [nodes_mk1, Fm.nodesL_cons, Fm.nodesL_nil]; omega)).mono ?_
      rintro e W2 ⟨rfl, hb⟩
      rw [e1.out]
      go_wp2_with fail
      exact hK _ _ rfl hb
    | 7, _, hS, hK =>
      rw [d7] at hK
      obtain ⟨v75, h75, f75⟩ := hS.got 6 (q := .boolF true) rfl (by kernel_rfl) d6
      obtain rfl : v75 = .bool true := f75
      have e75 := at_eval h75
      rw [hL.out, ← hL2.out]; refine wpOp_of_list' rfl ?_
      go_wp2_with fail
      exact hK _ _ rfl (Below.refl _ _)
    | 8, _, hS, hK =>
      rw [d8] at hK
      obtain ⟨v76, h76, f76⟩ := hS.got 7 (q := .boolF true) rfl (by kernel_rfl) d7
      obtain rfl : v76 = .bool true := f76
      have e76 := at_eval h76
      have h3 := hS.slot (by kernel_rfl) p3
      have e3 := at_eval h3
      obtain ⟨o3, c3, ⟨b0, b1, b2, b3, b4⟩, hfq⟩ := (B3.out.below hS.below).cells
      rw [hL.out, ← hL2.out]; refine wpOp_of_list' rfl ?_
      go_wp2_with fail
      exact hK _ _ hfq (Below.refl _ _)
    | 9, _, hS, hK =>
      rw [d9] at hK
      obtain ⟨v76, h76, f76⟩ := hS.got 7 (q := .boolF true) rfl (by kernel_rfl) d7
      obtain rfl : v76 = .bool true := f76
      have e76 := at_eval h76
      obtain ⟨v77, h77, f77⟩ := hS.got 8 (q := .fmF (f)) rfl (by kernel_rfl) d8
      have e77 := at_eval h77
      rw [hL.out, ← hL2.out]; refine wpOp_of_list' rfl ?_
      go_wp2_with fail
      refine (refone_any (fun b => b < W.heap.size ∧ True) 12 _ f W f77 (fun b hb => hb.1) ⟨by decide, by decide⟩).mono ?_
      rintro e W2 ⟨r, rfl, hN, hb⟩
      go_wp2_with fail
      exact hK _ _ (fm_got (Ok := fun _ => True) hN hb (fun _ _ => trivial)) hb
    | 10, _, hS, hK =>
      rw [d10] at hK
      obtain ⟨v76, h76, f76⟩ := hS.got 7 (q := .boolF true) rfl (by kernel_rfl) d7
      obtain rfl : v76 = .bool true := f76
      have e76 := at_eval h76
      obtain ⟨v78, h78, f78⟩ := hS.got 9 (q := .fmF (Fm.mk 12 ⟨#[]⟩ 0 0 [f])) rfl (by kernel_rfl) d9
      have e78 := at_eval h78
      rw [hL.out, ← hL2.out]; refine wpOp_of_list' rfl ?_
      go_wp2_with fail
      refine (refone_any (fun b => b < W.heap.size ∧ True) 4 _ (Fm.mk 12 ⟨#[]⟩ 0 0 [f]) W f78 (fun b hb => hb.1) ⟨by decide, by decide⟩).mono ?_
      rintro e W2 ⟨r, rfl, hN, hb⟩
      go_wp2_with fail
      exact hK _ _ (fm_got (Ok := fun _ => True) hN hb (fun _ _ => trivial)) hb
    | 11, _, hS, hK =>
      rw [d11] at hK
      obtain ⟨v76, h76, f76⟩ := hS.got 7 (q := .boolF true) rfl (by kernel_rfl) d7
      obtain rfl : v76 = .bool true := f76
      have e76 := at_eval h76
      have h14 := hS.slot (by kernel_rfl) p14
      have e14 := at_eval h14
      obtain ⟨o14, c14, ⟨b0, b1, b2, b3, b4⟩, hfq⟩ := (B14.out.below hS.below).cells
      rw [hL.out, ← hL2.out]; refine wpOp_of_list' rfl ?_
      go_wp2_with fail
      exact hK _ _ hfq (Below.refl _ _)
    | 12, _, hS, hK =>
      rw [d12] at hK
      obtain ⟨v76, h76, f76⟩ := hS.got 7 (q := .boolF true) rfl (by kernel_rfl) d7
      obtain rfl : v76 = .bool true := f76
      have e76 := at_eval h76
      obtain ⟨v80, h80, f80⟩ := hS.got 11 (q := .fmF (no)) rfl (by kernel_rfl) d11
      have e80 := at_eval h80
      rw [hL.out, ← hL2.out]; refine wpOp_of_list' rfl ?_
      go_wp2_with fail
      refine (refone_any (fun b => b < W.heap.size ∧ True) 11 _ no W f80 (fun b hb => hb.1) ⟨by decide, by decide⟩).mono ?_
      rintro e W2 ⟨r, rfl, hN, hb⟩
      go_wp2_with fail
      exact hK _ _ (fm_got (Ok := fun _ => True) hN hb (fun _ _ => trivial)) hb
    | 13, _, hS, hK =>
      rw [d13] at hK
      obtain ⟨v76, h76, f76⟩ := hS.got 7 (q := .boolF true) rfl (by kernel_rfl) d7
      obtain rfl : v76 = .bool true := f76
      have e76 := at_eval h76
      obtain ⟨v79, h79, f79⟩ := hS.got 10 (q := .fmF (Fm.mk 4 ⟨#[]⟩ 0 0 [Fm.mk 12 ⟨#[]⟩ 0 0 [f]])) rfl (by kernel_rfl) d10
      have e79 := at_eval h79
      obtain ⟨v81, h81, f81⟩ := hS.got 12 (q := .fmF (Fm.mk 11 ⟨#[]⟩ 0 0 [no])) rfl (by kernel_rfl) d12
      have e81 := at_eval h81
      rw [hL.out, ← hL2.out]; refine wpOp_of_list' rfl ?_
      go_wp2_with fail
      refine (pair_any W.heap.size (Fm.mk 4 ⟨#[]⟩ 0 0 [Fm.mk 12 ⟨#[]⟩ 0 0 [f]]) (Fm.mk 11 ⟨#[]⟩ 0 0 [no]) _ _ W hEW (fm_at f79) (fm_at f81) (Nat.le_refl _) (by simp only [nodes_mk1, Fm.nodesL_cons, Fm.nodesL_nil]; omega) (by simp only [nodes_mk1, Fm.nodesL_cons, Fm.nodesL_nil]; omega)).mono ?_
      rintro e W2 ⟨rfl, hb⟩
      rw [e2.out]
      go_wp2_with fail
      exact hK _ _ rfl hb
    | 14, _, hS, hK =>
      rw [d14] at hK
      obtain ⟨v76, h76, f76⟩ := hS.got 7 (q := .boolF true) rfl (by kernel_rfl) d7
      obtain rfl : v76 = .bool true := f76
      have e76 := at_eval h76
      obtain ⟨v82, h82, f82⟩ := hS.got 13 (q := .boolF true) rfl (by kernel_rfl) d13
      obtain rfl : v82 = .bool true := f82
      have e82 := at_eval h82
      rw [hL.out, ← hL2.out]; refine wpOp_of_list' rfl ?_
      go_wp2_with fail
      exact hK _ _ rfl (Below.refl _ _)
    | 15, _, hS, hK =>
      rw [d15] at hK
      obtain ⟨v83, h83, f83⟩ := hS.got 14 (q := .boolF true) rfl (by kernel_rfl) d14
      obtain rfl : v83 = .bool true := f83
      have e83 := at_eval h83
      rw [hL.out, ← hL2.out]; refine wpOp_of_list' rfl ?_
      go_wp2_with fail
      exact hK _ _ rfl (Below.refl _ _)
    | 16, _, hS, hK =>
      rw [d16] at hK
      obtain ⟨v84, h84, f84⟩ := hS.got 15 (q := .boolF true) rfl (by kernel_rfl) d15
      obtain rfl : v84 = .bool true := f84
      have e84 := at_eval h84
      have h3 := hS.slot (by kernel_rfl) p3
      have e3 := at_eval h3
      obtain ⟨o3, c3, ⟨b0, b1, b2, b3, b4⟩, hfq⟩ := (B3.out.below hS.below).cells
      rw [hL.out, ← hL2.out]; refine wpOp_of_list' rfl ?_
      go_wp2_with fail
      exact hK _ _ hfq (Below.refl _ _)
    | 17, _, hS, hK =>
      rw [d17] at hK
      obtain ⟨v84, h84, f84⟩ := hS.got 15 (q := .boolF true) rfl (by kernel_rfl) d15
      obtain rfl : v84 = .bool true := f84
      have e84 := at_eval h84
      obtain ⟨v85, h85, f85⟩ := hS.got 16 (q := .fmF (f)) rfl (by kernel_rfl) d16
      have e85 := at_eval h85
      rw [hL.out, ← hL2.out]; refine wpOp_of_list' rfl ?_
      go_wp2_with fail
      refine (refone_any (fun b => b < W.heap.size ∧ True) 19 _ f W f85 (fun b hb => hb.1) ⟨by decide, by decide⟩).mono ?_
      rintro e W2 ⟨r, rfl, hN, hb⟩
      go_wp2_with fail
      exact hK _ _ (fm_got (Ok := fun _ => True) hN hb (fun _ _ => trivial)) hb
    | 18, _, hS, hK =>
      rw [d18] at hK
      obtain ⟨v84, h84, f84⟩ := hS.got 15 (q := .boolF true) rfl (by kernel_rfl) d15
      obtain rfl : v84 = .bool true := f84
      have e84 := at_eval h84
      obtain ⟨v86, h86, f86⟩ := hS.got 17 (q := .fmF (Fm.mk 19 ⟨#[]⟩ 0 0 [f])) rfl (by kernel_rfl) d17
      have e86 := at_eval h86
      rw [hL.out, ← hL2.out]; refine wpOp_of_list' rfl ?_
      go_wp2_with fail
      refine (refone_any (fun b => b < W.heap.size ∧ True) 4 _ (Fm.mk 19 ⟨#[]⟩ 0 0 [f]) W f86 (fun b hb => hb.1) ⟨by decide, by decide⟩).mono ?_
      rintro e W2 ⟨r, rfl, hN, hb⟩
      go_wp2_with fail
      exact hK _ _ (fm_got (Ok := fun _ => True) hN hb (fun _ _ => trivial)) hb
    | 19, _, hS, hK =>
      rw [d19] at hK
      obtain ⟨v84, h84, f84⟩ := hS.got 15 (q := .boolF true) rfl (by kernel_rfl) d15
      obtain rfl : v84 = .bool true := f84
      have e84 := at_eval h84
      have h14 := hS.slot (by kernel_rfl) p14
      have e14 := at_eval h14
      obtain ⟨o14, c14, ⟨b0, b1, b2, b3, b4⟩, hfq⟩ := (B14.out.below hS.below).cells
      rw [hL.out, ← hL2.out]; refine wpOp_of_list' rfl ?_
      go_wp2_with fail
      exact hK _ _ hfq (Below.refl _ _)
    | 20, _, hS, hK =>
      rw [d20] at hK
      obtain ⟨v84, h84, f84⟩ := hS.got 15 (q := .boolF true) rfl (by kernel_rfl) d15
      obtain rfl : v84 = .bool true := f84
      have e84 := at_eval h84
      obtain ⟨v88, h88, f88⟩ := hS.got 19 (q := .fmF (no)) rfl (by kernel_rfl) d19
      have e88 := at_eval h88
      rw [hL.out, ← hL2.out]; refine wpOp_of_list' rfl ?_
      go_wp2_with fail
      refine (refone_any (fun b => b < W.heap.size ∧ True) 18 _ no W f88 (fun b hb => hb.1) ⟨by decide, by decide⟩).mono ?_
      rintro e W2 ⟨r, rfl, hN, hb⟩
      go_wp2_with fail
      exact hK _ _ (fm_got (Ok := fun _ => True) hN hb (fun _ _ => trivial)) hb
    | 21, _, hS, hK =>
      rw [d21] at hK
      obtain ⟨v84, h84, f84⟩ := hS.got 15 (q := .boolF true) rfl (by kernel_rfl) d15
      obtain rfl : v84 = .bool true := f84
      have e84 := at_eval h84
      obtain ⟨v87, h87, f87⟩ := hS.got 18 (q := .fmF (Fm.mk 4 ⟨#[]⟩ 0 0 [Fm.mk 19 ⟨#[]⟩ 0 0 [f]])) rfl (by kernel_rfl) d18
      have e87 := at_eval h87
      obtain ⟨v89, h89, f89⟩ := hS.got 20 (q := .fmF (Fm.mk 18 ⟨#[]⟩ 0 0 [no])) rfl (by kernel_rfl) d20
      have e89 := at_eval h89
      rw [hL.out, ← hL2.out]; refine wpOp_of_list' rfl ?_
      go_wp2_with fail
      refine (pair_any W.heap.size (Fm.mk 4 ⟨#[]⟩ 0 0 [Fm.mk 19 ⟨#[]⟩ 0 0 [f]]) (Fm.mk 18 ⟨#[]⟩ 0 0 [no]) _ _ W hEW (fm_at f87) (fm_at f89) (Nat.le_refl _) (by simp only [nodes_mk1, Fm.nodesL_cons, Fm.nodesL_nil]; omega) (by simp only [nodes_mk1, Fm.nodesL_cons, Fm.nodesL_nil]; omega)).mono ?_
      rintro e W2 ⟨rfl, hb⟩
      rw [e3.out]
      go_wp2_with fail
      exact hK _ _ rfl hb
    | 22, _, hS, hK =>
      rw [d22] at hK
      obtain ⟨v84, h84, f84⟩ := hS.got 15 (q := .boolF true) rfl (by kernel_rfl) d15
      obtain rfl : v84 = .bool true := f84
      have e84 := at_eval h84
      obtain ⟨v90, h90, f90⟩ := hS.got 21 (q := .boolF true) rfl (by kernel_rfl) d21
      obtain rfl : v90 = .bool true := f90
      have e90 := at_eval h90
      rw [hL.out, ← hL2.out]; refine wpOp_of_list' rfl ?_
      go_wp2_with fail
      exact hK _ _ rfl (Below.refl _ _)
    | 23, _, hS, hK =>
      rw [d23] at hK
      obtain ⟨v91, h91, f91⟩ := hS.got 22 (q := .boolF true) rfl (by kernel_rfl) d22
      obtain rfl : v91 = .bool true := f91
      have e91 := at_eval h91
      rw [hL.out, ← hL2.out]; refine wpOp_of_list' rfl ?_
      go_wp2_with fail
      exact hK _ _ rfl (Below.refl _ _)
    | n + 24, hi, _, _ => exact absurd hi (by rw [hsz]; omega)
  · intro x W hB hx
    have y6 : x 6 = .bool true := hx 6 75 (by rw [hsz]; omega) d6
    have y7 : x 7 = .bool true := hx 7 76 (by rw [hsz]; omega) d7
    have y13 : x 13 = .bool true := hx 13 82 (by rw [hsz]; omega) d13
    have y14 : x 14 = .bool true := hx 14 83 (by rw [hsz]; omega) d14
    have y15 : x 15 = .bool true := hx 15 84 (by rw [hsz]; omega) d15
    have y21 : x 21 = .bool true := hx 21 90 (by rw [hsz]; omega) d21
    have y22 : x 22 = .bool true := hx 22 91 (by rw [hsz]; omega) d22
    have y23 : x 23 = .bool true := hx 23 16 (by rw [hsz]; omega) d23
    have hl := hend x W hB
    have hr : List.range (opsAt Tryz.f8 12).size = [0, 1, 2, 3, 4, 5, 6, 7, 8, 9, 10, 11, 12, 13, 14, 15, 16, 17, 18, 19, 20, 21, 22, 23] := by rw [hsz]; rfl
    rw [hr]
    simp only [putL, d0, d1, d2, d3, d4, d5, d6, d7, d8, d9, d10, d11, d12, d13, d14, d15, d16, d17, d18, d19, d20, d21, d22, d23]
    simp only [y6, y7, y13, y14, y15, y21, y22, y23]
    exact hl
end Go.Proofs.YtlkoacopknolnaaGreatDoor
