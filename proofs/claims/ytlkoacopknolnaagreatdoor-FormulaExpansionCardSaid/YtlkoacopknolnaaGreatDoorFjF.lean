/-
  The drawn regions of FormulaExpansion.
-/
import Derived.Test.YtlkoacopknolnaaGreatDoorFjB
import Derived.Test.YtlkoacopknolnaaGreatDoorFiP
import Derived.Test.YtlkoacopknolnaaGreatDoorFjE
namespace Go.Proofs.YtlkoacopknolnaaGreatDoor
open Go.RowKit

set_option maxRecDepth 100000 in
set_option maxHeartbeats 8000000 in
theorem exc_r13 {f g no ot : Fm} {k3 k4 k14 k15 : Nat} (a0 : Act) (W0 : World) (Q : Exit → Act → World → Prop) (hE : Env W0) (hz : a0.tmps.size = 146) (p3 : a0.tmps[(3 : Nat)]? = some (.pointer (some ⟨k3, 0, none⟩))) (p4 : a0.tmps[(4 : Nat)]? = some (.pointer (some ⟨k4, 0, none⟩))) (p14 : a0.tmps[(14 : Nat)]? = some (.pointer (some ⟨k14, 0, none⟩))) (p15 : a0.tmps[(15 : Nat)]? = some (.pointer (some ⟨k15, 0, none⟩))) (B3 : Hid (Bx W0 k3 (f))) (B4 : Hid (Bx W0 k4 (g))) (B14 : Hid (Bx W0 k14 (no))) (B15 : Hid (Bx W0 k15 (ot))) (e1 : Hid (pairB (Fm.mk 4 ⟨#[]⟩ 0 0 [Fm.mk 9 ⟨#[]⟩ 0 0 [f, g]]) (Fm.mk 10 ⟨#[]⟩ 0 0 [no, ot]) = true)) (e2 : Hid (pairB (Fm.mk 11 ⟨#[]⟩ 0 0 [f]) (Fm.mk 9 ⟨#[]⟩ 0 0 [fTrue, f]) = true)) (n_f : f.nodes ≤ 1000) (n_g : g.nodes ≤ 1000) (n_no : no.nodes ≤ 1000) (n_ot : ot.nodes ≤ 1000) (n_fTrue : fTrue.nodes ≤ 1000)
    (hend : ∀ (x : Nat → Value) (W : World), Below W0.heap.size W0 W → Q .normal (((((((((((((((((a0.put (some 92) (x 0)).put (some 93) (x 1)).put (some 94) (x 2)).put (some 95) (x 3)).put (some 96) (x 4)).put (some 97) (x 5)).put (some 98) (x 6)).put (some 99) (.bool true)).put (some 100) (.bool true)).put (some 101) (x 9)).put (some 102) (x 10)).put (some 103) (x 11)).put (some 104) (x 12)).put (some 105) (x 13)).put (some 106) (.bool true)).put (some 107) (.bool true)).put (some 17) (.bool true)) W) :
    (Code.region 13 (opsAt Tryz.f8 13) true).wp Tryz.prog Q a0 W0 := by
  have d0 : dstOf (opsAt Tryz.f8 13) 0 = some 92 := by kernel_rfl
  have d1 : dstOf (opsAt Tryz.f8 13) 1 = some 93 := by kernel_rfl
  have d2 : dstOf (opsAt Tryz.f8 13) 2 = some 94 := by kernel_rfl
  have d3 : dstOf (opsAt Tryz.f8 13) 3 = some 95 := by kernel_rfl
  have d4 : dstOf (opsAt Tryz.f8 13) 4 = some 96 := by kernel_rfl
  have d5 : dstOf (opsAt Tryz.f8 13) 5 = some 97 := by kernel_rfl
  have d6 : dstOf (opsAt Tryz.f8 13) 6 = some 98 := by kernel_rfl
  have d7 : dstOf (opsAt Tryz.f8 13) 7 = some 99 := by kernel_rfl
  have d8 : dstOf (opsAt Tryz.f8 13) 8 = some 100 := by kernel_rfl
  have d9 : dstOf (opsAt Tryz.f8 13) 9 = some 101 := by kernel_rfl
  have d10 : dstOf (opsAt Tryz.f8 13) 10 = some 102 := by kernel_rfl
  have d11 : dstOf (opsAt Tryz.f8 13) 11 = some 103 := by kernel_rfl
  have d12 : dstOf (opsAt Tryz.f8 13) 12 = some 104 := by kernel_rfl
  have d13 : dstOf (opsAt Tryz.f8 13) 13 = some 105 := by kernel_rfl
  have d14 : dstOf (opsAt Tryz.f8 13) 14 = some 106 := by kernel_rfl
  have d15 : dstOf (opsAt Tryz.f8 13) 15 = some 107 := by kernel_rfl
  have d16 : dstOf (opsAt Tryz.f8 13) 16 = some 17 := by kernel_rfl
  have hsz : (opsAt Tryz.f8 13).size = 17 := by kernel_rfl
  obtain ⟨L, hL⟩ : ∃ L, Hid ((opsAt Tryz.f8 13) = L) := ⟨_, hidi rfl⟩
  have hL2 := hL.out
  unfold opsAt Tryz.f8 at hL2
  simp only [findRegion, Nat.reduceBEq, if_true, if_false, Bool.false_eq_true, Option.getD_some] at hL2
  replace hL2 := hidi hL2
  refine wp_region_facts (by kernel_rfl) (by kernel_rfl) (by kernel_rfl) (by rw [hz]; kernel_rfl) (by kernel_rfl) (fun i => match i with
      | 0 => .fmF (f)
      | 1 => .fmF (g)
      | 2 => .fmF (Fm.mk 9 ⟨#[]⟩ 0 0 [f, g])
      | 3 => .fmF (Fm.mk 4 ⟨#[]⟩ 0 0 [Fm.mk 9 ⟨#[]⟩ 0 0 [f, g]])
      | 4 => .fmF (no)
      | 5 => .fmF (ot)
      | 6 => .fmF (Fm.mk 10 ⟨#[]⟩ 0 0 [no, ot])
      | 7 => .boolF true
      | 8 => .boolF true
      | 9 => .fmF (f)
      | 10 => .fmF (Fm.mk 11 ⟨#[]⟩ 0 0 [f])
      | 11 => .fmF (fTrue)
      | 12 => .fmF (f)
      | 13 => .fmF (Fm.mk 9 ⟨#[]⟩ 0 0 [fTrue, f])
      | 14 => .boolF true
      | 15 => .boolF true
      | 16 => .boolF true
      | _ => .free) ?_ ?_
  · intro i a W K hi hS hK
    have hEW := hE.below hS.below
    match i, hi, hS, hK with
    | 0, _, hS, hK =>
      rw [d0] at hK
      have h3 := hS.slot (by kernel_rfl) p3
      have e3 := at_eval h3
      obtain ⟨o3, c3, ⟨b0, b1, b2, b3, b4⟩, hfq⟩ := (B3.out.below hS.below).cells
      rw [hL.out, ← hL2.out]; refine wpOp_of_list' rfl ?_
      go_wp2_with fail
      exact hK _ _ hfq (Below.refl _ _)
    | 1, _, hS, hK =>
      rw [d1] at hK
      have h4 := hS.slot (by kernel_rfl) p4
      have e4 := at_eval h4
      obtain ⟨o4, c4, ⟨b0, b1, b2, b3, b4⟩, hfq⟩ := (B4.out.below hS.below).cells
      rw [hL.out, ← hL2.out]; refine wpOp_of_list' rfl ?_
      go_wp2_with fail
      exact hK _ _ hfq (Below.refl _ _)
    | 2, _, hS, hK =>
      rw [d2] at hK
      obtain ⟨v92, h92, f92⟩ := hS.got 0 (q := .fmF (f)) rfl (by kernel_rfl) d0
      have e92 := at_eval h92
      obtain ⟨v93, h93, f93⟩ := hS.got 1 (q := .fmF (g)) rfl (by kernel_rfl) d1
      have e93 := at_eval h93
      rw [hL.out, ← hL2.out]; refine wpOp_of_list' rfl ?_
      go_wp2_with fail
      refine (reftwo_any (fun b => b < W.heap.size ∧ True) 9 _ _ f g W f92 f93 (fun b hb => hb.1) ⟨by decide, by decide⟩).mono ?_
      rintro e W2 ⟨r, rfl, hN, hb⟩
      go_wp2_with fail
      exact hK _ _ (fm_got (Ok := fun _ => True) hN hb (fun _ _ => trivial)) hb
    | 3, _, hS, hK =>
      rw [d3] at hK
      obtain ⟨v94, h94, f94⟩ := hS.got 2 (q := .fmF (Fm.mk 9 ⟨#[]⟩ 0 0 [f, g])) rfl (by kernel_rfl) d2
      have e94 := at_eval h94
      rw [hL.out, ← hL2.out]; refine wpOp_of_list' rfl ?_
      go_wp2_with fail
      refine (refone_any (fun b => b < W.heap.size ∧ True) 4 _ (Fm.mk 9 ⟨#[]⟩ 0 0 [f, g]) W f94 (fun b hb => hb.1) ⟨by decide, by decide⟩).mono ?_
      rintro e W2 ⟨r, rfl, hN, hb⟩
      go_wp2_with fail
      exact hK _ _ (fm_got (Ok := fun _ => True) hN hb (fun _ _ => trivial)) hb
    | 4, _, hS, hK =>
      rw [d4] at hK
      have h14 := hS.slot (by kernel_rfl) p14
      have e14 := at_eval h14
      obtain ⟨o14, c14, ⟨b0, b1, b2, b3, b4⟩, hfq⟩ := (B14.out.below hS.below).cells
      rw [hL.out, ← hL2.out]; refine wpOp_of_list' rfl ?_
      go_wp2_with fail
      exact hK _ _ hfq (Below.refl _ _)
    | 5, _, hS, hK =>
      rw [d5] at hK
      have h15 := hS.slot (by kernel_rfl) p15
      have e15 := at_eval h15
      obtain ⟨o15, c15, ⟨b0, b1, b2, b3, b4⟩, hfq⟩ := (B15.out.below hS.below).cells
      rw [hL.out, ← hL2.out]; refine wpOp_of_list' rfl ?_
      go_wp2_with fail
      exact hK _ _ hfq (Below.refl _ _)
    | 6, _, hS, hK =>
      rw [d6] at hK
      obtain ⟨v96, h96, f96⟩ := hS.got 4 (q := .fmF (no)) rfl (by kernel_rfl) d4
      have e96 := at_eval h96
      obtain ⟨v97, h97, f97⟩ := hS.got 5 (q := .fmF (ot)) rfl (by kernel_rfl) d5
      have e97 := at_eval h97
      rw [hL.out, ← hL2.out]; refine wpOp_of_list' rfl ?_
      go_wp2_with fail
      refine (reftwo_any (fun b => b < W.heap.size ∧ True) 10 _ _ no ot W f96 f97 (fun b hb => hb.1) ⟨by decide, by decide⟩).mono ?_
      rintro e W2 ⟨r, rfl, hN, hb⟩
      go_wp2_with fail
      exact hK _ _ (fm_got (Ok := fun _ => True) hN hb (fun _ _ => trivial)) hb
    | 7, _, hS, hK =>
      rw [d7] at hK
      obtain ⟨v95, h95, f95⟩ := hS.got 3 (q := .fmF (Fm.mk 4 ⟨#[]⟩ 0 0 [Fm.mk 9 ⟨#[]⟩ 0 0 [f, g]])) rfl (by kernel_rfl) d3
      have e95 := at_eval h95
      obtain ⟨v98, h98, f98⟩ := hS.got 6 (q := .fmF (Fm.mk 10 ⟨#[]⟩ 0 0 [no, ot])) rfl (by kernel_rfl) d6
      have e98 := at_eval h98
      rw [hL.out, ← hL2.out]; refine wpOp_of_list' rfl ?_
      go_wp2_with fail
      refine (pair_any W.heap.size (Fm.mk 4 ⟨#[]⟩ 0 0 [Fm.mk 9 ⟨#[]⟩ 0 0 [f, g]]) (Fm.mk 10 ⟨#[]⟩ 0 0 [no, ot]) _ _ W hEW (fm_at f95) (fm_at f98) (Nat.le_refl _) (by simp only [nodes_mk1, Fm.nodesL_cons, Fm.nodesL_nil]; omega) (by simp only [nodes_mk1, Fm.nodesL_cons, Fm.nodesL_nil]; omega)).mono ?_
      rintro e W2 ⟨rfl, hb⟩
      rw [e1.out]
      go_wp2_with fail
      exact hK _ _ rfl hb
    | 8, _, hS, hK =>
      rw [d8] at hK
      obtain ⟨v99, h99, f99⟩ := hS.got 7 (q := .boolF true) rfl (by kernel_rfl) d7
      obtain rfl : v99 = .bool true := f99
      have e99 := at_eval h99
      rw [hL.out, ← hL2.out]; refine wpOp_of_list' rfl ?_
      go_wp2_with fail
      exact hK _ _ rfl (Below.refl _ _)
    | 9, _, hS, hK =>
      rw [d9] at hK
      obtain ⟨v100, h100, f100⟩ := hS.got 8 (q := .boolF true) rfl (by kernel_rfl) d8
      obtain rfl : v100 = .bool true := f100
      have e100 := at_eval h100
      have h3 := hS.slot (by kernel_rfl) p3
      have e3 := at_eval h3
      obtain ⟨o3, c3, ⟨b0, b1, b2, b3, b4⟩, hfq⟩ := (B3.out.below hS.below).cells
      rw [hL.out, ← hL2.out]; refine wpOp_of_list' rfl ?_
      go_wp2_with fail
      exact hK _ _ hfq (Below.refl _ _)
    | 10, _, hS, hK =>
      rw [d10] at hK
      obtain ⟨v100, h100, f100⟩ := hS.got 8 (q := .boolF true) rfl (by kernel_rfl) d8
      obtain rfl : v100 = .bool true := f100
      have e100 := at_eval h100
      obtain ⟨v101, h101, f101⟩ := hS.got 9 (q := .fmF (f)) rfl (by kernel_rfl) d9
      have e101 := at_eval h101
      rw [hL.out, ← hL2.out]; refine wpOp_of_list' rfl ?_
      go_wp2_with fail
      refine (refone_any (fun b => b < W.heap.size ∧ True) 11 _ f W f101 (fun b hb => hb.1) ⟨by decide, by decide⟩).mono ?_
      rintro e W2 ⟨r, rfl, hN, hb⟩
      go_wp2_with fail
      exact hK _ _ (fm_got (Ok := fun _ => True) hN hb (fun _ _ => trivial)) hb
    | 11, _, hS, hK =>
      rw [d11] at hK
      obtain ⟨v100, h100, f100⟩ := hS.got 8 (q := .boolF true) rfl (by kernel_rfl) d8
      obtain rfl : v100 = .bool true := f100
      have e100 := at_eval h100
      rw [hL.out, ← hL2.out]; refine wpOp_of_list' rfl ?_
      go_wp2_with fail
      refine (reftrue_any (fun b => b < W.heap.size ∧ True) W).mono ?_
      rintro e W2 ⟨r, rfl, hN, hb⟩
      go_wp2_with fail
      exact hK _ _ (fm_got (Ok := fun _ => True) hN hb (fun _ _ => trivial)) hb
    | 12, _, hS, hK =>
      rw [d12] at hK
      obtain ⟨v100, h100, f100⟩ := hS.got 8 (q := .boolF true) rfl (by kernel_rfl) d8
      obtain rfl : v100 = .bool true := f100
      have e100 := at_eval h100
      have h3 := hS.slot (by kernel_rfl) p3
      have e3 := at_eval h3
      obtain ⟨o3, c3, ⟨b0, b1, b2, b3, b4⟩, hfq⟩ := (B3.out.below hS.below).cells
      rw [hL.out, ← hL2.out]; refine wpOp_of_list' rfl ?_
      go_wp2_with fail
      exact hK _ _ hfq (Below.refl _ _)
    | 13, _, hS, hK =>
      rw [d13] at hK
      obtain ⟨v100, h100, f100⟩ := hS.got 8 (q := .boolF true) rfl (by kernel_rfl) d8
      obtain rfl : v100 = .bool true := f100
      have e100 := at_eval h100
      obtain ⟨v103, h103, f103⟩ := hS.got 11 (q := .fmF (fTrue)) rfl (by kernel_rfl) d11
      have e103 := at_eval h103
      obtain ⟨v104, h104, f104⟩ := hS.got 12 (q := .fmF (f)) rfl (by kernel_rfl) d12
      have e104 := at_eval h104
      rw [hL.out, ← hL2.out]; refine wpOp_of_list' rfl ?_
      go_wp2_with fail
      refine (reftwo_any (fun b => b < W.heap.size ∧ True) 9 _ _ fTrue f W f103 f104 (fun b hb => hb.1) ⟨by decide, by decide⟩).mono ?_
      rintro e W2 ⟨r, rfl, hN, hb⟩
      go_wp2_with fail
      exact hK _ _ (fm_got (Ok := fun _ => True) hN hb (fun _ _ => trivial)) hb
    | 14, _, hS, hK =>
      rw [d14] at hK
      obtain ⟨v100, h100, f100⟩ := hS.got 8 (q := .boolF true) rfl (by kernel_rfl) d8
      obtain rfl : v100 = .bool true := f100
      have e100 := at_eval h100
      obtain ⟨v102, h102, f102⟩ := hS.got 10 (q := .fmF (Fm.mk 11 ⟨#[]⟩ 0 0 [f])) rfl (by kernel_rfl) d10
      have e102 := at_eval h102
      obtain ⟨v105, h105, f105⟩ := hS.got 13 (q := .fmF (Fm.mk 9 ⟨#[]⟩ 0 0 [fTrue, f])) rfl (by kernel_rfl) d13
      have e105 := at_eval h105
      rw [hL.out, ← hL2.out]; refine wpOp_of_list' rfl ?_
      go_wp2_with fail
      refine (pair_any W.heap.size (Fm.mk 11 ⟨#[]⟩ 0 0 [f]) (Fm.mk 9 ⟨#[]⟩ 0 0 [fTrue, f]) _ _ W hEW (fm_at f102) (fm_at f105) (Nat.le_refl _) (by simp only [nodes_mk1, Fm.nodesL_cons, Fm.nodesL_nil]; omega) (by simp only [nodes_mk1, Fm.nodesL_cons, Fm.nodesL_nil]; omega)).mono ?_
      rintro e W2 ⟨rfl, hb⟩
      rw [e2.out]
      go_wp2_with fail
      exact hK _ _ rfl hb
    | 15, _, hS, hK =>
      rw [d15] at hK
      obtain ⟨v100, h100, f100⟩ := hS.got 8 (q := .boolF true) rfl (by kernel_rfl) d8
      obtain rfl : v100 = .bool true := f100
      have e100 := at_eval h100
      obtain ⟨v106, h106, f106⟩ := hS.got 14 (q := .boolF true) rfl (by kernel_rfl) d14
      obtain rfl : v106 = .bool true := f106
      have e106 := at_eval h106
      rw [hL.out, ← hL2.out]; refine wpOp_of_list' rfl ?_
      go_wp2_with fail
      exact hK _ _ rfl (Below.refl _ _)
    | 16, _, hS, hK =>
      rw [d16] at hK
      obtain ⟨v107, h107, f107⟩ := hS.got 15 (q := .boolF true) rfl (by kernel_rfl) d15
      obtain rfl : v107 = .bool true := f107
      have e107 := at_eval h107
      rw [hL.out, ← hL2.out]; refine wpOp_of_list' rfl ?_
      go_wp2_with fail
      exact hK _ _ rfl (Below.refl _ _)
    | n + 17, hi, _, _ => exact absurd hi (by rw [hsz]; omega)
  · intro x W hB hx
    have y7 : x 7 = .bool true := hx 7 99 (by rw [hsz]; omega) d7
    have y8 : x 8 = .bool true := hx 8 100 (by rw [hsz]; omega) d8
    have y14 : x 14 = .bool true := hx 14 106 (by rw [hsz]; omega) d14
    have y15 : x 15 = .bool true := hx 15 107 (by rw [hsz]; omega) d15
    have y16 : x 16 = .bool true := hx 16 17 (by rw [hsz]; omega) d16
    have hl := hend x W hB
    have hr : List.range (opsAt Tryz.f8 13).size = [0, 1, 2, 3, 4, 5, 6, 7, 8, 9, 10, 11, 12, 13, 14, 15, 16] := by rw [hsz]; rfl
    rw [hr]
    simp only [putL, d0, d1, d2, d3, d4, d5, d6, d7, d8, d9, d10, d11, d12, d13, d14, d15, d16]
    simp only [y7, y8, y14, y15, y16]
    exact hl
end Go.Proofs.YtlkoacopknolnaaGreatDoor
