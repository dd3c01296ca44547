/-
  The drawn regions of FormulaDuality.
-/
import Derived.Test.YtlkoacopknolnaaGreatDoorFjB
import Derived.Test.YtlkoacopknolnaaGreatDoorGi
namespace Go.Proofs.YtlkoacopknolnaaGreatDoor
open Go.RowKit

set_option maxRecDepth 100000 in
set_option maxHeartbeats 8000000 in
theorem dua_r7 {f c cf ncf : Fm} {k2 k8 : Nat} (a0 : Act) (W0 : World) (Q : Exit → Act → World → Prop) (hE : Env W0) (hz : a0.tmps.size = 65) (p2 : a0.tmps[(2 : Nat)]? = some (.pointer (some ⟨k2, 0, none⟩))) (p8 : a0.tmps[(8 : Nat)]? = some (.pointer (some ⟨k8, 0, none⟩))) (B2 : Hid (Bx W0 k2 (f))) (B8 : Hid (Bx W0 k8 (c))) (e1 : Hid (canonTop f = cf)) (e2 : Hid (notF cf = ncf)) (e3 : Hid (canonTop ncf = c)) (n1 : f.nodes ≤ 1000) (n2 : cf.nodes ≤ 1000) (n3 : ncf.nodes ≤ 1000)
    (hend : ∀ (x : Nat → Value) (W : World), Below W0.heap.size W0 W → Q .normal (((((((a0.put (some 27) (x 0)).put (some 28) (x 1)).put (some 29) (x 2)).put (some 30) (x 3)).put (some 31) (x 4)).put (some 32) (.int .i64 (0))).put (some 33) (.bool false)) W) :
    (Code.region 7 (opsAt Tryz.f11 7) true).wp Tryz.prog Q a0 W0 := by
  have d0 : dstOf (opsAt Tryz.f11 7) 0 = some 27 := by kernel_rfl
  have d1 : dstOf (opsAt Tryz.f11 7) 1 = some 28 := by kernel_rfl
  have d2 : dstOf (opsAt Tryz.f11 7) 2 = some 29 := by kernel_rfl
  have d3 : dstOf (opsAt Tryz.f11 7) 3 = some 30 := by kernel_rfl
  have d4 : dstOf (opsAt Tryz.f11 7) 4 = some 31 := by kernel_rfl
  have d5 : dstOf (opsAt Tryz.f11 7) 5 = some 32 := by kernel_rfl
  have d6 : dstOf (opsAt Tryz.f11 7) 6 = some 33 := by kernel_rfl
  have hsz : (opsAt Tryz.f11 7).size = 7 := by kernel_rfl
  obtain ⟨L, hL⟩ : ∃ L, Hid ((opsAt Tryz.f11 7) = L) := ⟨_, hidi rfl⟩
  have hL2 := hL.out
  unfold opsAt Tryz.f11 at hL2
  simp only [findRegion, Nat.reduceBEq, if_true, if_false, Bool.false_eq_true, Option.getD_some] at hL2
  replace hL2 := hidi hL2
  refine wp_region_facts (by kernel_rfl) (by kernel_rfl) (by kernel_rfl) (by rw [hz]; kernel_rfl) (by kernel_rfl) (fun i => match i with
      | 0 => .fmF (c)
      | 1 => .fmF (f)
      | 2 => .fmF (cf)
      | 3 => .fmF (ncf)
      | 4 => .fmF (c)
      | 5 => .intF (0)
      | 6 => .boolF false
      | _ => .free) ?_ ?_
  · intro i a W K hi hS hK
    have hEW := hE.below hS.below
    match i, hi, hS, hK with
    | 0, _, hS, hK =>
      rw [d0] at hK
      have h8 := hS.slot (by kernel_rfl) p8
      have e8 := at_eval h8
      obtain ⟨o8, c8, ⟨b0, b1, b2, b3, b4⟩, hfq⟩ := (B8.out.below hS.below).cells
      rw [hL.out, ← hL2.out]; refine wpOp_of_list' rfl ?_
      go_wp2_with fail
      exact hK _ _ hfq (Below.refl _ _)
    | 1, _, hS, hK =>
      rw [d1] at hK
      have h2 := hS.slot (by kernel_rfl) p2
      have e2 := at_eval h2
      obtain ⟨o2, c2, ⟨b0, b1, b2, b3, b4⟩, hfq⟩ := (B2.out.below hS.below).cells
      rw [hL.out, ← hL2.out]; refine wpOp_of_list' rfl ?_
      go_wp2_with fail
      exact hK _ _ hfq (Below.refl _ _)
    | 2, _, hS, hK =>
      rw [d2] at hK
      obtain ⟨v28, h28, f28⟩ := hS.got 1 (q := .fmF (f)) rfl (by kernel_rfl) d1
      have e28 := at_eval h28
      rw [hL.out, ← hL2.out]; refine wpOp_of_list' rfl ?_
      go_wp2_with fail
      refine (canontop_any (fun b => b < W.heap.size ∧ True) (f) _ W hEW f28 (fun b hb => hb.1) (by omega)).mono ?_
      rintro e W2 ⟨r, rfl, hN, hb⟩
      rw [e1.out] at hN
      go_wp2_with fail
      exact hK _ _ (fm_got (Ok := fun _ => True) hN hb (fun _ _ => trivial)) hb
    | 3, _, hS, hK =>
      rw [d3] at hK
      obtain ⟨v29, h29, f29⟩ := hS.got 2 (q := .fmF (cf)) rfl (by kernel_rfl) d2
      have e29 := at_eval h29
      rw [hL.out, ← hL2.out]; refine wpOp_of_list' rfl ?_
      go_wp2_with fail
      refine (not_any (fun b => b < W.heap.size ∧ True) (cf) _ W hEW f29 (fun b hb => hb.1) (by omega)).mono ?_
      rintro e W2 ⟨r, rfl, hN, hb⟩
      rw [e2.out] at hN
      go_wp2_with fail
      exact hK _ _ (fm_got (Ok := fun _ => True) hN hb (fun _ _ => trivial)) hb
    | 4, _, hS, hK =>
      rw [d4] at hK
      obtain ⟨v30, h30, f30⟩ := hS.got 3 (q := .fmF (ncf)) rfl (by kernel_rfl) d3
      have e30 := at_eval h30
      rw [hL.out, ← hL2.out]; refine wpOp_of_list' rfl ?_
      go_wp2_with fail
      refine (canontop_any (fun b => b < W.heap.size ∧ True) (ncf) _ W hEW f30 (fun b hb => hb.1) (by omega)).mono ?_
      rintro e W2 ⟨r, rfl, hN, hb⟩
      rw [e3.out] at hN
      go_wp2_with fail
      exact hK _ _ (fm_got (Ok := fun _ => True) hN hb (fun _ _ => trivial)) hb
    | 5, _, hS, hK =>
      rw [d5] at hK
      obtain ⟨v27, h27, f27⟩ := hS.got 0 (q := .fmF (c)) rfl (by kernel_rfl) d0
      have e27 := at_eval h27
      obtain ⟨v31, h31, f31⟩ := hS.got 4 (q := .fmF (c)) rfl (by kernel_rfl) d4
      have e31 := at_eval h31
      rw [hL.out, ← hL2.out]; refine wpOp_of_list' rfl ?_
      go_wp2_with fail
      refine (compare_any (c) (c) W.heap.size _ _ W (fm_at f27) (fm_at f31) (Nat.le_refl _)).mono ?_
      rintro e W2 ⟨rfl, hb⟩
      rw [cmpF_self]
      go_wp2_with fail
      exact hK _ _ rfl hb
    | 6, _, hS, hK =>
      rw [d6] at hK
      obtain ⟨v32, h32, f32⟩ := hS.got 5 (q := .intF (0)) rfl (by kernel_rfl) d5
      obtain rfl : v32 = .int .i64 (0) := f32
      have e32 := at_eval h32
      rw [hL.out, ← hL2.out]; refine wpOp_of_list' rfl ?_
      go_wp2_with fail
      exact hK _ _ rfl (Below.refl _ _)
    | n + 7, hi, _, _ => exact absurd hi (by rw [hsz]; omega)
  · intro x W hB hx
    have y5 : x 5 = .int .i64 (0) := hx 5 32 (by rw [hsz]; omega) d5
    have y6 : x 6 = .bool false := hx 6 33 (by rw [hsz]; omega) d6
    have hl := hend x W hB
    have hr : List.range (opsAt Tryz.f11 7).size = [0, 1, 2, 3, 4, 5, 6] := by rw [hsz]; rfl
    rw [hr]
    simp only [putL, d0, d1, d2, d3, d4, d5, d6]
    simp only [y5, y6]
    exact hl
set_option maxRecDepth 100000 in
set_option maxHeartbeats 8000000 in
theorem dub_r11 {n m both one z1 z2 : Fm} {k6 k7 k9 k10 : Nat} (a0 : Act) (W0 : World) (Q : Exit → Act → World → Prop) (hE : Env W0) (hz : a0.tmps.size = 65) (p5 : a0.tmps[(5 : Nat)]? = some (.bool true)) (p6 : a0.tmps[(6 : Nat)]? = some (.pointer (some ⟨k6, 0, none⟩))) (p7 : a0.tmps[(7 : Nat)]? = some (.pointer (some ⟨k7, 0, none⟩))) (p9 : a0.tmps[(9 : Nat)]? = some (.pointer (some ⟨k9, 0, none⟩))) (p10 : a0.tmps[(10 : Nat)]? = some (.pointer (some ⟨k10, 0, none⟩))) (B6 : Hid (Bx W0 k6 (n))) (B7 : Hid (Bx W0 k7 (m))) (B9 : Hid (Bx W0 k9 (both))) (B10 : Hid (Bx W0 k10 (one))) (e1 : Hid (canonTop both = z1)) (e2 : Hid (combineF 6 [n, m] = z1)) (e3 : Hid (canonTop one = z2)) (e4 : Hid (combineF 5 [n, m] = z2)) (n1 : n.nodes ≤ 1000) (n2 : m.nodes ≤ 1000) (n3 : both.nodes ≤ 1000) (n4 : one.nodes ≤ 1000)
    (hend : ∀ (x : Nat → Value) (W : World), Below W0.heap.size W0 W → Q .normal ((((((((((((((((((((((a0.put (some 44) (.bool true)).put (some 45) (.bool true)).put (some 46) (x 2)).put (some 47) (x 3)).put (some 48) (x 4)).put (some 49) (x 5)).put (some 50) (x 6)).put (some 51) (x 7)).put (some 52) (.int .i64 (0))).put (some 53) (.bool true)).put (some 54) (.bool true)).put (some 55) (.bool true)).put (some 56) (x 12)).put (some 57) (x 13)).put (some 58) (x 14)).put (some 59) (x 15)).put (some 60) (x 16)).put (some 61) (x 17)).put (some 62) (.int .i64 (0))).put (some 63) (.bool true)).put (some 64) (.bool true)).put (some 4) (.bool true)) W) :
    (Code.region 11 (opsAt Tryz.f11 11) true).wp Tryz.prog Q a0 W0 := by
  have d0 : dstOf (opsAt Tryz.f11 11) 0 = some 44 := by kernel_rfl
  have d1 : dstOf (opsAt Tryz.f11 11) 1 = some 45 := by kernel_rfl
  have d2 : dstOf (opsAt Tryz.f11 11) 2 = some 46 := by kernel_rfl
  have d3 : dstOf (opsAt Tryz.f11 11) 3 = some 47 := by kernel_rfl
  have d4 : dstOf (opsAt Tryz.f11 11) 4 = some 48 := by kernel_rfl
  have d5 : dstOf (opsAt Tryz.f11 11) 5 = some 49 := by kernel_rfl
  have d6 : dstOf (opsAt Tryz.f11 11) 6 = some 50 := by kernel_rfl
  have d7 : dstOf (opsAt Tryz.f11 11) 7 = some 51 := by kernel_rfl
  have d8 : dstOf (opsAt Tryz.f11 11) 8 = some 52 := by kernel_rfl
  have d9 : dstOf (opsAt Tryz.f11 11) 9 = some 53 := by kernel_rfl
  have d10 : dstOf (opsAt Tryz.f11 11) 10 = some 54 := by kernel_rfl
  have d11 : dstOf (opsAt Tryz.f11 11) 11 = some 55 := by kernel_rfl
  have d12 : dstOf (opsAt Tryz.f11 11) 12 = some 56 := by kernel_rfl
  have d13 : dstOf (opsAt Tryz.f11 11) 13 = some 57 := by kernel_rfl
  have d14 : dstOf (opsAt Tryz.f11 11) 14 = some 58 := by kernel_rfl
  have d15 : dstOf (opsAt Tryz.f11 11) 15 = some 59 := by kernel_rfl
  have d16 : dstOf (opsAt Tryz.f11 11) 16 = some 60 := by kernel_rfl
  have d17 : dstOf (opsAt Tryz.f11 11) 17 = some 61 := by kernel_rfl
  have d18 : dstOf (opsAt Tryz.f11 11) 18 = some 62 := by kernel_rfl
  have d19 : dstOf (opsAt Tryz.f11 11) 19 = some 63 := by kernel_rfl
  have d20 : dstOf (opsAt Tryz.f11 11) 20 = some 64 := by kernel_rfl
  have d21 : dstOf (opsAt Tryz.f11 11) 21 = some 4 := by kernel_rfl
  have hsz : (opsAt Tryz.f11 11).size = 22 := by kernel_rfl
  obtain ⟨L, hL⟩ : ∃ L, Hid ((opsAt Tryz.f11 11) = L) := ⟨_, hidi rfl⟩
  have hL2 := hL.out
  unfold opsAt Tryz.f11 at hL2
  simp only [findRegion, Nat.reduceBEq, if_true, if_false, Bool.false_eq_true, Option.getD_some] at hL2
  replace hL2 := hidi hL2
  refine wp_region_facts (by kernel_rfl) (by kernel_rfl) (by kernel_rfl) (by rw [hz]; kernel_rfl) (by kernel_rfl) (fun i => match i with
      | 0 => .boolF true
      | 1 => .boolF true
      | 2 => .fmF (both)
      | 3 => .fmF (z1)
      | 4 => .fmF (n)
      | 5 => .fmF (m)
      | 6 => .fmsF [n, m]
      | 7 => .fmF (z1)
      | 8 => .intF (0)
      | 9 => .boolF true
      | 10 => .boolF true
      | 11 => .boolF true
      | 12 => .fmF (one)
      | 13 => .fmF (z2)
      | 14 => .fmF (n)
      | 15 => .fmF (m)
      | 16 => .fmsF [n, m]
      | 17 => .fmF (z2)
      | 18 => .intF (0)
      | 19 => .boolF true
      | 20 => .boolF true
      | 21 => .boolF true
      | _ => .free) ?_ ?_
  · intro i a W K hi hS hK
    have hEW := hE.below hS.below
    match i, hi, hS, hK with
    | 0, _, hS, hK =>
      rw [d0] at hK
      have h5 := hS.slot (by kernel_rfl) p5
      have e5 := at_eval h5
      rw [hL.out, ← hL2.out]; refine wpOp_of_list' rfl ?_
      go_wp2_with fail
      exact hK _ _ rfl (Below.refl _ _)
    | 1, _, hS, hK =>
      rw [d1] at hK
      obtain ⟨v44, h44, f44⟩ := hS.got 0 (q := .boolF true) rfl (by kernel_rfl) d0
      obtain rfl : v44 = .bool true := f44
      have e44 := at_eval h44
      rw [hL.out, ← hL2.out]; refine wpOp_of_list' rfl ?_
      go_wp2_with fail
      exact hK _ _ rfl (Below.refl _ _)
    | 2, _, hS, hK =>
      rw [d2] at hK
      obtain ⟨v45, h45, f45⟩ := hS.got 1 (q := .boolF true) rfl (by kernel_rfl) d1
      obtain rfl : v45 = .bool true := f45
      have e45 := at_eval h45
      have h9 := hS.slot (by kernel_rfl) p9
      have e9 := at_eval h9
      obtain ⟨o9, c9, ⟨b0, b1, b2, b3, b4⟩, hfq⟩ := (B9.out.below hS.below).cells
      rw [hL.out, ← hL2.out]; refine wpOp_of_list' rfl ?_
      go_wp2_with fail
      exact hK _ _ hfq (Below.refl _ _)
    | 3, _, hS, hK =>
      rw [d3] at hK
      obtain ⟨v45, h45, f45⟩ := hS.got 1 (q := .boolF true) rfl (by kernel_rfl) d1
      obtain rfl : v45 = .bool true := f45
      have e45 := at_eval h45
      obtain ⟨v46, h46, f46⟩ := hS.got 2 (q := .fmF (both)) rfl (by kernel_rfl) d2
      have e46 := at_eval h46
      rw [hL.out, ← hL2.out]; refine wpOp_of_list' rfl ?_
      go_wp2_with fail
      refine (canontop_any (fun b => b < W.heap.size ∧ True) (both) _ W hEW f46 (fun b hb => hb.1) (by omega)).mono ?_
      rintro e W2 ⟨r, rfl, hN, hb⟩
      rw [e1.out] at hN
      go_wp2_with fail
      exact hK _ _ (fm_got (Ok := fun _ => True) hN hb (fun _ _ => trivial)) hb
    | 4, _, hS, hK =>
      rw [d4] at hK
      obtain ⟨v45, h45, f45⟩ := hS.got 1 (q := .boolF true) rfl (by kernel_rfl) d1
      obtain rfl : v45 = .bool true := f45
      have e45 := at_eval h45
      have h6 := hS.slot (by kernel_rfl) p6
      have e6 := at_eval h6
      obtain ⟨o6, c6, ⟨b0, b1, b2, b3, b4⟩, hfq⟩ := (B6.out.below hS.below).cells
      rw [hL.out, ← hL2.out]; refine wpOp_of_list' rfl ?_
      go_wp2_with fail
      exact hK _ _ hfq (Below.refl _ _)
    | 5, _, hS, hK =>
      rw [d5] at hK
      obtain ⟨v45, h45, f45⟩ := hS.got 1 (q := .boolF true) rfl (by kernel_rfl) d1
      obtain rfl : v45 = .bool true := f45
      have e45 := at_eval h45
      have h7 := hS.slot (by kernel_rfl) p7
      have e7 := at_eval h7
      obtain ⟨o7, c7, ⟨b0, b1, b2, b3, b4⟩, hfq⟩ := (B7.out.below hS.below).cells
      rw [hL.out, ← hL2.out]; refine wpOp_of_list' rfl ?_
      go_wp2_with fail
      exact hK _ _ hfq (Below.refl _ _)
    | 6, _, hS, hK =>
      rw [d6] at hK
      obtain ⟨v45, h45, f45⟩ := hS.got 1 (q := .boolF true) rfl (by kernel_rfl) d1
      obtain rfl : v45 = .bool true := f45
      have e45 := at_eval h45
      obtain ⟨v48, h48, f48⟩ := hS.got 4 (q := .fmF (n)) rfl (by kernel_rfl) d4
      have e48 := at_eval h48
      obtain ⟨v49, h49, f49⟩ := hS.got 5 (q := .fmF (m)) rfl (by kernel_rfl) d5
      have e49 := at_eval h49
      obtain ⟨o48, c48, rfl, hf48, ha48⟩ := fq_open f48
      obtain ⟨o49, c49, rfl, hf49, ha49⟩ := fq_open f49
      rw [hL.out, ← hL2.out]; refine wpOp_of_list' rfl ?_
      go_wp2_with fail
      exact hK _ _ (fms_new2 hf48 hf49 ha48 ha49) (below_box _ _)
    | 7, _, hS, hK =>
      rw [d7] at hK
      obtain ⟨v45, h45, f45⟩ := hS.got 1 (q := .boolF true) rfl (by kernel_rfl) d1
      obtain rfl : v45 = .bool true := f45
      have e45 := at_eval h45
      obtain ⟨v50, h50, f50⟩ := hS.got 6 (q := .fmsF [n, m]) rfl (by kernel_rfl) d6
      have e50 := at_eval h50
      rw [hL.out, ← hL2.out]; refine wpOp_of_list' rfl ?_
      go_wp2_with fail
      refine (or_any (fun b => b < W.heap.size ∧ True) [n, m] _ W hEW f50 (fun b hb => hb.1) (by simp only [Fm.nodesL_cons, Fm.nodesL_nil]; omega)).mono ?_
      rintro e W2 ⟨r, rfl, hN, hb⟩
      rw [e2.out] at hN
      go_wp2_with fail
      exact hK _ _ (fm_got (Ok := fun _ => True) hN hb (fun _ _ => trivial)) hb
    | 8, _, hS, hK =>
      rw [d8] at hK
      obtain ⟨v45, h45, f45⟩ := hS.got 1 (q := .boolF true) rfl (by kernel_rfl) d1
      obtain rfl : v45 = .bool true := f45
      have e45 := at_eval h45
      obtain ⟨v47, h47, f47⟩ := hS.got 3 (q := .fmF (z1)) rfl (by kernel_rfl) d3
      have e47 := at_eval h47
      obtain ⟨v51, h51, f51⟩ := hS.got 7 (q := .fmF (z1)) rfl (by kernel_rfl) d7
      have e51 := at_eval h51
      rw [hL.out, ← hL2.out]; refine wpOp_of_list' rfl ?_
      go_wp2_with fail
      refine (compare_any (z1) (z1) W.heap.size _ _ W (fm_at f47) (fm_at f51) (Nat.le_refl _)).mono ?_
      rintro e W2 ⟨rfl, hb⟩
      rw [cmpF_self]
      go_wp2_with fail
      exact hK _ _ rfl hb
    | 9, _, hS, hK =>
      rw [d9] at hK
      obtain ⟨v45, h45, f45⟩ := hS.got 1 (q := .boolF true) rfl (by kernel_rfl) d1
      obtain rfl : v45 = .bool true := f45
      have e45 := at_eval h45
      obtain ⟨v52, h52, f52⟩ := hS.got 8 (q := .intF (0)) rfl (by kernel_rfl) d8
      obtain rfl : v52 = .int .i64 (0) := f52
      have e52 := at_eval h52
      rw [hL.out, ← hL2.out]; refine wpOp_of_list' rfl ?_
      go_wp2_with fail
      exact hK _ _ rfl (Below.refl _ _)
    | 10, _, hS, hK =>
      rw [d10] at hK
      obtain ⟨v45, h45, f45⟩ := hS.got 1 (q := .boolF true) rfl (by kernel_rfl) d1
      obtain rfl : v45 = .bool true := f45
      have e45 := at_eval h45
      obtain ⟨v53, h53, f53⟩ := hS.got 9 (q := .boolF true) rfl (by kernel_rfl) d9
      obtain rfl : v53 = .bool true := f53
      have e53 := at_eval h53
      rw [hL.out, ← hL2.out]; refine wpOp_of_list' rfl ?_
      go_wp2_with fail
      exact hK _ _ rfl (Below.refl _ _)
    | 11, _, hS, hK =>
      rw [d11] at hK
      obtain ⟨v54, h54, f54⟩ := hS.got 10 (q := .boolF true) rfl (by kernel_rfl) d10
      obtain rfl : v54 = .bool true := f54
      have e54 := at_eval h54
      rw [hL.out, ← hL2.out]; refine wpOp_of_list' rfl ?_
      go_wp2_with fail
      exact hK _ _ rfl (Below.refl _ _)
    | 12, _, hS, hK =>
      rw [d12] at hK
      obtain ⟨v55, h55, f55⟩ := hS.got 11 (q := .boolF true) rfl (by kernel_rfl) d11
      obtain rfl : v55 = .bool true := f55
      have e55 := at_eval h55
      have h10 := hS.slot (by kernel_rfl) p10
      have e10 := at_eval h10
      obtain ⟨o10, c10, ⟨b0, b1, b2, b3, b4⟩, hfq⟩ := (B10.out.below hS.below).cells
      rw [hL.out, ← hL2.out]; refine wpOp_of_list' rfl ?_
      go_wp2_with fail
      exact hK _ _ hfq (Below.refl _ _)
    | 13, _, hS, hK =>
      rw [d13] at hK
      obtain ⟨v55, h55, f55⟩ := hS.got 11 (q := .boolF true) rfl (by kernel_rfl) d11
      obtain rfl : v55 = .bool true := f55
      have e55 := at_eval h55
      obtain ⟨v56, h56, f56⟩ := hS.got 12 (q := .fmF (one)) rfl (by kernel_rfl) d12
      have e56 := at_eval h56
      rw [hL.out, ← hL2.out]; refine wpOp_of_list' rfl ?_
      go_wp2_with fail
      refine (canontop_any (fun b => b < W.heap.size ∧ True) (one) _ W hEW f56 (fun b hb => hb.1) (by omega)).mono ?_
      rintro e W2 ⟨r, rfl, hN, hb⟩
      rw [e3.out] at hN
      go_wp2_with fail
      exact hK _ _ (fm_got (Ok := fun _ => True) hN hb (fun _ _ => trivial)) hb
    | 14, _, hS, hK =>
      rw [d14] at hK
      obtain ⟨v55, h55, f55⟩ := hS.got 11 (q := .boolF true) rfl (by kernel_rfl) d11
      obtain rfl : v55 = .bool true := f55
      have e55 := at_eval h55
      have h6 := hS.slot (by kernel_rfl) p6
      have e6 := at_eval h6
      obtain ⟨o6, c6, ⟨b0, b1, b2, b3, b4⟩, hfq⟩ := (B6.out.below hS.below).cells
      rw [hL.out, ← hL2.out]; refine wpOp_of_list' rfl ?_
      go_wp2_with fail
      exact hK _ _ hfq (Below.refl _ _)
    | 15, _, hS, hK =>
      rw [d15] at hK
      obtain ⟨v55, h55, f55⟩ := hS.got 11 (q := .boolF true) rfl (by kernel_rfl) d11
      obtain rfl : v55 = .bool true := f55
      have e55 := at_eval h55
      have h7 := hS.slot (by kernel_rfl) p7
      have e7 := at_eval h7
      obtain ⟨o7, c7, ⟨b0, b1, b2, b3, b4⟩, hfq⟩ := (B7.out.below hS.below).cells
      rw [hL.out, ← hL2.out]; refine wpOp_of_list' rfl ?_
      go_wp2_with fail
      exact hK _ _ hfq (Below.refl _ _)
    | 16, _, hS, hK =>
      rw [d16] at hK
      obtain ⟨v55, h55, f55⟩ := hS.got 11 (q := .boolF true) rfl (by kernel_rfl) d11
      obtain rfl : v55 = .bool true := f55
      have e55 := at_eval h55
      obtain ⟨v58, h58, f58⟩ := hS.got 14 (q := .fmF (n)) rfl (by kernel_rfl) d14
      have e58 := at_eval h58
      obtain ⟨v59, h59, f59⟩ := hS.got 15 (q := .fmF (m)) rfl (by kernel_rfl) d15
      have e59 := at_eval h59
      obtain ⟨o58, c58, rfl, hf58, ha58⟩ := fq_open f58
      obtain ⟨o59, c59, rfl, hf59, ha59⟩ := fq_open f59
      rw [hL.out, ← hL2.out]; refine wpOp_of_list' rfl ?_
      go_wp2_with fail
      exact hK _ _ (fms_new2 hf58 hf59 ha58 ha59) (below_box _ _)
    | 17, _, hS, hK =>
      rw [d17] at hK
      obtain ⟨v55, h55, f55⟩ := hS.got 11 (q := .boolF true) rfl (by kernel_rfl) d11
      obtain rfl : v55 = .bool true := f55
      have e55 := at_eval h55
      obtain ⟨v60, h60, f60⟩ := hS.got 16 (q := .fmsF [n, m]) rfl (by kernel_rfl) d16
      have e60 := at_eval h60
      rw [hL.out, ← hL2.out]; refine wpOp_of_list' rfl ?_
      go_wp2_with fail
      refine (and_any (fun b => b < W.heap.size ∧ True) [n, m] _ W hEW f60 (fun b hb => hb.1) (by simp only [Fm.nodesL_cons, Fm.nodesL_nil]; omega)).mono ?_
      rintro e W2 ⟨r, rfl, hN, hb⟩
      rw [e4.out] at hN
      go_wp2_with fail
      exact hK _ _ (fm_got (Ok := fun _ => True) hN hb (fun _ _ => trivial)) hb
    | 18, _, hS, hK =>
      rw [d18] at hK
      obtain ⟨v55, h55, f55⟩ := hS.got 11 (q := .boolF true) rfl (by kernel_rfl) d11
      obtain rfl : v55 = .bool true := f55
      have e55 := at_eval h55
      obtain ⟨v57, h57, f57⟩ := hS.got 13 (q := .fmF (z2)) rfl (by kernel_rfl) d13
      have e57 := at_eval h57
      obtain ⟨v61, h61, f61⟩ := hS.got 17 (q := .fmF (z2)) rfl (by kernel_rfl) d17
      have e61 := at_eval h61
      rw [hL.out, ← hL2.out]; refine wpOp_of_list' rfl ?_
      go_wp2_with fail
      refine (compare_any (z2) (z2) W.heap.size _ _ W (fm_at f57) (fm_at f61) (Nat.le_refl _)).mono ?_
      rintro e W2 ⟨rfl, hb⟩
      rw [cmpF_self]
      go_wp2_with fail
      exact hK _ _ rfl hb
    | 19, _, hS, hK =>
      rw [d19] at hK
      obtain ⟨v55, h55, f55⟩ := hS.got 11 (q := .boolF true) rfl (by kernel_rfl) d11
      obtain rfl : v55 = .bool true := f55
      have e55 := at_eval h55
      obtain ⟨v62, h62, f62⟩ := hS.got 18 (q := .intF (0)) rfl (by kernel_rfl) d18
      obtain rfl : v62 = .int .i64 (0) := f62
      have e62 := at_eval h62
      rw [hL.out, ← hL2.out]; refine wpOp_of_list' rfl ?_
      go_wp2_with fail
      exact hK _ _ rfl (Below.refl _ _)
    | 20, _, hS, hK =>
      rw [d20] at hK
      obtain ⟨v55, h55, f55⟩ := hS.got 11 (q := .boolF true) rfl (by kernel_rfl) d11
      obtain rfl : v55 = .bool true := f55
      have e55 := at_eval h55
      obtain ⟨v63, h63, f63⟩ := hS.got 19 (q := .boolF true) rfl (by kernel_rfl) d19
      obtain rfl : v63 = .bool true := f63
      have e63 := at_eval h63
      rw [hL.out, ← hL2.out]; refine wpOp_of_list' rfl ?_
      go_wp2_with fail
      exact hK _ _ rfl (Below.refl _ _)
    | 21, _, hS, hK =>
      rw [d21] at hK
      obtain ⟨v64, h64, f64⟩ := hS.got 20 (q := .boolF true) rfl (by kernel_rfl) d20
      obtain rfl : v64 = .bool true := f64
      have e64 := at_eval h64
      rw [hL.out, ← hL2.out]; refine wpOp_of_list' rfl ?_
      go_wp2_with fail
      exact hK _ _ rfl (Below.refl _ _)
    | n + 22, hi, _, _ => exact absurd hi (by rw [hsz]; omega)
  · intro x W hB hx
    have y0 : x 0 = .bool true := hx 0 44 (by rw [hsz]; omega) d0
    have y1 : x 1 = .bool true := hx 1 45 (by rw [hsz]; omega) d1
    have y8 : x 8 = .int .i64 (0) := hx 8 52 (by rw [hsz]; omega) d8
    have y9 : x 9 = .bool true := hx 9 53 (by rw [hsz]; omega) d9
    have y10 : x 10 = .bool true := hx 10 54 (by rw [hsz]; omega) d10
    have y11 : x 11 = .bool true := hx 11 55 (by rw [hsz]; omega) d11
    have y18 : x 18 = .int .i64 (0) := hx 18 62 (by rw [hsz]; omega) d18
    have y19 : x 19 = .bool true := hx 19 63 (by rw [hsz]; omega) d19
    have y20 : x 20 = .bool true := hx 20 64 (by rw [hsz]; omega) d20
    have y21 : x 21 = .bool true := hx 21 4 (by rw [hsz]; omega) d21
    have hl := hend x W hB
    have hr : List.range (opsAt Tryz.f11 11).size = [0, 1, 2, 3, 4, 5, 6, 7, 8, 9, 10, 11, 12, 13, 14, 15, 16, 17, 18, 19, 20, 21] := by rw [hsz]; rfl
    rw [hr]
    simp only [putL, d0, d1, d2, d3, d4, d5, d6, d7, d8, d9, d10, d11, d12, d13, d14, d15, d16, d17, d18, d19, d20, d21]
    simp only [y0, y1, y8, y9, y10, y11, y18, y19, y20, y21]
    exact hl
end Go.Proofs.YtlkoacopknolnaaGreatDoor
