/-
  The guarded regions of FormulaParts.
-/
import Derived.Test.YtlkoacopknolnaaGreatDoorFjU
import Derived.Test.YtlkoacopknolnaaGreatDoorGc
import Derived.Test.YtlkoacopknolnaaGreatDoorGj
import Derived.Test.YtlkoacopknolnaaGreatDoorGd
import Derived.Test.YtlkoacopknolnaaGreatDoorGt
namespace Go.Proofs.YtlkoacopknolnaaGreatDoor
open Go.RowKit

set_option maxRecDepth 100000 in
set_option maxHeartbeats 8000000 in
theorem para_r4 {f : Fm} {k2 : Nat} (a0 : Act) (W0 : World) (Q : Exit → Act → World → Prop) (hE : Env W0) (hz : a0.tmps.size = 163) (p2 : a0.tmps[(2 : Nat)]? = some (.pointer (some ⟨k2, 0, none⟩))) (B2 : Hid (Bx W0 k2 (f))) (hp : Hid (pastB f = true)) (hl : Hid (layB f = true)) (hk : Hid (kernelB f = true)) (hv : Hid (fvalidB f = true)) (n1 : f.nodes ≤ 1000) (n2 : f.depth ≤ 1000)
    (hend : ∀ (x : Nat → Value) (W : World), Below W0.heap.size W0 W → Q .normal (((((((((((((((((((((a0.put (some 20) (x 0)).put (some 21) (x 1)).put (some 22) (x 2)).put (some 23) (x 3)).put (some 24) (x 4)).put (some 25) (x 5)).put (some 26) (x 6)).put (some 27) (x 7)).put (some 28) (x 8)).put (some 29) (x 9)).put (some 30) (x 10)).put (some 31) (x 11)).put (some 32) (x 12)).put (some 33) (x 13)).put (some 34) (x 14)).put (some 35) (x 15)).put (some 36) (x 16)).put (some 37) (x 17)).put (some 38) (x 18)).put (some 39) (x 19)).put (some 40) (.bool false)) W) :
    (Code.region 4 (opsAt Tryz.f5 4) false).wp Tryz.prog Q a0 W0 := by
  have d0 : dstOf (opsAt Tryz.f5 4) 0 = some 20 := by kernel_rfl
  have d1 : dstOf (opsAt Tryz.f5 4) 1 = some 21 := by kernel_rfl
  have d2 : dstOf (opsAt Tryz.f5 4) 2 = some 22 := by kernel_rfl
  have d3 : dstOf (opsAt Tryz.f5 4) 3 = some 23 := by kernel_rfl
  have d4 : dstOf (opsAt Tryz.f5 4) 4 = some 24 := by kernel_rfl
  have d5 : dstOf (opsAt Tryz.f5 4) 5 = some 25 := by kernel_rfl
  have d6 : dstOf (opsAt Tryz.f5 4) 6 = some 26 := by kernel_rfl
  have d7 : dstOf (opsAt Tryz.f5 4) 7 = some 27 := by kernel_rfl
  have d8 : dstOf (opsAt Tryz.f5 4) 8 = some 28 := by kernel_rfl
  have d9 : dstOf (opsAt Tryz.f5 4) 9 = some 29 := by kernel_rfl
  have d10 : dstOf (opsAt Tryz.f5 4) 10 = some 30 := by kernel_rfl
  have d11 : dstOf (opsAt Tryz.f5 4) 11 = some 31 := by kernel_rfl
  have d12 : dstOf (opsAt Tryz.f5 4) 12 = some 32 := by kernel_rfl
  have d13 : dstOf (opsAt Tryz.f5 4) 13 = some 33 := by kernel_rfl
  have d14 : dstOf (opsAt Tryz.f5 4) 14 = some 34 := by kernel_rfl
  have d15 : dstOf (opsAt Tryz.f5 4) 15 = some 35 := by kernel_rfl
  have d16 : dstOf (opsAt Tryz.f5 4) 16 = some 36 := by kernel_rfl
  have d17 : dstOf (opsAt Tryz.f5 4) 17 = some 37 := by kernel_rfl
  have d18 : dstOf (opsAt Tryz.f5 4) 18 = some 38 := by kernel_rfl
  have d19 : dstOf (opsAt Tryz.f5 4) 19 = some 39 := by kernel_rfl
  have d20 : dstOf (opsAt Tryz.f5 4) 20 = some 40 := by kernel_rfl
  have hsz : (opsAt Tryz.f5 4).size = 21 := by kernel_rfl
  obtain ⟨L, hL⟩ : ∃ L, Hid ((opsAt Tryz.f5 4) = L) := ⟨_, hidi rfl⟩
  have hL2 := hL.out
  unfold opsAt Tryz.f5 at hL2
  simp only [findRegion, Nat.reduceBEq, if_true, if_false, Bool.false_eq_true, Option.getD_some] at hL2
  replace hL2 := hidi hL2
  refine wp_region_facts_seq (by kernel_rfl) (by kernel_rfl) (by rw [hz]; kernel_rfl) (by kernel_rfl) (fun i => match i with
      | 0 => .fmF (f)
      | 1 => .boolF true
      | 2 => .boolF true
      | 3 => .fmF (f)
      | 4 => .boolF true
      | 5 => .boolF false
      | 6 => .boolF false
      | 7 => .boolF false
      | 8 => .fmF (f)
      | 9 => .boolF true
      | 10 => .boolF true
      | 11 => .fmF (f)
      | 12 => .boolF true
      | 13 => .boolF false
      | 14 => .boolF false
      | 15 => .fmF (f)
      | 16 => .boolF true
      | 17 => .boolF false
      | 18 => .boolF false
      | 19 => .boolF false
      | 20 => .boolF false
      | _ => .free) ?_ ?_
  · intro i a W K hi hS hK
    have hEW := hE.below hS.below
    match i, hi, hS, hK with
    | 0, _, hS, hK =>
      rw [d0] at hK
      have h2 := hS.slot (by kernel_rfl) p2
      have e2 := at_eval h2
      obtain ⟨o2, c2, ⟨b0, b1, b2, b3, b4⟩, hfq⟩ := (B2.out.below hS.below).cells
      rw [hL.out, ← hL2.out]; refine wpOp_of_list' rfl ?_
      go_wp2_with fail
      exact hK _ _ hfq (Below.refl _ _)
    | 1, _, hS, hK =>
      rw [d1] at hK
      obtain ⟨v20, h20, f20⟩ := hS.got 0 (q := .fmF (f)) rfl (by kernel_rfl) d0
      have e20 := at_eval h20
      rw [hL.out, ← hL2.out]; refine wpOp_of_list' rfl ?_
      go_wp2_with fail
      refine (past_any f W.heap.size _ W (fm_at f20) (Nat.le_refl _) hEW (by omega)).mono ?_
      rintro e W2 ⟨rfl, hb⟩
      rw [hp.out]
      go_wp2_with fail
      exact hK _ _ rfl hb
    | 2, _, hS, hK =>
      rw [d2] at hK
      obtain ⟨v21, h21, f21⟩ := hS.got 1 (q := .boolF true) rfl (by kernel_rfl) d1
      obtain rfl : v21 = .bool true := f21
      have e21 := at_eval h21
      rw [hL.out, ← hL2.out]; refine wpOp_of_list' rfl ?_
      go_wp2_with fail
      exact hK _ _ rfl (Below.refl _ _)
    | 3, _, hS, hK =>
      rw [d3] at hK
      obtain ⟨v22, h22, f22⟩ := hS.got 2 (q := .boolF true) rfl (by kernel_rfl) d2
      obtain rfl : v22 = .bool true := f22
      have e22 := at_eval h22
      have h2 := hS.slot (by kernel_rfl) p2
      have e2 := at_eval h2
      obtain ⟨o2, c2, ⟨b0, b1, b2, b3, b4⟩, hfq⟩ := (B2.out.below hS.below).cells
      rw [hL.out, ← hL2.out]; refine wpOp_of_list' rfl ?_
      go_wp2_with fail
      exact hK _ _ hfq (Below.refl _ _)
    | 4, _, hS, hK =>
      rw [d4] at hK
      obtain ⟨v22, h22, f22⟩ := hS.got 2 (q := .boolF true) rfl (by kernel_rfl) d2
      obtain rfl : v22 = .bool true := f22
      have e22 := at_eval h22
      obtain ⟨v23, h23, f23⟩ := hS.got 3 (q := .fmF (f)) rfl (by kernel_rfl) d3
      have e23 := at_eval h23
      rw [hL.out, ← hL2.out]; refine wpOp_of_list' rfl ?_
      go_wp2_with fail
      refine (layered_any f W.heap.size _ W (fm_at f23) (Nat.le_refl _) hEW (by omega)).mono ?_
      rintro e W2 ⟨rfl, hb⟩
      rw [hl.out]
      go_wp2_with fail
      exact hK _ _ rfl hb
    | 5, _, hS, hK =>
      rw [d5] at hK
      obtain ⟨v22, h22, f22⟩ := hS.got 2 (q := .boolF true) rfl (by kernel_rfl) d2
      obtain rfl : v22 = .bool true := f22
      have e22 := at_eval h22
      obtain ⟨v24, h24, f24⟩ := hS.got 4 (q := .boolF true) rfl (by kernel_rfl) d4
      obtain rfl : v24 = .bool true := f24
      have e24 := at_eval h24
      rw [hL.out, ← hL2.out]; refine wpOp_of_list' rfl ?_
      go_wp2_with fail
      exact hK _ _ rfl (Below.refl _ _)
    | 6, _, hS, hK =>
      rw [d6] at hK
      obtain ⟨v22, h22, f22⟩ := hS.got 2 (q := .boolF true) rfl (by kernel_rfl) d2
      obtain rfl : v22 = .bool true := f22
      have e22 := at_eval h22
      obtain ⟨v25, h25, f25⟩ := hS.got 5 (q := .boolF false) rfl (by kernel_rfl) d5
      obtain rfl : v25 = .bool false := f25
      have e25 := at_eval h25
      rw [hL.out, ← hL2.out]; refine wpOp_of_list' rfl ?_
      go_wp2_with fail
      exact hK _ _ rfl (Below.refl _ _)
    | 7, _, hS, hK =>
      rw [d7] at hK
      obtain ⟨v26, h26, f26⟩ := hS.got 6 (q := .boolF false) rfl (by kernel_rfl) d6
      obtain rfl : v26 = .bool false := f26
      have e26 := at_eval h26
      rw [hL.out, ← hL2.out]; refine wpOp_of_list' rfl ?_
      go_wp2_with fail
      exact hK _ _ rfl (Below.refl _ _)
    | 8, _, hS, hK =>
      rw [d8] at hK
      obtain ⟨v27, h27, f27⟩ := hS.got 7 (q := .boolF false) rfl (by kernel_rfl) d7
      obtain rfl : v27 = .bool false := f27
      have e27 := at_eval h27
      have h2 := hS.slot (by kernel_rfl) p2
      have e2 := at_eval h2
      obtain ⟨o2, c2, ⟨b0, b1, b2, b3, b4⟩, hfq⟩ := (B2.out.below hS.below).cells
      rw [hL.out, ← hL2.out]; refine wpOp_of_list' rfl ?_
      go_wp2_with fail
      exact hK _ _ hfq (Below.refl _ _)
    | 9, _, hS, hK =>
      rw [d9] at hK
      obtain ⟨v27, h27, f27⟩ := hS.got 7 (q := .boolF false) rfl (by kernel_rfl) d7
      obtain rfl : v27 = .bool false := f27
      have e27 := at_eval h27
      obtain ⟨v28, h28, f28⟩ := hS.got 8 (q := .fmF (f)) rfl (by kernel_rfl) d8
      have e28 := at_eval h28
      rw [hL.out, ← hL2.out]; refine wpOp_of_list' rfl ?_
      go_wp2_with fail
      refine (iskernel_any f W.heap.size _ W (fm_at f28) (Nat.le_refl _) hEW (by omega)).mono ?_
      rintro e W2 ⟨rfl, hb⟩
      rw [hk.out]
      go_wp2_with fail
      exact hK _ _ rfl hb
    | 10, _, hS, hK =>
      rw [d10] at hK
      obtain ⟨v27, h27, f27⟩ := hS.got 7 (q := .boolF false) rfl (by kernel_rfl) d7
      obtain rfl : v27 = .bool false := f27
      have e27 := at_eval h27
      obtain ⟨v29, h29, f29⟩ := hS.got 9 (q := .boolF true) rfl (by kernel_rfl) d9
      obtain rfl : v29 = .bool true := f29
      have e29 := at_eval h29
      rw [hL.out, ← hL2.out]; refine wpOp_of_list' rfl ?_
      go_wp2_with fail
      exact hK _ _ rfl (Below.refl _ _)
    | 11, _, hS, hK =>
      rw [d11] at hK
      obtain ⟨v30, h30, f30⟩ := hS.got 10 (q := .boolF true) rfl (by kernel_rfl) d10
      obtain rfl : v30 = .bool true := f30
      have e30 := at_eval h30
      have h2 := hS.slot (by kernel_rfl) p2
      have e2 := at_eval h2
      obtain ⟨o2, c2, ⟨b0, b1, b2, b3, b4⟩, hfq⟩ := (B2.out.below hS.below).cells
      rw [hL.out, ← hL2.out]; refine wpOp_of_list' rfl ?_
      go_wp2_with fail
      exact hK _ _ hfq (Below.refl _ _)
    | 12, _, hS, hK =>
      rw [d12] at hK
      obtain ⟨v30, h30, f30⟩ := hS.got 10 (q := .boolF true) rfl (by kernel_rfl) d10
      obtain rfl : v30 = .bool true := f30
      have e30 := at_eval h30
      obtain ⟨v31, h31, f31⟩ := hS.got 11 (q := .fmF (f)) rfl (by kernel_rfl) d11
      have e31 := at_eval h31
      rw [hL.out, ← hL2.out]; refine wpOp_of_list' rfl ?_
      go_wp2_with fail
      refine (fvalid_any f W.heap.size _ W (fm_at f31) (Nat.le_refl _) hEW (by omega)).mono ?_
      rintro e W2 ⟨rfl, hb⟩
      rw [hv.out]
      go_wp2_with fail
      exact hK _ _ rfl hb
    | 13, _, hS, hK =>
      rw [d13] at hK
      obtain ⟨v30, h30, f30⟩ := hS.got 10 (q := .boolF true) rfl (by kernel_rfl) d10
      obtain rfl : v30 = .bool true := f30
      have e30 := at_eval h30
      obtain ⟨v32, h32, f32⟩ := hS.got 12 (q := .boolF true) rfl (by kernel_rfl) d12
      obtain rfl : v32 = .bool true := f32
      have e32 := at_eval h32
      rw [hL.out, ← hL2.out]; refine wpOp_of_list' rfl ?_
      go_wp2_with fail
      exact hK _ _ rfl (Below.refl _ _)
    | 14, _, hS, hK =>
      rw [d14] at hK
      obtain ⟨v30, h30, f30⟩ := hS.got 10 (q := .boolF true) rfl (by kernel_rfl) d10
      obtain rfl : v30 = .bool true := f30
      have e30 := at_eval h30
      obtain ⟨v33, h33, f33⟩ := hS.got 13 (q := .boolF false) rfl (by kernel_rfl) d13
      obtain rfl : v33 = .bool false := f33
      have e33 := at_eval h33
      rw [hL.out, ← hL2.out]; refine wpOp_of_list' rfl ?_
      go_wp2_with fail
      exact hK _ _ rfl (Below.refl _ _)
    | 15, _, hS, hK =>
      rw [d15] at hK
      obtain ⟨v34, h34, f34⟩ := hS.got 14 (q := .boolF false) rfl (by kernel_rfl) d14
      obtain rfl : v34 = .bool false := f34
      have e34 := at_eval h34
      have h2 := hS.slot (by kernel_rfl) p2
      have e2 := at_eval h2
      obtain ⟨o2, c2, ⟨b0, b1, b2, b3, b4⟩, hfq⟩ := (B2.out.below hS.below).cells
      rw [hL.out, ← hL2.out]; refine wpOp_of_list' rfl ?_
      go_wp2_with fail
      exact hK _ _ hfq (Below.refl _ _)
    | 16, _, hS, hK =>
      rw [d16] at hK
      obtain ⟨v34, h34, f34⟩ := hS.got 14 (q := .boolF false) rfl (by kernel_rfl) d14
      obtain rfl : v34 = .bool false := f34
      have e34 := at_eval h34
      obtain ⟨v35, h35, f35⟩ := hS.got 15 (q := .fmF (f)) rfl (by kernel_rfl) d15
      have e35 := at_eval h35
      rw [hL.out, ← hL2.out]; refine wpOp_of_list' rfl ?_
      go_wp2_with fail
      refine (layered_any f W.heap.size _ W (fm_at f35) (Nat.le_refl _) hEW (by omega)).mono ?_
      rintro e W2 ⟨rfl, hb⟩
      rw [hl.out]
      go_wp2_with fail
      exact hK _ _ rfl hb
    | 17, _, hS, hK =>
      rw [d17] at hK
      obtain ⟨v34, h34, f34⟩ := hS.got 14 (q := .boolF false) rfl (by kernel_rfl) d14
      obtain rfl : v34 = .bool false := f34
      have e34 := at_eval h34
      obtain ⟨v36, h36, f36⟩ := hS.got 16 (q := .boolF true) rfl (by kernel_rfl) d16
      obtain rfl : v36 = .bool true := f36
      have e36 := at_eval h36
      rw [hL.out, ← hL2.out]; refine wpOp_of_list' rfl ?_
      go_wp2_with fail
      exact hK _ _ rfl (Below.refl _ _)
    | 18, _, hS, hK =>
      rw [d18] at hK
      obtain ⟨v30, h30, f30⟩ := hS.got 10 (q := .boolF true) rfl (by kernel_rfl) d10
      obtain rfl : v30 = .bool true := f30
      have e30 := at_eval h30
      obtain ⟨v34, h34, f34⟩ := hS.got 14 (q := .boolF false) rfl (by kernel_rfl) d14
      obtain rfl : v34 = .bool false := f34
      have e34 := at_eval h34
      obtain ⟨v37, h37, f37⟩ := hS.got 17 (q := .boolF false) rfl (by kernel_rfl) d17
      obtain rfl : v37 = .bool false := f37
      have e37 := at_eval h37
      rw [hL.out, ← hL2.out]; refine wpOp_of_list' rfl ?_
      go_wp2_with fail
      exact hK _ _ rfl (Below.refl _ _)
    | 19, _, hS, hK =>
      rw [d19] at hK
      obtain ⟨v27, h27, f27⟩ := hS.got 7 (q := .boolF false) rfl (by kernel_rfl) d7
      obtain rfl : v27 = .bool false := f27
      have e27 := at_eval h27
      obtain ⟨v30, h30, f30⟩ := hS.got 10 (q := .boolF true) rfl (by kernel_rfl) d10
      obtain rfl : v30 = .bool true := f30
      have e30 := at_eval h30
      obtain ⟨v38, h38, f38⟩ := hS.got 18 (q := .boolF false) rfl (by kernel_rfl) d18
      obtain rfl : v38 = .bool false := f38
      have e38 := at_eval h38
      rw [hL.out, ← hL2.out]; refine wpOp_of_list' rfl ?_
      go_wp2_with fail
      exact hK _ _ rfl (Below.refl _ _)
    | 20, _, hS, hK =>
      rw [d20] at hK
      obtain ⟨v27, h27, f27⟩ := hS.got 7 (q := .boolF false) rfl (by kernel_rfl) d7
      obtain rfl : v27 = .bool false := f27
      have e27 := at_eval h27
      obtain ⟨v39, h39, f39⟩ := hS.got 19 (q := .boolF false) rfl (by kernel_rfl) d19
      obtain rfl : v39 = .bool false := f39
      have e39 := at_eval h39
      rw [hL.out, ← hL2.out]; refine wpOp_of_list' rfl ?_
      go_wp2_with fail
      exact hK _ _ rfl (Below.refl _ _)
    | n + 21, hi, _, _ => exact absurd hi (by rw [hsz]; omega)
  · intro x W hB hx
    have y20 : x 20 = .bool false := hx 20 40 (by rw [hsz]; omega) d20
    have hl := hend x W hB
    have hr : List.range (opsAt Tryz.f5 4).size = [0, 1, 2, 3, 4, 5, 6, 7, 8, 9, 10, 11, 12, 13, 14, 15, 16, 17, 18, 19, 20] := by rw [hsz]; rfl
    rw [hr]
    simp only [putL, d0, d1, d2, d3, d4, d5, d6, d7, d8, d9, d10, d11, d12, d13, d14, d15, d16, d17, d18, d19, d20]
    simp only [y20]
    exact hl

set_option maxRecDepth 100000 in
set_option maxHeartbeats 8000000 in
theorem parb_r4 {f : Fm} {k2 : Nat} (a0 : Act) (W0 : World) (Q : Exit → Act → World → Prop) (hE : Env W0) (hz : a0.tmps.size = 163) (p2 : a0.tmps[(2 : Nat)]? = some (.pointer (some ⟨k2, 0, none⟩))) (B2 : Hid (Bx W0 k2 (f))) (hp : Hid (pastB f = false)) (hl : Hid (layB f = true)) (hk : Hid (kernelB f = true)) (hv : Hid (fvalidB f = true)) (n1 : f.nodes ≤ 1000) (n2 : f.depth ≤ 1000)
    (hend : ∀ (x : Nat → Value) (W : World), Below W0.heap.size W0 W → Q .normal (((((((((((((((((((((a0.put (some 20) (x 0)).put (some 21) (x 1)).put (some 22) (x 2)).put (some 23) (x 3)).put (some 24) (x 4)).put (some 25) (x 5)).put (some 26) (x 6)).put (some 27) (x 7)).put (some 28) (x 8)).put (some 29) (x 9)).put (some 30) (x 10)).put (some 31) (x 11)).put (some 32) (x 12)).put (some 33) (x 13)).put (some 34) (x 14)).put (some 35) (x 15)).put (some 36) (x 16)).put (some 37) (x 17)).put (some 38) (x 18)).put (some 39) (x 19)).put (some 40) (.bool false)) W) :
    (Code.region 4 (opsAt Tryz.f5 4) false).wp Tryz.prog Q a0 W0 := by
  have d0 : dstOf (opsAt Tryz.f5 4) 0 = some 20 := by kernel_rfl
  have d1 : dstOf (opsAt Tryz.f5 4) 1 = some 21 := by kernel_rfl
  have d2 : dstOf (opsAt Tryz.f5 4) 2 = some 22 := by kernel_rfl
  have d3 : dstOf (opsAt Tryz.f5 4) 3 = some 23 := by kernel_rfl
  have d4 : dstOf (opsAt Tryz.f5 4) 4 = some 24 := by kernel_rfl
  have d5 : dstOf (opsAt Tryz.f5 4) 5 = some 25 := by kernel_rfl
  have d6 : dstOf (opsAt Tryz.f5 4) 6 = some 26 := by kernel_rfl
  have d7 : dstOf (opsAt Tryz.f5 4) 7 = some 27 := by kernel_rfl
  have d8 : dstOf (opsAt Tryz.f5 4) 8 = some 28 := by kernel_rfl
  have d9 : dstOf (opsAt Tryz.f5 4) 9 = some 29 := by kernel_rfl
  have d10 : dstOf (opsAt Tryz.f5 4) 10 = some 30 := by kernel_rfl
  have d11 : dstOf (opsAt Tryz.f5 4) 11 = some 31 := by kernel_rfl
  have d12 : dstOf (opsAt Tryz.f5 4) 12 = some 32 := by kernel_rfl
  have d13 : dstOf (opsAt Tryz.f5 4) 13 = some 33 := by kernel_rfl
  have d14 : dstOf (opsAt Tryz.f5 4) 14 = some 34 := by kernel_rfl
  have d15 : dstOf (opsAt Tryz.f5 4) 15 = some 35 := by kernel_rfl
  have d16 : dstOf (opsAt Tryz.f5 4) 16 = some 36 := by kernel_rfl
  have d17 : dstOf (opsAt Tryz.f5 4) 17 = some 37 := by kernel_rfl
  have d18 : dstOf (opsAt Tryz.f5 4) 18 = some 38 := by kernel_rfl
  have d19 : dstOf (opsAt Tryz.f5 4) 19 = some 39 := by kernel_rfl
  have d20 : dstOf (opsAt Tryz.f5 4) 20 = some 40 := by kernel_rfl
  have hsz : (opsAt Tryz.f5 4).size = 21 := by kernel_rfl
  obtain ⟨L, hL⟩ : ∃ L, Hid ((opsAt Tryz.f5 4) = L) := ⟨_, hidi rfl⟩
  have hL2 := hL.out
  unfold opsAt Tryz.f5 at hL2
  simp only [findRegion, Nat.reduceBEq, if_true, if_false, Bool.false_eq_true, Option.getD_some] at hL2
  replace hL2 := hidi hL2
  refine wp_region_facts_seq (by kernel_rfl) (by kernel_rfl) (by rw [hz]; kernel_rfl) (by kernel_rfl) (fun i => match i with
      | 0 => .fmF (f)
      | 1 => .boolF false
      | 2 => .boolF false
      | 3 => .valF undef
      | 4 => .valF undef
      | 5 => .valF undef
      | 6 => .boolF false
      | 7 => .boolF false
      | 8 => .fmF (f)
      | 9 => .boolF true
      | 10 => .boolF true
      | 11 => .fmF (f)
      | 12 => .boolF true
      | 13 => .boolF false
      | 14 => .boolF false
      | 15 => .fmF (f)
      | 16 => .boolF true
      | 17 => .boolF false
      | 18 => .boolF false
      | 19 => .boolF false
      | 20 => .boolF false
      | _ => .free) ?_ ?_
  · intro i a W K hi hS hK
    have hEW := hE.below hS.below
    match i, hi, hS, hK with
    | 0, _, hS, hK =>
      rw [d0] at hK
      have h2 := hS.slot (by kernel_rfl) p2
      have e2 := at_eval h2
      obtain ⟨o2, c2, ⟨b0, b1, b2, b3, b4⟩, hfq⟩ := (B2.out.below hS.below).cells
      rw [hL.out, ← hL2.out]; refine wpOp_of_list' rfl ?_
      go_wp2_with fail
      exact hK _ _ hfq (Below.refl _ _)
    | 1, _, hS, hK =>
      rw [d1] at hK
      obtain ⟨v20, h20, f20⟩ := hS.got 0 (q := .fmF (f)) rfl (by kernel_rfl) d0
      have e20 := at_eval h20
      rw [hL.out, ← hL2.out]; refine wpOp_of_list' rfl ?_
      go_wp2_with fail
      refine (past_any f W.heap.size _ W (fm_at f20) (Nat.le_refl _) hEW (by omega)).mono ?_
      rintro e W2 ⟨rfl, hb⟩
      rw [hp.out]
      go_wp2_with fail
      exact hK _ _ rfl hb
    | 2, _, hS, hK =>
      rw [d2] at hK
      obtain ⟨v21, h21, f21⟩ := hS.got 1 (q := .boolF false) rfl (by kernel_rfl) d1
      obtain rfl : v21 = .bool false := f21
      have e21 := at_eval h21
      rw [hL.out, ← hL2.out]; refine wpOp_of_list' rfl ?_
      go_wp2_with fail
      exact hK _ _ rfl (Below.refl _ _)
    | 3, _, hS, hK =>
      rw [d3] at hK
      obtain ⟨v22, h22, f22⟩ := hS.got 2 (q := .boolF false) rfl (by kernel_rfl) d2
      obtain rfl : v22 = .bool false := f22
      have e22 := at_eval h22
      rw [hL.out, ← hL2.out]; refine wpOp_of_list' rfl ?_
      go_wp2_with fail
      exact hK _ _ (rfl : undef = undef) (Below.refl _ _)
    | 4, _, hS, hK =>
      rw [d4] at hK
      obtain ⟨v22, h22, f22⟩ := hS.got 2 (q := .boolF false) rfl (by kernel_rfl) d2
      obtain rfl : v22 = .bool false := f22
      have e22 := at_eval h22
      rw [hL.out, ← hL2.out]; refine wpOp_of_list' rfl ?_
      go_wp2_with fail
      exact hK _ _ (rfl : undef = undef) (Below.refl _ _)
    | 5, _, hS, hK =>
      rw [d5] at hK
      obtain ⟨v22, h22, f22⟩ := hS.got 2 (q := .boolF false) rfl (by kernel_rfl) d2
      obtain rfl : v22 = .bool false := f22
      have e22 := at_eval h22
      rw [hL.out, ← hL2.out]; refine wpOp_of_list' rfl ?_
      go_wp2_with fail
      exact hK _ _ (rfl : undef = undef) (Below.refl _ _)
    | 6, _, hS, hK =>
      rw [d6] at hK
      obtain ⟨v22, h22, f22⟩ := hS.got 2 (q := .boolF false) rfl (by kernel_rfl) d2
      obtain rfl : v22 = .bool false := f22
      have e22 := at_eval h22
      rw [hL.out, ← hL2.out]; refine wpOp_of_list' rfl ?_
      go_wp2_with fail
      exact hK _ _ rfl (Below.refl _ _)
    | 7, _, hS, hK =>
      rw [d7] at hK
      obtain ⟨v26, h26, f26⟩ := hS.got 6 (q := .boolF false) rfl (by kernel_rfl) d6
      obtain rfl : v26 = .bool false := f26
      have e26 := at_eval h26
      rw [hL.out, ← hL2.out]; refine wpOp_of_list' rfl ?_
      go_wp2_with fail
      exact hK _ _ rfl (Below.refl _ _)
    | 8, _, hS, hK =>
      rw [d8] at hK
      obtain ⟨v27, h27, f27⟩ := hS.got 7 (q := .boolF false) rfl (by kernel_rfl) d7
      obtain rfl : v27 = .bool false := f27
      have e27 := at_eval h27
      have h2 := hS.slot (by kernel_rfl) p2
      have e2 := at_eval h2
      obtain ⟨o2, c2, ⟨b0, b1, b2, b3, b4⟩, hfq⟩ := (B2.out.below hS.below).cells
      rw [hL.out, ← hL2.out]; refine wpOp_of_list' rfl ?_
      go_wp2_with fail
      exact hK _ _ hfq (Below.refl _ _)
    | 9, _, hS, hK =>
      rw [d9] at hK
      obtain ⟨v27, h27, f27⟩ := hS.got 7 (q := .boolF false) rfl (by kernel_rfl) d7
      obtain rfl : v27 = .bool false := f27
      have e27 := at_eval h27
      obtain ⟨v28, h28, f28⟩ := hS.got 8 (q := .fmF (f)) rfl (by kernel_rfl) d8
      have e28 := at_eval h28
      rw [hL.out, ← hL2.out]; refine wpOp_of_list' rfl ?_
      go_wp2_with fail
      refine (iskernel_any f W.heap.size _ W (fm_at f28) (Nat.le_refl _) hEW (by omega)).mono ?_
      rintro e W2 ⟨rfl, hb⟩
      rw [hk.out]
      go_wp2_with fail
      exact hK _ _ rfl hb
    | 10, _, hS, hK =>
      rw [d10] at hK
      obtain ⟨v27, h27, f27⟩ := hS.got 7 (q := .boolF false) rfl (by kernel_rfl) d7
      obtain rfl : v27 = .bool false := f27
      have e27 := at_eval h27
      obtain ⟨v29, h29, f29⟩ := hS.got 9 (q := .boolF true) rfl (by kernel_rfl) d9
      obtain rfl : v29 = .bool true := f29
      have e29 := at_eval h29
      rw [hL.out, ← hL2.out]; refine wpOp_of_list' rfl ?_
      go_wp2_with fail
      exact hK _ _ rfl (Below.refl _ _)
    | 11, _, hS, hK =>
      rw [d11] at hK
      obtain ⟨v30, h30, f30⟩ := hS.got 10 (q := .boolF true) rfl (by kernel_rfl) d10
      obtain rfl : v30 = .bool true := f30
      have e30 := at_eval h30
      have h2 := hS.slot (by kernel_rfl) p2
      have e2 := at_eval h2
      obtain ⟨o2, c2, ⟨b0, b1, b2, b3, b4⟩, hfq⟩ := (B2.out.below hS.below).cells
      rw [hL.out, ← hL2.out]; refine wpOp_of_list' rfl ?_
      go_wp2_with fail
      exact hK _ _ hfq (Below.refl _ _)
    | 12, _, hS, hK =>
      rw [d12] at hK
      obtain ⟨v30, h30, f30⟩ := hS.got 10 (q := .boolF true) rfl (by kernel_rfl) d10
      obtain rfl : v30 = .bool true := f30
      have e30 := at_eval h30
      obtain ⟨v31, h31, f31⟩ := hS.got 11 (q := .fmF (f)) rfl (by kernel_rfl) d11
      have e31 := at_eval h31
      rw [hL.out, ← hL2.out]; refine wpOp_of_list' rfl ?_
      go_wp2_with fail
      refine (fvalid_any f W.heap.size _ W (fm_at f31) (Nat.le_refl _) hEW (by omega)).mono ?_
      rintro e W2 ⟨rfl, hb⟩
      rw [hv.out]
      go_wp2_with fail
      exact hK _ _ rfl hb
    | 13, _, hS, hK =>
      rw [d13] at hK
      obtain ⟨v30, h30, f30⟩ := hS.got 10 (q := .boolF true) rfl (by kernel_rfl) d10
      obtain rfl : v30 = .bool true := f30
      have e30 := at_eval h30
      obtain ⟨v32, h32, f32⟩ := hS.got 12 (q := .boolF true) rfl (by kernel_rfl) d12
      obtain rfl : v32 = .bool true := f32
      have e32 := at_eval h32
      rw [hL.out, ← hL2.out]; refine wpOp_of_list' rfl ?_
      go_wp2_with fail
      exact hK _ _ rfl (Below.refl _ _)
    | 14, _, hS, hK =>
      rw [d14] at hK
      obtain ⟨v30, h30, f30⟩ := hS.got 10 (q := .boolF true) rfl (by kernel_rfl) d10
      obtain rfl : v30 = .bool true := f30
      have e30 := at_eval h30
      obtain ⟨v33, h33, f33⟩ := hS.got 13 (q := .boolF false) rfl (by kernel_rfl) d13
      obtain rfl : v33 = .bool false := f33
      have e33 := at_eval h33
      rw [hL.out, ← hL2.out]; refine wpOp_of_list' rfl ?_
      go_wp2_with fail
      exact hK _ _ rfl (Below.refl _ _)
    | 15, _, hS, hK =>
      rw [d15] at hK
      obtain ⟨v34, h34, f34⟩ := hS.got 14 (q := .boolF false) rfl (by kernel_rfl) d14
      obtain rfl : v34 = .bool false := f34
      have e34 := at_eval h34
      have h2 := hS.slot (by kernel_rfl) p2
      have e2 := at_eval h2
      obtain ⟨o2, c2, ⟨b0, b1, b2, b3, b4⟩, hfq⟩ := (B2.out.below hS.below).cells
      rw [hL.out, ← hL2.out]; refine wpOp_of_list' rfl ?_
      go_wp2_with fail
      exact hK _ _ hfq (Below.refl _ _)
    | 16, _, hS, hK =>
      rw [d16] at hK
      obtain ⟨v34, h34, f34⟩ := hS.got 14 (q := .boolF false) rfl (by kernel_rfl) d14
      obtain rfl : v34 = .bool false := f34
      have e34 := at_eval h34
      obtain ⟨v35, h35, f35⟩ := hS.got 15 (q := .fmF (f)) rfl (by kernel_rfl) d15
      have e35 := at_eval h35
      rw [hL.out, ← hL2.out]; refine wpOp_of_list' rfl ?_
      go_wp2_with fail
      refine (layered_any f W.heap.size _ W (fm_at f35) (Nat.le_refl _) hEW (by omega)).mono ?_
      rintro e W2 ⟨rfl, hb⟩
      rw [hl.out]
      go_wp2_with fail
      exact hK _ _ rfl hb
    | 17, _, hS, hK =>
      rw [d17] at hK
      obtain ⟨v34, h34, f34⟩ := hS.got 14 (q := .boolF false) rfl (by kernel_rfl) d14
      obtain rfl : v34 = .bool false := f34
      have e34 := at_eval h34
      obtain ⟨v36, h36, f36⟩ := hS.got 16 (q := .boolF true) rfl (by kernel_rfl) d16
      obtain rfl : v36 = .bool true := f36
      have e36 := at_eval h36
      rw [hL.out, ← hL2.out]; refine wpOp_of_list' rfl ?_
      go_wp2_with fail
      exact hK _ _ rfl (Below.refl _ _)
    | 18, _, hS, hK =>
      rw [d18] at hK
      obtain ⟨v30, h30, f30⟩ := hS.got 10 (q := .boolF true) rfl (by kernel_rfl) d10
      obtain rfl : v30 = .bool true := f30
      have e30 := at_eval h30
      obtain ⟨v34, h34, f34⟩ := hS.got 14 (q := .boolF false) rfl (by kernel_rfl) d14
      obtain rfl : v34 = .bool false := f34
      have e34 := at_eval h34
      obtain ⟨v37, h37, f37⟩ := hS.got 17 (q := .boolF false) rfl (by kernel_rfl) d17
      obtain rfl : v37 = .bool false := f37
      have e37 := at_eval h37
      rw [hL.out, ← hL2.out]; refine wpOp_of_list' rfl ?_
      go_wp2_with fail
      exact hK _ _ rfl (Below.refl _ _)
    | 19, _, hS, hK =>
      rw [d19] at hK
      obtain ⟨v27, h27, f27⟩ := hS.got 7 (q := .boolF false) rfl (by kernel_rfl) d7
      obtain rfl : v27 = .bool false := f27
      have e27 := at_eval h27
      obtain ⟨v30, h30, f30⟩ := hS.got 10 (q := .boolF true) rfl (by kernel_rfl) d10
      obtain rfl : v30 = .bool true := f30
      have e30 := at_eval h30
      obtain ⟨v38, h38, f38⟩ := hS.got 18 (q := .boolF false) rfl (by kernel_rfl) d18
      obtain rfl : v38 = .bool false := f38
      have e38 := at_eval h38
      rw [hL.out, ← hL2.out]; refine wpOp_of_list' rfl ?_
      go_wp2_with fail
      exact hK _ _ rfl (Below.refl _ _)
    | 20, _, hS, hK =>
      rw [d20] at hK
      obtain ⟨v27, h27, f27⟩ := hS.got 7 (q := .boolF false) rfl (by kernel_rfl) d7
      obtain rfl : v27 = .bool false := f27
      have e27 := at_eval h27
      obtain ⟨v39, h39, f39⟩ := hS.got 19 (q := .boolF false) rfl (by kernel_rfl) d19
      obtain rfl : v39 = .bool false := f39
      have e39 := at_eval h39
      rw [hL.out, ← hL2.out]; refine wpOp_of_list' rfl ?_
      go_wp2_with fail
      exact hK _ _ rfl (Below.refl _ _)
    | n + 21, hi, _, _ => exact absurd hi (by rw [hsz]; omega)
  · intro x W hB hx
    have y20 : x 20 = .bool false := hx 20 40 (by rw [hsz]; omega) d20
    have hl := hend x W hB
    have hr : List.range (opsAt Tryz.f5 4).size = [0, 1, 2, 3, 4, 5, 6, 7, 8, 9, 10, 11, 12, 13, 14, 15, 16, 17, 18, 19, 20] := by rw [hsz]; rfl
    rw [hr]
    simp only [putL, d0, d1, d2, d3, d4, d5, d6, d7, d8, d9, d10, d11, d12, d13, d14, d15, d16, d17, d18, d19, d20]
    simp only [y20]
    exact hl

set_option maxRecDepth 100000 in
set_option maxHeartbeats 8000000 in
theorem parc_r4 {f : Fm} {k2 : Nat} (a0 : Act) (W0 : World) (Q : Exit → Act → World → Prop) (hE : Env W0) (hz : a0.tmps.size = 163) (p2 : a0.tmps[(2 : Nat)]? = some (.pointer (some ⟨k2, 0, none⟩))) (B2 : Hid (Bx W0 k2 (f))) (hp : Hid (pastB f = true)) (hl : Hid (layB f = true)) (hk : Hid (kernelB f = false)) (n1 : f.nodes ≤ 1000) (n2 : f.depth ≤ 1000)
    (hend : ∀ (x : Nat → Value) (W : World), Below W0.heap.size W0 W → Q .normal (((((((((((((((((((((a0.put (some 20) (x 0)).put (some 21) (x 1)).put (some 22) (x 2)).put (some 23) (x 3)).put (some 24) (x 4)).put (some 25) (x 5)).put (some 26) (x 6)).put (some 27) (x 7)).put (some 28) (x 8)).put (some 29) (x 9)).put (some 30) (x 10)).put (some 31) (x 11)).put (some 32) (x 12)).put (some 33) (x 13)).put (some 34) (x 14)).put (some 35) (x 15)).put (some 36) (x 16)).put (some 37) (x 17)).put (some 38) (x 18)).put (some 39) (x 19)).put (some 40) (.bool false)) W) :
    (Code.region 4 (opsAt Tryz.f5 4) false).wp Tryz.prog Q a0 W0 := by
  have d0 : dstOf (opsAt Tryz.f5 4) 0 = some 20 := by kernel_rfl
  have d1 : dstOf (opsAt Tryz.f5 4) 1 = some 21 := by kernel_rfl
  have d2 : dstOf (opsAt Tryz.f5 4) 2 = some 22 := by kernel_rfl
  have d3 : dstOf (opsAt Tryz.f5 4) 3 = some 23 := by kernel_rfl
  have d4 : dstOf (opsAt Tryz.f5 4) 4 = some 24 := by kernel_rfl
  have d5 : dstOf (opsAt Tryz.f5 4) 5 = some 25 := by kernel_rfl
  have d6 : dstOf (opsAt Tryz.f5 4) 6 = some 26 := by kernel_rfl
  have d7 : dstOf (opsAt Tryz.f5 4) 7 = some 27 := by kernel_rfl
  have d8 : dstOf (opsAt Tryz.f5 4) 8 = some 28 := by kernel_rfl
  have d9 : dstOf (opsAt Tryz.f5 4) 9 = some 29 := by kernel_rfl
  have d10 : dstOf (opsAt Tryz.f5 4) 10 = some 30 := by kernel_rfl
  have d11 : dstOf (opsAt Tryz.f5 4) 11 = some 31 := by kernel_rfl
  have d12 : dstOf (opsAt Tryz.f5 4) 12 = some 32 := by kernel_rfl
  have d13 : dstOf (opsAt Tryz.f5 4) 13 = some 33 := by kernel_rfl
  have d14 : dstOf (opsAt Tryz.f5 4) 14 = some 34 := by kernel_rfl
  have d15 : dstOf (opsAt Tryz.f5 4) 15 = some 35 := by kernel_rfl
  have d16 : dstOf (opsAt Tryz.f5 4) 16 = some 36 := by kernel_rfl
  have d17 : dstOf (opsAt Tryz.f5 4) 17 = some 37 := by kernel_rfl
  have d18 : dstOf (opsAt Tryz.f5 4) 18 = some 38 := by kernel_rfl
  have d19 : dstOf (opsAt Tryz.f5 4) 19 = some 39 := by kernel_rfl
  have d20 : dstOf (opsAt Tryz.f5 4) 20 = some 40 := by kernel_rfl
  have hsz : (opsAt Tryz.f5 4).size = 21 := by kernel_rfl
  obtain ⟨L, hL⟩ : ∃ L, Hid ((opsAt Tryz.f5 4) = L) := ⟨_, hidi rfl⟩
  have hL2 := hL.out
  unfold opsAt Tryz.f5 at hL2
  simp only [findRegion, Nat.reduceBEq, if_true, if_false, Bool.false_eq_true, Option.getD_some] at hL2
  replace hL2 := hidi hL2
  refine wp_region_facts_seq (by kernel_rfl) (by kernel_rfl) (by rw [hz]; kernel_rfl) (by kernel_rfl) (fun i => match i with
      | 0 => .fmF (f)
      | 1 => .boolF true
      | 2 => .boolF true
      | 3 => .fmF (f)
      | 4 => .boolF true
      | 5 => .boolF false
      | 6 => .boolF false
      | 7 => .boolF false
      | 8 => .fmF (f)
      | 9 => .boolF false
      | 10 => .boolF false
      | 11 => .valF undef
      | 12 => .valF undef
      | 13 => .valF undef
      | 14 => .valF undef
      | 15 => .valF undef
      | 16 => .valF undef
      | 17 => .valF undef
      | 18 => .valF undef
      | 19 => .boolF false
      | 20 => .boolF false
      | _ => .free) ?_ ?_
  · intro i a W K hi hS hK
    have hEW := hE.below hS.below
    match i, hi, hS, hK with
    | 0, _, hS, hK =>
      rw [d0] at hK
      have h2 := hS.slot (by kernel_rfl) p2
      have e2 := at_eval h2
      obtain ⟨o2, c2, ⟨b0, b1, b2, b3, b4⟩, hfq⟩ := (B2.out.below hS.below).cells
      rw [hL.out, ← hL2.out]; refine wpOp_of_list' rfl ?_
      go_wp2_with fail
      exact hK _ _ hfq (Below.refl _ _)
    | 1, _, hS, hK =>
      rw [d1] at hK
      obtain ⟨v20, h20, f20⟩ := hS.got 0 (q := .fmF (f)) rfl (by kernel_rfl) d0
      have e20 := at_eval h20
      rw [hL.out, ← hL2.out]; refine wpOp_of_list' rfl ?_
      go_wp2_with fail
      refine (past_any f W.heap.size _ W (fm_at f20) (Nat.le_refl _) hEW (by omega)).mono ?_
      rintro e W2 ⟨rfl, hb⟩
      rw [hp.out]
      go_wp2_with fail
      exact hK _ _ rfl hb
    | 2, _, hS, hK =>
      rw [d2] at hK
      obtain ⟨v21, h21, f21⟩ := hS.got 1 (q := .boolF true) rfl (by kernel_rfl) d1
      obtain rfl : v21 = .bool true := f21
      have e21 := at_eval h21
      rw [hL.out, ← hL2.out]; refine wpOp_of_list' rfl ?_
      go_wp2_with fail
      exact hK _ _ rfl (Below.refl _ _)
    | 3, _, hS, hK =>
      rw [d3] at hK
      obtain ⟨v22, h22, f22⟩ := hS.got 2 (q := .boolF true) rfl (by kernel_rfl) d2
      obtain rfl : v22 = .bool true := f22
      have e22 := at_eval h22
      have h2 := hS.slot (by kernel_rfl) p2
      have e2 := at_eval h2
      obtain ⟨o2, c2, ⟨b0, b1, b2, b3, b4⟩, hfq⟩ := (B2.out.below hS.below).cells
      rw [hL.out, ← hL2.out]; refine wpOp_of_list' rfl ?_
      go_wp2_with fail
      exact hK _ _ hfq (Below.refl _ _)
    | 4, _, hS, hK =>
      rw [d4] at hK
      obtain ⟨v22, h22, f22⟩ := hS.got 2 (q := .boolF true) rfl (by kernel_rfl) d2
      obtain rfl : v22 = .bool true := f22
      have e22 := at_eval h22
      obtain ⟨v23, h23, f23⟩ := hS.got 3 (q := .fmF (f)) rfl (by kernel_rfl) d3
      have e23 := at_eval h23
      rw [hL.out, ← hL2.out]; refine wpOp_of_list' rfl ?_
      go_wp2_with fail
      refine (layered_any f W.heap.size _ W (fm_at f23) (Nat.le_refl _) hEW (by omega)).mono ?_
      rintro e W2 ⟨rfl, hb⟩
      rw [hl.out]
      go_wp2_with fail
      exact hK _ _ rfl hb
    | 5, _, hS, hK =>
      rw [d5] at hK
      obtain ⟨v22, h22, f22⟩ := hS.got 2 (q := .boolF true) rfl (by kernel_rfl) d2
      obtain rfl : v22 = .bool true := f22
      have e22 := at_eval h22
      obtain ⟨v24, h24, f24⟩ := hS.got 4 (q := .boolF true) rfl (by kernel_rfl) d4
      obtain rfl : v24 = .bool true := f24
      have e24 := at_eval h24
      rw [hL.out, ← hL2.out]; refine wpOp_of_list' rfl ?_
      go_wp2_with fail
      exact hK _ _ rfl (Below.refl _ _)
    | 6, _, hS, hK =>
      rw [d6] at hK
      obtain ⟨v22, h22, f22⟩ := hS.got 2 (q := .boolF true) rfl (by kernel_rfl) d2
      obtain rfl : v22 = .bool true := f22
      have e22 := at_eval h22
      obtain ⟨v25, h25, f25⟩ := hS.got 5 (q := .boolF false) rfl (by kernel_rfl) d5
      obtain rfl : v25 = .bool false := f25
      have e25 := at_eval h25
      rw [hL.out, ← hL2.out]; refine wpOp_of_list' rfl ?_
      go_wp2_with fail
      exact hK _ _ rfl (Below.refl _ _)
    | 7, _, hS, hK =>
      rw [d7] at hK
      obtain ⟨v26, h26, f26⟩ := hS.got 6 (q := .boolF false) rfl (by kernel_rfl) d6
      obtain rfl : v26 = .bool false := f26
      have e26 := at_eval h26
      rw [hL.out, ← hL2.out]; refine wpOp_of_list' rfl ?_
      go_wp2_with fail
      exact hK _ _ rfl (Below.refl _ _)
    | 8, _, hS, hK =>
      rw [d8] at hK
      obtain ⟨v27, h27, f27⟩ := hS.got 7 (q := .boolF false) rfl (by kernel_rfl) d7
      obtain rfl : v27 = .bool false := f27
      have e27 := at_eval h27
      have h2 := hS.slot (by kernel_rfl) p2
      have e2 := at_eval h2
      obtain ⟨o2, c2, ⟨b0, b1, b2, b3, b4⟩, hfq⟩ := (B2.out.below hS.below).cells
      rw [hL.out, ← hL2.out]; refine wpOp_of_list' rfl ?_
      go_wp2_with fail
      exact hK _ _ hfq (Below.refl _ _)
    | 9, _, hS, hK =>
      rw [d9] at hK
      obtain ⟨v27, h27, f27⟩ := hS.got 7 (q := .boolF false) rfl (by kernel_rfl) d7
      obtain rfl : v27 = .bool false := f27
      have e27 := at_eval h27
      obtain ⟨v28, h28, f28⟩ := hS.got 8 (q := .fmF (f)) rfl (by kernel_rfl) d8
      have e28 := at_eval h28
      rw [hL.out, ← hL2.out]; refine wpOp_of_list' rfl ?_
      go_wp2_with fail
      refine (iskernel_any f W.heap.size _ W (fm_at f28) (Nat.le_refl _) hEW (by omega)).mono ?_
      rintro e W2 ⟨rfl, hb⟩
      rw [hk.out]
      go_wp2_with fail
      exact hK _ _ rfl hb
    | 10, _, hS, hK =>
      rw [d10] at hK
      obtain ⟨v27, h27, f27⟩ := hS.got 7 (q := .boolF false) rfl (by kernel_rfl) d7
      obtain rfl : v27 = .bool false := f27
      have e27 := at_eval h27
      obtain ⟨v29, h29, f29⟩ := hS.got 9 (q := .boolF false) rfl (by kernel_rfl) d9
      obtain rfl : v29 = .bool false := f29
      have e29 := at_eval h29
      rw [hL.out, ← hL2.out]; refine wpOp_of_list' rfl ?_
      go_wp2_with fail
      exact hK _ _ rfl (Below.refl _ _)
    | 11, _, hS, hK =>
      rw [d11] at hK
      obtain ⟨v30, h30, f30⟩ := hS.got 10 (q := .boolF false) rfl (by kernel_rfl) d10
      obtain rfl : v30 = .bool false := f30
      have e30 := at_eval h30
      rw [hL.out, ← hL2.out]; refine wpOp_of_list' rfl ?_
      go_wp2_with fail
      exact hK _ _ (rfl : undef = undef) (Below.refl _ _)
    | 12, _, hS, hK =>
      rw [d12] at hK
      obtain ⟨v30, h30, f30⟩ := hS.got 10 (q := .boolF false) rfl (by kernel_rfl) d10
      obtain rfl : v30 = .bool false := f30
      have e30 := at_eval h30
      rw [hL.out, ← hL2.out]; refine wpOp_of_list' rfl ?_
      go_wp2_with fail
      exact hK _ _ (rfl : undef = undef) (Below.refl _ _)
    | 13, _, hS, hK =>
      rw [d13] at hK
      obtain ⟨v30, h30, f30⟩ := hS.got 10 (q := .boolF false) rfl (by kernel_rfl) d10
      obtain rfl : v30 = .bool false := f30
      have e30 := at_eval h30
      rw [hL.out, ← hL2.out]; refine wpOp_of_list' rfl ?_
      go_wp2_with fail
      exact hK _ _ (rfl : undef = undef) (Below.refl _ _)
    | 14, _, hS, hK =>
      rw [d14] at hK
      obtain ⟨v30, h30, f30⟩ := hS.got 10 (q := .boolF false) rfl (by kernel_rfl) d10
      obtain rfl : v30 = .bool false := f30
      have e30 := at_eval h30
      rw [hL.out, ← hL2.out]; refine wpOp_of_list' rfl ?_
      go_wp2_with fail
      exact hK _ _ (rfl : undef = undef) (Below.refl _ _)
    | 15, _, hS, hK =>
      rw [d15] at hK
      obtain ⟨v34, h34, f34⟩ := hS.got 14 (q := .valF undef) rfl (by kernel_rfl) d14
      obtain rfl : v34 = undef := f34
      replace h34 : a.tmps[(34 : Nat)]? = some (Value.tuple #[]) := h34
      rw [hL.out, ← hL2.out]; refine wpOp_of_list' rfl ?_
      go_wp2_with fail
      exact hK _ _ (rfl : undef = undef) (Below.refl _ _)
    | 16, _, hS, hK =>
      rw [d16] at hK
      obtain ⟨v34, h34, f34⟩ := hS.got 14 (q := .valF undef) rfl (by kernel_rfl) d14
      obtain rfl : v34 = undef := f34
      replace h34 : a.tmps[(34 : Nat)]? = some (Value.tuple #[]) := h34
      rw [hL.out, ← hL2.out]; refine wpOp_of_list' rfl ?_
      go_wp2_with fail
      exact hK _ _ (rfl : undef = undef) (Below.refl _ _)
    | 17, _, hS, hK =>
      rw [d17] at hK
      obtain ⟨v34, h34, f34⟩ := hS.got 14 (q := .valF undef) rfl (by kernel_rfl) d14
      obtain rfl : v34 = undef := f34
      replace h34 : a.tmps[(34 : Nat)]? = some (Value.tuple #[]) := h34
      rw [hL.out, ← hL2.out]; refine wpOp_of_list' rfl ?_
      go_wp2_with fail
      exact hK _ _ (rfl : undef = undef) (Below.refl _ _)
    | 18, _, hS, hK =>
      rw [d18] at hK
      obtain ⟨v30, h30, f30⟩ := hS.got 10 (q := .boolF false) rfl (by kernel_rfl) d10
      obtain rfl : v30 = .bool false := f30
      have e30 := at_eval h30
      rw [hL.out, ← hL2.out]; refine wpOp_of_list' rfl ?_
      go_wp2_with fail
      exact hK _ _ (rfl : undef = undef) (Below.refl _ _)
    | 19, _, hS, hK =>
      rw [d19] at hK
      obtain ⟨v27, h27, f27⟩ := hS.got 7 (q := .boolF false) rfl (by kernel_rfl) d7
      obtain rfl : v27 = .bool false := f27
      have e27 := at_eval h27
      obtain ⟨v30, h30, f30⟩ := hS.got 10 (q := .boolF false) rfl (by kernel_rfl) d10
      obtain rfl : v30 = .bool false := f30
      have e30 := at_eval h30
      rw [hL.out, ← hL2.out]; refine wpOp_of_list' rfl ?_
      go_wp2_with fail
      exact hK _ _ rfl (Below.refl _ _)
    | 20, _, hS, hK =>
      rw [d20] at hK
      obtain ⟨v27, h27, f27⟩ := hS.got 7 (q := .boolF false) rfl (by kernel_rfl) d7
      obtain rfl : v27 = .bool false := f27
      have e27 := at_eval h27
      obtain ⟨v39, h39, f39⟩ := hS.got 19 (q := .boolF false) rfl (by kernel_rfl) d19
      obtain rfl : v39 = .bool false := f39
      have e39 := at_eval h39
      rw [hL.out, ← hL2.out]; refine wpOp_of_list' rfl ?_
      go_wp2_with fail
      exact hK _ _ rfl (Below.refl _ _)
    | n + 21, hi, _, _ => exact absurd hi (by rw [hsz]; omega)
  · intro x W hB hx
    have y20 : x 20 = .bool false := hx 20 40 (by rw [hsz]; omega) d20
    have hl := hend x W hB
    have hr : List.range (opsAt Tryz.f5 4).size = [0, 1, 2, 3, 4, 5, 6, 7, 8, 9, 10, 11, 12, 13, 14, 15, 16, 17, 18, 19, 20] := by rw [hsz]; rfl
    rw [hr]
    simp only [putL, d0, d1, d2, d3, d4, d5, d6, d7, d8, d9, d10, d11, d12, d13, d14, d15, d16, d17, d18, d19, d20]
    simp only [y20]
    exact hl

set_option maxRecDepth 100000 in
set_option maxHeartbeats 8000000 in
theorem pard_r4 {f : Fm} {k2 : Nat} (a0 : Act) (W0 : World) (Q : Exit → Act → World → Prop) (hE : Env W0) (hz : a0.tmps.size = 163) (p2 : a0.tmps[(2 : Nat)]? = some (.pointer (some ⟨k2, 0, none⟩))) (B2 : Hid (Bx W0 k2 (f))) (hp : Hid (pastB f = false)) (hk : Hid (kernelB f = false)) (n1 : f.nodes ≤ 1000) (n2 : f.depth ≤ 1000)
    (hend : ∀ (x : Nat → Value) (W : World), Below W0.heap.size W0 W → Q .normal (((((((((((((((((((((a0.put (some 20) (x 0)).put (some 21) (x 1)).put (some 22) (x 2)).put (some 23) (x 3)).put (some 24) (x 4)).put (some 25) (x 5)).put (some 26) (x 6)).put (some 27) (x 7)).put (some 28) (x 8)).put (some 29) (x 9)).put (some 30) (x 10)).put (some 31) (x 11)).put (some 32) (x 12)).put (some 33) (x 13)).put (some 34) (x 14)).put (some 35) (x 15)).put (some 36) (x 16)).put (some 37) (x 17)).put (some 38) (x 18)).put (some 39) (x 19)).put (some 40) (.bool false)) W) :
    (Code.region 4 (opsAt Tryz.f5 4) false).wp Tryz.prog Q a0 W0 := by
  have d0 : dstOf (opsAt Tryz.f5 4) 0 = some 20 := by kernel_rfl
  have d1 : dstOf (opsAt Tryz.f5 4) 1 = some 21 := by kernel_rfl
  have d2 : dstOf (opsAt Tryz.f5 4) 2 = some 22 := by kernel_rfl
  have d3 : dstOf (opsAt Tryz.f5 4) 3 = some 23 := by kernel_rfl
  have d4 : dstOf (opsAt Tryz.f5 4) 4 = some 24 := by kernel_rfl
  have d5 : dstOf (opsAt Tryz.f5 4) 5 = some 25 := by kernel_rfl
  have d6 : dstOf (opsAt Tryz.f5 4) 6 = some 26 := by kernel_rfl
  have d7 : dstOf (opsAt Tryz.f5 4) 7 = some 27 := by kernel_rfl
  have d8 : dstOf (opsAt Tryz.f5 4) 8 = some 28 := by kernel_rfl
  have d9 : dstOf (opsAt Tryz.f5 4) 9 = some 29 := by kernel_rfl
  have d10 : dstOf (opsAt Tryz.f5 4) 10 = some 30 := by kernel_rfl
  have d11 : dstOf (opsAt Tryz.f5 4) 11 = some 31 := by kernel_rfl
  have d12 : dstOf (opsAt Tryz.f5 4) 12 = some 32 := by kernel_rfl
  have d13 : dstOf (opsAt Tryz.f5 4) 13 = some 33 := by kernel_rfl
  have d14 : dstOf (opsAt Tryz.f5 4) 14 = some 34 := by kernel_rfl
  have d15 : dstOf (opsAt Tryz.f5 4) 15 = some 35 := by kernel_rfl
  have d16 : dstOf (opsAt Tryz.f5 4) 16 = some 36 := by kernel_rfl
  have d17 : dstOf (opsAt Tryz.f5 4) 17 = some 37 := by kernel_rfl
  have d18 : dstOf (opsAt Tryz.f5 4) 18 = some 38 := by kernel_rfl
  have d19 : dstOf (opsAt Tryz.f5 4) 19 = some 39 := by kernel_rfl
  have d20 : dstOf (opsAt Tryz.f5 4) 20 = some 40 := by kernel_rfl
  have hsz : (opsAt Tryz.f5 4).size = 21 := by kernel_rfl
  obtain ⟨L, hL⟩ : ∃ L, Hid ((opsAt Tryz.f5 4) = L) := ⟨_, hidi rfl⟩
  have hL2 := hL.out
  unfold opsAt Tryz.f5 at hL2
  simp only [findRegion, Nat.reduceBEq, if_true, if_false, Bool.false_eq_true, Option.getD_some] at hL2
  replace hL2 := hidi hL2
  refine wp_region_facts_seq (by kernel_rfl) (by kernel_rfl) (by rw [hz]; kernel_rfl) (by kernel_rfl) (fun i => match i with
      | 0 => .fmF (f)
      | 1 => .boolF false
      | 2 => .boolF false
      | 3 => .valF undef
      | 4 => .valF undef
      | 5 => .valF undef
      | 6 => .boolF false
      | 7 => .boolF false
      | 8 => .fmF (f)
      | 9 => .boolF false
      | 10 => .boolF false
      | 11 => .valF undef
      | 12 => .valF undef
      | 13 => .valF undef
      | 14 => .valF undef
      | 15 => .valF undef
      | 16 => .valF undef
      | 17 => .valF undef
      | 18 => .valF undef
      | 19 => .boolF false
      | 20 => .boolF false
      | _ => .free) ?_ ?_
  · intro i a W K hi hS hK
    have hEW := hE.below hS.below
    match i, hi, hS, hK with
    | 0, _, hS, hK =>
      rw [d0] at hK
      have h2 := hS.slot (by kernel_rfl) p2
      have e2 := at_eval h2
      obtain ⟨o2, c2, ⟨b0, b1, b2, b3, b4⟩, hfq⟩ := (B2.out.below hS.below).cells
      rw [hL.out, ← hL2.out]; refine wpOp_of_list' rfl ?_
      go_wp2_with fail
      exact hK _ _ hfq (Below.refl _ _)
    | 1, _, hS, hK =>
      rw [d1] at hK
      obtain ⟨v20, h20, f20⟩ := hS.got 0 (q := .fmF (f)) rfl (by kernel_rfl) d0
      have e20 := at_eval h20
      rw [hL.out, ← hL2.out]; refine wpOp_of_list' rfl ?_
      go_wp2_with fail
      refine (past_any f W.heap.size _ W (fm_at f20) (Nat.le_refl _) hEW (by omega)).mono ?_
      rintro e W2 ⟨rfl, hb⟩
      rw [hp.out]
      go_wp2_with fail
      exact hK _ _ rfl hb
    | 2, _, hS, hK =>
      rw [d2] at hK
      obtain ⟨v21, h21, f21⟩ := hS.got 1 (q := .boolF false) rfl (by kernel_rfl) d1
      obtain rfl : v21 = .bool false := f21
      have e21 := at_eval h21
      rw [hL.out, ← hL2.out]; refine wpOp_of_list' rfl ?_
      go_wp2_with fail
      exact hK _ _ rfl (Below.refl _ _)
    | 3, _, hS, hK =>
      rw [d3] at hK
      obtain ⟨v22, h22, f22⟩ := hS.got 2 (q := .boolF false) rfl (by kernel_rfl) d2
      obtain rfl : v22 = .bool false := f22
      have e22 := at_eval h22
      rw [hL.out, ← hL2.out]; refine wpOp_of_list' rfl ?_
      go_wp2_with fail
      exact hK _ _ (rfl : undef = undef) (Below.refl _ _)
    | 4, _, hS, hK =>
      rw [d4] at hK
      obtain ⟨v22, h22, f22⟩ := hS.got 2 (q := .boolF false) rfl (by kernel_rfl) d2
      obtain rfl : v22 = .bool false := f22
      have e22 := at_eval h22
      rw [hL.out, ← hL2.out]; refine wpOp_of_list' rfl ?_
      go_wp2_with fail
      exact hK _ _ (rfl : undef = undef) (Below.refl _ _)
    | 5, _, hS, hK =>
      rw [d5] at hK
      obtain ⟨v22, h22, f22⟩ := hS.got 2 (q := .boolF false) rfl (by kernel_rfl) d2
      obtain rfl : v22 = .bool false := f22
      have e22 := at_eval h22
      rw [hL.out, ← hL2.out]; refine wpOp_of_list' rfl ?_
      go_wp2_with fail
      exact hK _ _ (rfl : undef = undef) (Below.refl _ _)
    | 6, _, hS, hK =>
      rw [d6] at hK
      obtain ⟨v22, h22, f22⟩ := hS.got 2 (q := .boolF false) rfl (by kernel_rfl) d2
      obtain rfl : v22 = .bool false := f22
      have e22 := at_eval h22
      rw [hL.out, ← hL2.out]; refine wpOp_of_list' rfl ?_
      go_wp2_with fail
      exact hK _ _ rfl (Below.refl _ _)
    | 7, _, hS, hK =>
      rw [d7] at hK
      obtain ⟨v26, h26, f26⟩ := hS.got 6 (q := .boolF false) rfl (by kernel_rfl) d6
      obtain rfl : v26 = .bool false := f26
      have e26 := at_eval h26
      rw [hL.out, ← hL2.out]; refine wpOp_of_list' rfl ?_
      go_wp2_with fail
      exact hK _ _ rfl (Below.refl _ _)
    | 8, _, hS, hK =>
      rw [d8] at hK
      obtain ⟨v27, h27, f27⟩ := hS.got 7 (q := .boolF false) rfl (by kernel_rfl) d7
      obtain rfl : v27 = .bool false := f27
      have e27 := at_eval h27
      have h2 := hS.slot (by kernel_rfl) p2
      have e2 := at_eval h2
      obtain ⟨o2, c2, ⟨b0, b1, b2, b3, b4⟩, hfq⟩ := (B2.out.below hS.below).cells
      rw [hL.out, ← hL2.out]; refine wpOp_of_list' rfl ?_
      go_wp2_with fail
      exact hK _ _ hfq (Below.refl _ _)
    | 9, _, hS, hK =>
      rw [d9] at hK
      obtain ⟨v27, h27, f27⟩ := hS.got 7 (q := .boolF false) rfl (by kernel_rfl) d7
      obtain rfl : v27 = .bool false := f27
      have e27 := at_eval h27
      obtain ⟨v28, h28, f28⟩ := hS.got 8 (q := .fmF (f)) rfl (by kernel_rfl) d8
      have e28 := at_eval h28
      rw [hL.out, ← hL2.out]; refine wpOp_of_list' rfl ?_
      go_wp2_with fail
      refine (iskernel_any f W.heap.size _ W (fm_at f28) (Nat.le_refl _) hEW (by omega)).mono ?_
      rintro e W2 ⟨rfl, hb⟩
      rw [hk.out]
      go_wp2_with fail
      exact hK _ _ rfl hb
    | 10, _, hS, hK =>
      rw [d10] at hK
      obtain ⟨v27, h27, f27⟩ := hS.got 7 (q := .boolF false) rfl (by kernel_rfl) d7
      obtain rfl : v27 = .bool false := f27
      have e27 := at_eval h27
      obtain ⟨v29, h29, f29⟩ := hS.got 9 (q := .boolF false) rfl (by kernel_rfl) d9
      obtain rfl : v29 = .bool false := f29
      have e29 := at_eval h29
      rw [hL.out, ← hL2.out]; refine wpOp_of_list' rfl ?_
      go_wp2_with fail
      exact hK _ _ rfl (Below.refl _ _)
    | 11, _, hS, hK =>
      rw [d11] at hK
      obtain ⟨v30, h30, f30⟩ := hS.got 10 (q := .boolF false) rfl (by kernel_rfl) d10
      obtain rfl : v30 = .bool false := f30
      have e30 := at_eval h30
      rw [hL.out, ← hL2.out]; refine wpOp_of_list' rfl ?_
      go_wp2_with fail
      exact hK _ _ (rfl : undef = undef) (Below.refl _ _)
    | 12, _, hS, hK =>
      rw [d12] at hK
      obtain ⟨v30, h30, f30⟩ := hS.got 10 (q := .boolF false) rfl (by kernel_rfl) d10
      obtain rfl : v30 = .bool false := f30
      have e30 := at_eval h30
      rw [hL.out, ← hL2.out]; refine wpOp_of_list' rfl ?_
      go_wp2_with fail
      exact hK _ _ (rfl : undef = undef) (Below.refl _ _)
    | 13, _, hS, hK =>
      rw [d13] at hK
      obtain ⟨v30, h30, f30⟩ := hS.got 10 (q := .boolF false) rfl (by kernel_rfl) d10
      obtain rfl : v30 = .bool false := f30
      have e30 := at_eval h30
      rw [hL.out, ← hL2.out]; refine wpOp_of_list' rfl ?_
      go_wp2_with fail
      exact hK _ _ (rfl : undef = undef) (Below.refl _ _)
    | 14, _, hS, hK =>
      rw [d14] at hK
      obtain ⟨v30, h30, f30⟩ := hS.got 10 (q := .boolF false) rfl (by kernel_rfl) d10
      obtain rfl : v30 = .bool false := f30
      have e30 := at_eval h30
      rw [hL.out, ← hL2.out]; refine wpOp_of_list' rfl ?_
      go_wp2_with fail
      exact hK _ _ (rfl : undef = undef) (Below.refl _ _)
    | 15, _, hS, hK =>
      rw [d15] at hK
      obtain ⟨v34, h34, f34⟩ := hS.got 14 (q := .valF undef) rfl (by kernel_rfl) d14
      obtain rfl : v34 = undef := f34
      replace h34 : a.tmps[(34 : Nat)]? = some (Value.tuple #[]) := h34
      rw [hL.out, ← hL2.out]; refine wpOp_of_list' rfl ?_
      go_wp2_with fail
      exact hK _ _ (rfl : undef = undef) (Below.refl _ _)
    | 16, _, hS, hK =>
      rw [d16] at hK
      obtain ⟨v34, h34, f34⟩ := hS.got 14 (q := .valF undef) rfl (by kernel_rfl) d14
      obtain rfl : v34 = undef := f34
      replace h34 : a.tmps[(34 : Nat)]? = some (Value.tuple #[]) := h34
      rw [hL.out, ← hL2.out]; refine wpOp_of_list' rfl ?_
      go_wp2_with fail
      exact hK _ _ (rfl : undef = undef) (Below.refl _ _)
    | 17, _, hS, hK =>
      rw [d17] at hK
      obtain ⟨v34, h34, f34⟩ := hS.got 14 (q := .valF undef) rfl (by kernel_rfl) d14
      obtain rfl : v34 = undef := f34
      replace h34 : a.tmps[(34 : Nat)]? = some (Value.tuple #[]) := h34
      rw [hL.out, ← hL2.out]; refine wpOp_of_list' rfl ?_
      go_wp2_with fail
      exact hK _ _ (rfl : undef = undef) (Below.refl _ _)
    | 18, _, hS, hK =>
      rw [d18] at hK
      obtain ⟨v30, h30, f30⟩ := hS.got 10 (q := .boolF false) rfl (by kernel_rfl) d10
      obtain rfl : v30 = .bool false := f30
      have e30 := at_eval h30
      rw [hL.out, ← hL2.out]; refine wpOp_of_list' rfl ?_
      go_wp2_with fail
      exact hK _ _ (rfl : undef = undef) (Below.refl _ _)
    | 19, _, hS, hK =>
      rw [d19] at hK
      obtain ⟨v27, h27, f27⟩ := hS.got 7 (q := .boolF false) rfl (by kernel_rfl) d7
      obtain rfl : v27 = .bool false := f27
      have e27 := at_eval h27
      obtain ⟨v30, h30, f30⟩ := hS.got 10 (q := .boolF false) rfl (by kernel_rfl) d10
      obtain rfl : v30 = .bool false := f30
      have e30 := at_eval h30
      rw [hL.out, ← hL2.out]; refine wpOp_of_list' rfl ?_
      go_wp2_with fail
      exact hK _ _ rfl (Below.refl _ _)
    | 20, _, hS, hK =>
      rw [d20] at hK
      obtain ⟨v27, h27, f27⟩ := hS.got 7 (q := .boolF false) rfl (by kernel_rfl) d7
      obtain rfl : v27 = .bool false := f27
      have e27 := at_eval h27
      obtain ⟨v39, h39, f39⟩ := hS.got 19 (q := .boolF false) rfl (by kernel_rfl) d19
      obtain rfl : v39 = .bool false := f39
      have e39 := at_eval h39
      rw [hL.out, ← hL2.out]; refine wpOp_of_list' rfl ?_
      go_wp2_with fail
      exact hK _ _ rfl (Below.refl _ _)
    | n + 21, hi, _, _ => exact absurd hi (by rw [hsz]; omega)
  · intro x W hB hx
    have y20 : x 20 = .bool false := hx 20 40 (by rw [hsz]; omega) d20
    have hl := hend x W hB
    have hr : List.range (opsAt Tryz.f5 4).size = [0, 1, 2, 3, 4, 5, 6, 7, 8, 9, 10, 11, 12, 13, 14, 15, 16, 17, 18, 19, 20] := by rw [hsz]; rfl
    rw [hr]
    simp only [putL, d0, d1, d2, d3, d4, d5, d6, d7, d8, d9, d10, d11, d12, d13, d14, d15, d16, d17, d18, d19, d20]
    simp only [y20]
    exact hl

set_option maxRecDepth 100000 in
theorem par_r4 {f : Fm} {k2 : Nat} (a0 : Act) (W0 : World) (Q : Exit → Act → World → Prop) (hE : Env W0) (hz : a0.tmps.size = 163) (p2 : a0.tmps[(2 : Nat)]? = some (.pointer (some ⟨k2, 0, none⟩))) (B2 : Hid (Bx W0 k2 (f))) (n1 : f.nodes ≤ 1000) (n2 : f.depth ≤ 1000)
    (hend : ∀ (x : Nat → Value) (W : World), Below W0.heap.size W0 W → Q .normal (((((((((((((((((((((a0.put (some 20) (x 0)).put (some 21) (x 1)).put (some 22) (x 2)).put (some 23) (x 3)).put (some 24) (x 4)).put (some 25) (x 5)).put (some 26) (x 6)).put (some 27) (x 7)).put (some 28) (x 8)).put (some 29) (x 9)).put (some 30) (x 10)).put (some 31) (x 11)).put (some 32) (x 12)).put (some 33) (x 13)).put (some 34) (x 14)).put (some 35) (x 15)).put (some 36) (x 16)).put (some 37) (x 17)).put (some 38) (x 18)).put (some 39) (x 19)).put (some 40) (.bool false)) W) :
    (Code.region 4 (opsAt Tryz.f5 4) false).wp Tryz.prog Q a0 W0 := by
  cases hk : kernelB f
  · cases hp : pastB f
    · exact pard_r4 a0 W0 Q hE hz p2 B2 (hidi hp) (hidi hk) n1 n2 hend
    · exact parc_r4 a0 W0 Q hE hz p2 B2 (hidi hp) (hidi (parts_past_lay f hp)) (hidi hk) n1 n2 hend
  · obtain ⟨hv, hl⟩ := parts_kernel_of hk
    cases hp : pastB f
    · exact parb_r4 a0 W0 Q hE hz p2 B2 (hidi hp) (hidi hl) (hidi hk) (hidi hv) n1 n2 hend
    · exact para_r4 a0 W0 Q hE hz p2 B2 (hidi hp) (hidi hl) (hidi hk) (hidi hv) n1 n2 hend

set_option maxRecDepth 100000 in
set_option maxHeartbeats 8000000 in
theorem pare_r13 {f : Fm} {nn mm : Int} {k2 : Nat} (a0 : Act) (W0 : World) (Q : Exit → Act → World → Prop) (hE : Env W0) (hz : a0.tmps.size = 163) (p2 : a0.tmps[(2 : Nat)]? = some (.pointer (some ⟨k2, 0, none⟩))) (p6 : a0.tmps[(6 : Nat)]? = some (.int .i64 (nn))) (_ : a0.tmps[(7 : Nat)]? = some (.int .i64 (mm))) (B2 : Hid (Bx W0 k2 (f))) (hn : Hid ((f.nodes : Int) = nn)) (h3 : Hid (f.op = 3)) (n1 : f.nodes ≤ 1000)
    (hend : ∀ (x : Nat → Value) (W : World), Below W0.heap.size W0 W → Q .normal ((((((((((((((((a0.put (some 65) (x 0)).put (some 66) (x 1)).put (some 67) (x 2)).put (some 68) (x 3)).put (some 69) (x 4)).put (some 70) (x 5)).put (some 71) (x 6)).put (some 72) (x 7)).put (some 73) (x 8)).put (some 74) (x 9)).put (some 75) (x 10)).put (some 76) (x 11)).put (some 77) (x 12)).put (some 78) (x 13)).put (some 79) (x 14)).put (some 80) (.bool false)) W) :
    (Code.region 13 (opsAt Tryz.f5 13) false).wp Tryz.prog Q a0 W0 := by
  have d0 : dstOf (opsAt Tryz.f5 13) 0 = some 65 := by kernel_rfl
  have d1 : dstOf (opsAt Tryz.f5 13) 1 = some 66 := by kernel_rfl
  have d2 : dstOf (opsAt Tryz.f5 13) 2 = some 67 := by kernel_rfl
  have d3 : dstOf (opsAt Tryz.f5 13) 3 = some 68 := by kernel_rfl
  have d4 : dstOf (opsAt Tryz.f5 13) 4 = some 69 := by kernel_rfl
  have d5 : dstOf (opsAt Tryz.f5 13) 5 = some 70 := by kernel_rfl
  have d6 : dstOf (opsAt Tryz.f5 13) 6 = some 71 := by kernel_rfl
  have d7 : dstOf (opsAt Tryz.f5 13) 7 = some 72 := by kernel_rfl
  have d8 : dstOf (opsAt Tryz.f5 13) 8 = some 73 := by kernel_rfl
  have d9 : dstOf (opsAt Tryz.f5 13) 9 = some 74 := by kernel_rfl
  have d10 : dstOf (opsAt Tryz.f5 13) 10 = some 75 := by kernel_rfl
  have d11 : dstOf (opsAt Tryz.f5 13) 11 = some 76 := by kernel_rfl
  have d12 : dstOf (opsAt Tryz.f5 13) 12 = some 77 := by kernel_rfl
  have d13 : dstOf (opsAt Tryz.f5 13) 13 = some 78 := by kernel_rfl
  have d14 : dstOf (opsAt Tryz.f5 13) 14 = some 79 := by kernel_rfl
  have d15 : dstOf (opsAt Tryz.f5 13) 15 = some 80 := by kernel_rfl
  have hsz : (opsAt Tryz.f5 13).size = 16 := by kernel_rfl
  obtain ⟨L, hL⟩ : ∃ L, Hid ((opsAt Tryz.f5 13) = L) := ⟨_, hidi rfl⟩
  have hL2 := hL.out
  unfold opsAt Tryz.f5 at hL2
  simp only [findRegion, Nat.reduceBEq, if_true, if_false, Bool.false_eq_true, Option.getD_some] at hL2
  replace hL2 := hidi hL2
  refine wp_region_facts_seq (by kernel_rfl) (by kernel_rfl) (by rw [hz]; kernel_rfl) (by kernel_rfl) (fun i => match i with
      | 0 => .fmF (f)
      | 1 => .intF (nn)
      | 2 => .intF (nn)
      | 3 => .boolF false
      | 4 => .boolF false
      | 5 => .valF (.pointer (some ⟨k2, 0, none⟩))
      | 6 => .intF (f.op)
      | 7 => .boolF false
      | 8 => .boolF false
      | 9 => .valF undef
      | 10 => .valF undef
      | 11 => .valF undef
      | 12 => .valF undef
      | 13 => .valF undef
      | 14 => .boolF false
      | 15 => .boolF false
      | _ => .free) ?_ ?_
  · intro i a W K hi hS hK
    have hEW := hE.below hS.below
    match i, hi, hS, hK with
    | 0, _, hS, hK =>
      rw [d0] at hK
      have h2 := hS.slot (by kernel_rfl) p2
      have e2 := at_eval h2
      obtain ⟨o2, c2, ⟨b0, b1, b2, b3, b4⟩, hfq⟩ := (B2.out.below hS.below).cells
      rw [hL.out, ← hL2.out]; refine wpOp_of_list' rfl ?_
      go_wp2_with fail
      exact hK _ _ hfq (Below.refl _ _)
    | 1, _, hS, hK =>
      rw [d1] at hK
      obtain ⟨v65, h65, f65⟩ := hS.got 0 (q := .fmF (f)) rfl (by kernel_rfl) d0
      have e65 := at_eval h65
      rw [hL.out, ← hL2.out]; refine wpOp_of_list' rfl ?_
      go_wp2_with fail
      refine (size_any f W.heap.size _ W (fm_at f65) (Nat.le_refl _) hEW (by omega)).mono ?_
      rintro e W2 ⟨rfl, hb⟩
      rw [hn.out]
      go_wp2_with fail
      exact hK _ _ rfl hb
    | 2, _, hS, hK =>
      rw [d2] at hK
      have h6 := hS.slot (by kernel_rfl) p6
      have e6 := at_eval h6
      rw [hL.out, ← hL2.out]; refine wpOp_of_list' rfl ?_
      go_wp2_with fail
      exact hK _ _ rfl (Below.refl _ _)
    | 3, _, hS, hK =>
      rw [d3] at hK
      obtain ⟨v66, h66, f66⟩ := hS.got 1 (q := .intF (nn)) rfl (by kernel_rfl) d1
      obtain rfl : v66 = .int .i64 (nn) := f66
      have e66 := at_eval h66
      obtain ⟨v67, h67, f67⟩ := hS.got 2 (q := .intF (nn)) rfl (by kernel_rfl) d2
      obtain rfl : v67 = .int .i64 (nn) := f67
      have e67 := at_eval h67
      rw [hL.out, ← hL2.out]; refine wpOp_of_list' rfl ?_
      go_wp2_with fail
      exact hK _ _ (by show Value.bool _ = Value.bool false; simp) (Below.refl _ _)
    | 4, _, hS, hK =>
      rw [d4] at hK
      obtain ⟨v68, h68, f68⟩ := hS.got 3 (q := .boolF false) rfl (by kernel_rfl) d3
      obtain rfl : v68 = .bool false := f68
      have e68 := at_eval h68
      rw [hL.out, ← hL2.out]; refine wpOp_of_list' rfl ?_
      go_wp2_with fail
      exact hK _ _ rfl (Below.refl _ _)
    | 5, _, hS, hK =>
      rw [d5] at hK
      obtain ⟨v69, h69, f69⟩ := hS.got 4 (q := .boolF false) rfl (by kernel_rfl) d4
      obtain rfl : v69 = .bool false := f69
      have e69 := at_eval h69
      have h2 := hS.slot (by kernel_rfl) p2
      have e2 := at_eval h2
      rw [hL.out, ← hL2.out]; refine wpOp_of_list' rfl ?_
      go_wp2_with fail
      exact hK _ _ rfl (Below.refl _ _)
    | 6, _, hS, hK =>
      rw [d6] at hK
      obtain ⟨v69, h69, f69⟩ := hS.got 4 (q := .boolF false) rfl (by kernel_rfl) d4
      obtain rfl : v69 = .bool false := f69
      have e69 := at_eval h69
      obtain ⟨v70, h70, f70⟩ := hS.got 5 (q := .valF (.pointer (some ⟨k2, 0, none⟩))) rfl (by kernel_rfl) d5
      obtain rfl : v70 = .pointer (some ⟨k2, 0, none⟩) := f70
      have e70 := at_eval h70
      obtain ⟨o2, c2, ⟨b0, b1, b2, b3, b4⟩, hfq⟩ := (B2.out.below hS.below).cells
      rw [show f.op = f.op from rfl] at b0
      rw [hL.out, ← hL2.out]; refine wpOp_of_list' rfl ?_
      go_wp2_with fail
      exact hK _ _ rfl (Below.refl _ _)
    | 7, _, hS, hK =>
      rw [d7] at hK
      obtain ⟨v69, h69, f69⟩ := hS.got 4 (q := .boolF false) rfl (by kernel_rfl) d4
      obtain rfl : v69 = .bool false := f69
      have e69 := at_eval h69
      obtain ⟨v71, h71, f71⟩ := hS.got 6 (q := .intF (f.op)) rfl (by kernel_rfl) d6
      obtain rfl : v71 = .int .i64 (f.op) := f71
      have e71 := at_eval h71
      rw [hL.out, ← hL2.out]; refine wpOp_of_list' rfl ?_
      go_wp2_with fail
      exact hK _ _ (by show Value.bool _ = Value.bool false; simp [h3.out]) (Below.refl _ _)
    | 8, _, hS, hK =>
      rw [d8] at hK
      obtain ⟨v69, h69, f69⟩ := hS.got 4 (q := .boolF false) rfl (by kernel_rfl) d4
      obtain rfl : v69 = .bool false := f69
      have e69 := at_eval h69
      obtain ⟨v72, h72, f72⟩ := hS.got 7 (q := .boolF false) rfl (by kernel_rfl) d7
      obtain rfl : v72 = .bool false := f72
      have e72 := at_eval h72
      rw [hL.out, ← hL2.out]; refine wpOp_of_list' rfl ?_
      go_wp2_with fail
      exact hK _ _ rfl (Below.refl _ _)
    | 9, _, hS, hK =>
      rw [d9] at hK
      obtain ⟨v73, h73, f73⟩ := hS.got 8 (q := .boolF false) rfl (by kernel_rfl) d8
      obtain rfl : v73 = .bool false := f73
      have e73 := at_eval h73
      rw [hL.out, ← hL2.out]; refine wpOp_of_list' rfl ?_
      go_wp2_with fail
      exact hK _ _ (rfl : undef = undef) (Below.refl _ _)
    | 10, _, hS, hK =>
      rw [d10] at hK
      obtain ⟨v73, h73, f73⟩ := hS.got 8 (q := .boolF false) rfl (by kernel_rfl) d8
      obtain rfl : v73 = .bool false := f73
      have e73 := at_eval h73
      rw [hL.out, ← hL2.out]; refine wpOp_of_list' rfl ?_
      go_wp2_with fail
      exact hK _ _ (rfl : undef = undef) (Below.refl _ _)
    | 11, _, hS, hK =>
      rw [d11] at hK
      obtain ⟨v73, h73, f73⟩ := hS.got 8 (q := .boolF false) rfl (by kernel_rfl) d8
      obtain rfl : v73 = .bool false := f73
      have e73 := at_eval h73
      rw [hL.out, ← hL2.out]; refine wpOp_of_list' rfl ?_
      go_wp2_with fail
      exact hK _ _ (rfl : undef = undef) (Below.refl _ _)
    | 12, _, hS, hK =>
      rw [d12] at hK
      obtain ⟨v73, h73, f73⟩ := hS.got 8 (q := .boolF false) rfl (by kernel_rfl) d8
      obtain rfl : v73 = .bool false := f73
      have e73 := at_eval h73
      rw [hL.out, ← hL2.out]; refine wpOp_of_list' rfl ?_
      go_wp2_with fail
      exact hK _ _ (rfl : undef = undef) (Below.refl _ _)
    | 13, _, hS, hK =>
      rw [d13] at hK
      obtain ⟨v73, h73, f73⟩ := hS.got 8 (q := .boolF false) rfl (by kernel_rfl) d8
      obtain rfl : v73 = .bool false := f73
      have e73 := at_eval h73
      rw [hL.out, ← hL2.out]; refine wpOp_of_list' rfl ?_
      go_wp2_with fail
      exact hK _ _ (rfl : undef = undef) (Below.refl _ _)
    | 14, _, hS, hK =>
      rw [d14] at hK
      obtain ⟨v69, h69, f69⟩ := hS.got 4 (q := .boolF false) rfl (by kernel_rfl) d4
      obtain rfl : v69 = .bool false := f69
      have e69 := at_eval h69
      obtain ⟨v73, h73, f73⟩ := hS.got 8 (q := .boolF false) rfl (by kernel_rfl) d8
      obtain rfl : v73 = .bool false := f73
      have e73 := at_eval h73
      rw [hL.out, ← hL2.out]; refine wpOp_of_list' rfl ?_
      go_wp2_with fail
      exact hK _ _ rfl (Below.refl _ _)
    | 15, _, hS, hK =>
      rw [d15] at hK
      obtain ⟨v69, h69, f69⟩ := hS.got 4 (q := .boolF false) rfl (by kernel_rfl) d4
      obtain rfl : v69 = .bool false := f69
      have e69 := at_eval h69
      obtain ⟨v79, h79, f79⟩ := hS.got 14 (q := .boolF false) rfl (by kernel_rfl) d14
      obtain rfl : v79 = .bool false := f79
      have e79 := at_eval h79
      rw [hL.out, ← hL2.out]; refine wpOp_of_list' rfl ?_
      go_wp2_with fail
      exact hK _ _ rfl (Below.refl _ _)
    | n + 16, hi, _, _ => exact absurd hi (by rw [hsz]; omega)
  · intro x W hB hx
    have y15 : x 15 = .bool false := hx 15 80 (by rw [hsz]; omega) d15
    have hl := hend x W hB
    have hr : List.range (opsAt Tryz.f5 13).size = [0, 1, 2, 3, 4, 5, 6, 7, 8, 9, 10, 11, 12, 13, 14, 15] := by rw [hsz]; rfl
    rw [hr]
    simp only [putL, d0, d1, d2, d3, d4, d5, d6, d7, d8, d9, d10, d11, d12, d13, d14, d15]
    simp only [y15]
    exact hl

set_option maxRecDepth 100000 in
set_option maxHeartbeats 8000000 in
theorem parf_r13 {f : Fm} {nn mm : Int} {k2 : Nat} (a0 : Act) (W0 : World) (Q : Exit → Act → World → Prop) (hE : Env W0) (hz : a0.tmps.size = 163) (p2 : a0.tmps[(2 : Nat)]? = some (.pointer (some ⟨k2, 0, none⟩))) (p6 : a0.tmps[(6 : Nat)]? = some (.int .i64 (nn))) (p7 : a0.tmps[(7 : Nat)]? = some (.int .i64 (mm))) (B2 : Hid (Bx W0 k2 (f))) (hn : Hid ((f.nodes : Int) = nn)) (h3 : Hid (¬ f.op = 3)) (hm : Hid (((namesF f).length : Int) ≤ mm)) (n1 : f.nodes ≤ 1000)
    (hend : ∀ (x : Nat → Value) (W : World), Below W0.heap.size W0 W → Q .normal ((((((((((((((((a0.put (some 65) (x 0)).put (some 66) (x 1)).put (some 67) (x 2)).put (some 68) (x 3)).put (some 69) (x 4)).put (some 70) (x 5)).put (some 71) (x 6)).put (some 72) (x 7)).put (some 73) (x 8)).put (some 74) (x 9)).put (some 75) (x 10)).put (some 76) (x 11)).put (some 77) (x 12)).put (some 78) (x 13)).put (some 79) (x 14)).put (some 80) (.bool false)) W) :
    (Code.region 13 (opsAt Tryz.f5 13) false).wp Tryz.prog Q a0 W0 := by
  have d0 : dstOf (opsAt Tryz.f5 13) 0 = some 65 := by kernel_rfl
  have d1 : dstOf (opsAt Tryz.f5 13) 1 = some 66 := by kernel_rfl
  have d2 : dstOf (opsAt Tryz.f5 13) 2 = some 67 := by kernel_rfl
  have d3 : dstOf (opsAt Tryz.f5 13) 3 = some 68 := by kernel_rfl
  have d4 : dstOf (opsAt Tryz.f5 13) 4 = some 69 := by kernel_rfl
  have d5 : dstOf (opsAt Tryz.f5 13) 5 = some 70 := by kernel_rfl
  have d6 : dstOf (opsAt Tryz.f5 13) 6 = some 71 := by kernel_rfl
  have d7 : dstOf (opsAt Tryz.f5 13) 7 = some 72 := by kernel_rfl
  have d8 : dstOf (opsAt Tryz.f5 13) 8 = some 73 := by kernel_rfl
  have d9 : dstOf (opsAt Tryz.f5 13) 9 = some 74 := by kernel_rfl
  have d10 : dstOf (opsAt Tryz.f5 13) 10 = some 75 := by kernel_rfl
  have d11 : dstOf (opsAt Tryz.f5 13) 11 = some 76 := by kernel_rfl
  have d12 : dstOf (opsAt Tryz.f5 13) 12 = some 77 := by kernel_rfl
  have d13 : dstOf (opsAt Tryz.f5 13) 13 = some 78 := by kernel_rfl
  have d14 : dstOf (opsAt Tryz.f5 13) 14 = some 79 := by kernel_rfl
  have d15 : dstOf (opsAt Tryz.f5 13) 15 = some 80 := by kernel_rfl
  have hsz : (opsAt Tryz.f5 13).size = 16 := by kernel_rfl
  obtain ⟨L, hL⟩ : ∃ L, Hid ((opsAt Tryz.f5 13) = L) := ⟨_, hidi rfl⟩
  have hL2 := hL.out
  unfold opsAt Tryz.f5 at hL2
  simp only [findRegion, Nat.reduceBEq, if_true, if_false, Bool.false_eq_true, Option.getD_some] at hL2
  replace hL2 := hidi hL2
  refine wp_region_facts_seq (by kernel_rfl) (by kernel_rfl) (by rw [hz]; kernel_rfl) (by kernel_rfl) (fun i => match i with
      | 0 => .fmF (f)
      | 1 => .intF (nn)
      | 2 => .intF (nn)
      | 3 => .boolF false
      | 4 => .boolF false
      | 5 => .valF (.pointer (some ⟨k2, 0, none⟩))
      | 6 => .intF (f.op)
      | 7 => .boolF true
      | 8 => .boolF true
      | 9 => .fmF (f)
      | 10 => .strsF (namesF f)
      | 11 => .intF (((namesF f).length : Int))
      | 12 => .intF (mm)
      | 13 => .boolF false
      | 14 => .boolF false
      | 15 => .boolF false
      | _ => .free) ?_ ?_
  · intro i a W K hi hS hK
    have hEW := hE.below hS.below
    match i, hi, hS, hK with
    | 0, _, hS, hK =>
      rw [d0] at hK
      have h2 := hS.slot (by kernel_rfl) p2
      have e2 := at_eval h2
      obtain ⟨o2, c2, ⟨b0, b1, b2, b3, b4⟩, hfq⟩ := (B2.out.below hS.below).cells
      rw [hL.out, ← hL2.out]; refine wpOp_of_list' rfl ?_
      go_wp2_with fail
      exact hK _ _ hfq (Below.refl _ _)
    | 1, _, hS, hK =>
      rw [d1] at hK
      obtain ⟨v65, h65, f65⟩ := hS.got 0 (q := .fmF (f)) rfl (by kernel_rfl) d0
      have e65 := at_eval h65
      rw [hL.out, ← hL2.out]; refine wpOp_of_list' rfl ?_
      go_wp2_with fail
      refine (size_any f W.heap.size _ W (fm_at f65) (Nat.le_refl _) hEW (by omega)).mono ?_
      rintro e W2 ⟨rfl, hb⟩
      rw [hn.out]
      go_wp2_with fail
      exact hK _ _ rfl hb
    | 2, _, hS, hK =>
      rw [d2] at hK
      have h6 := hS.slot (by kernel_rfl) p6
      have e6 := at_eval h6
      rw [hL.out, ← hL2.out]; refine wpOp_of_list' rfl ?_
      go_wp2_with fail
      exact hK _ _ rfl (Below.refl _ _)
    | 3, _, hS, hK =>
      rw [d3] at hK
      obtain ⟨v66, h66, f66⟩ := hS.got 1 (q := .intF (nn)) rfl (by kernel_rfl) d1
      obtain rfl : v66 = .int .i64 (nn) := f66
      have e66 := at_eval h66
      obtain ⟨v67, h67, f67⟩ := hS.got 2 (q := .intF (nn)) rfl (by kernel_rfl) d2
      obtain rfl : v67 = .int .i64 (nn) := f67
      have e67 := at_eval h67
      rw [hL.out, ← hL2.out]; refine wpOp_of_list' rfl ?_
      go_wp2_with fail
      exact hK _ _ (by show Value.bool _ = Value.bool false; simp) (Below.refl _ _)
    | 4, _, hS, hK =>
      rw [d4] at hK
      obtain ⟨v68, h68, f68⟩ := hS.got 3 (q := .boolF false) rfl (by kernel_rfl) d3
      obtain rfl : v68 = .bool false := f68
      have e68 := at_eval h68
      rw [hL.out, ← hL2.out]; refine wpOp_of_list' rfl ?_
      go_wp2_with fail
      exact hK _ _ rfl (Below.refl _ _)
    | 5, _, hS, hK =>
      rw [d5] at hK
      obtain ⟨v69, h69, f69⟩ := hS.got 4 (q := .boolF false) rfl (by kernel_rfl) d4
      obtain rfl : v69 = .bool false := f69
      have e69 := at_eval h69
      have h2 := hS.slot (by kernel_rfl) p2
      have e2 := at_eval h2
      rw [hL.out, ← hL2.out]; refine wpOp_of_list' rfl ?_
      go_wp2_with fail
      exact hK _ _ rfl (Below.refl _ _)
    | 6, _, hS, hK =>
      rw [d6] at hK
      obtain ⟨v69, h69, f69⟩ := hS.got 4 (q := .boolF false) rfl (by kernel_rfl) d4
      obtain rfl : v69 = .bool false := f69
      have e69 := at_eval h69
      obtain ⟨v70, h70, f70⟩ := hS.got 5 (q := .valF (.pointer (some ⟨k2, 0, none⟩))) rfl (by kernel_rfl) d5
      obtain rfl : v70 = .pointer (some ⟨k2, 0, none⟩) := f70
      have e70 := at_eval h70
      obtain ⟨o2, c2, ⟨b0, b1, b2, b3, b4⟩, hfq⟩ := (B2.out.below hS.below).cells
      rw [show f.op = f.op from rfl] at b0
      rw [hL.out, ← hL2.out]; refine wpOp_of_list' rfl ?_
      go_wp2_with fail
      exact hK _ _ rfl (Below.refl _ _)
    | 7, _, hS, hK =>
      rw [d7] at hK
      obtain ⟨v69, h69, f69⟩ := hS.got 4 (q := .boolF false) rfl (by kernel_rfl) d4
      obtain rfl : v69 = .bool false := f69
      have e69 := at_eval h69
      obtain ⟨v71, h71, f71⟩ := hS.got 6 (q := .intF (f.op)) rfl (by kernel_rfl) d6
      obtain rfl : v71 = .int .i64 (f.op) := f71
      have e71 := at_eval h71
      rw [hL.out, ← hL2.out]; refine wpOp_of_list' rfl ?_
      go_wp2_with fail
      exact hK _ _ (by show Value.bool _ = Value.bool true; simp [h3.out]) (Below.refl _ _)
    | 8, _, hS, hK =>
      rw [d8] at hK
      obtain ⟨v69, h69, f69⟩ := hS.got 4 (q := .boolF false) rfl (by kernel_rfl) d4
      obtain rfl : v69 = .bool false := f69
      have e69 := at_eval h69
      obtain ⟨v72, h72, f72⟩ := hS.got 7 (q := .boolF true) rfl (by kernel_rfl) d7
      obtain rfl : v72 = .bool true := f72
      have e72 := at_eval h72
      rw [hL.out, ← hL2.out]; refine wpOp_of_list' rfl ?_
      go_wp2_with fail
      exact hK _ _ rfl (Below.refl _ _)
    | 9, _, hS, hK =>
      rw [d9] at hK
      obtain ⟨v73, h73, f73⟩ := hS.got 8 (q := .boolF true) rfl (by kernel_rfl) d8
      obtain rfl : v73 = .bool true := f73
      have e73 := at_eval h73
      have h2 := hS.slot (by kernel_rfl) p2
      have e2 := at_eval h2
      obtain ⟨o2, c2, ⟨b0, b1, b2, b3, b4⟩, hfq⟩ := (B2.out.below hS.below).cells
      rw [hL.out, ← hL2.out]; refine wpOp_of_list' rfl ?_
      go_wp2_with fail
      exact hK _ _ hfq (Below.refl _ _)
    | 10, _, hS, hK =>
      rw [d10] at hK
      obtain ⟨v73, h73, f73⟩ := hS.got 8 (q := .boolF true) rfl (by kernel_rfl) d8
      obtain rfl : v73 = .bool true := f73
      have e73 := at_eval h73
      obtain ⟨v74, h74, f74⟩ := hS.got 9 (q := .fmF (f)) rfl (by kernel_rfl) d9
      have e74 := at_eval h74
      rw [hL.out, ← hL2.out]; refine wpOp_of_list' rfl ?_
      go_wp2_with fail
      refine (names_any f W.heap.size _ W (fm_at f74) (Nat.le_refl _) hEW (by omega)).mono ?_
      rintro e W2 ⟨r, rfl, hN, hb⟩
      go_wp2_with fail
      exact hK _ _ (strs_got hN) hb
    | 11, _, hS, hK =>
      rw [d11] at hK
      obtain ⟨v73, h73, f73⟩ := hS.got 8 (q := .boolF true) rfl (by kernel_rfl) d8
      obtain rfl : v73 = .bool true := f73
      have e73 := at_eval h73
      obtain ⟨v75, h75, f75⟩ := hS.got 10 (q := .strsF (namesF f)) rfl (by kernel_rfl) d10
      have e75 := at_eval h75
      obtain ⟨oo, cc, rfl⟩ := StrsP.shape f75
      rw [hL.out, ← hL2.out]; refine wpOp_of_list' rfl ?_
      go_wp2_with fail
      exact hK _ _ rfl (Below.refl _ _)
    | 12, _, hS, hK =>
      rw [d12] at hK
      obtain ⟨v73, h73, f73⟩ := hS.got 8 (q := .boolF true) rfl (by kernel_rfl) d8
      obtain rfl : v73 = .bool true := f73
      have e73 := at_eval h73
      have h7 := hS.slot (by kernel_rfl) p7
      have e7 := at_eval h7
      rw [hL.out, ← hL2.out]; refine wpOp_of_list' rfl ?_
      go_wp2_with fail
      exact hK _ _ rfl (Below.refl _ _)
    | 13, _, hS, hK =>
      rw [d13] at hK
      obtain ⟨v73, h73, f73⟩ := hS.got 8 (q := .boolF true) rfl (by kernel_rfl) d8
      obtain rfl : v73 = .bool true := f73
      have e73 := at_eval h73
      obtain ⟨v76, h76, f76⟩ := hS.got 11 (q := .intF (((namesF f).length : Int))) rfl (by kernel_rfl) d11
      obtain rfl : v76 = .int .i64 (((namesF f).length : Int)) := f76
      have e76 := at_eval h76
      obtain ⟨v77, h77, f77⟩ := hS.got 12 (q := .intF (mm)) rfl (by kernel_rfl) d12
      obtain rfl : v77 = .int .i64 (mm) := f77
      have e77 := at_eval h77
      rw [hL.out, ← hL2.out]; refine wpOp_of_list' rfl ?_
      go_wp2_with fail
      exact hK _ _ (by have := hm.out; show Value.bool _ = Value.bool false; simp; omega) (Below.refl _ _)
    | 14, _, hS, hK =>
      rw [d14] at hK
      obtain ⟨v69, h69, f69⟩ := hS.got 4 (q := .boolF false) rfl (by kernel_rfl) d4
      obtain rfl : v69 = .bool false := f69
      have e69 := at_eval h69
      obtain ⟨v73, h73, f73⟩ := hS.got 8 (q := .boolF true) rfl (by kernel_rfl) d8
      obtain rfl : v73 = .bool true := f73
      have e73 := at_eval h73
      obtain ⟨v78, h78, f78⟩ := hS.got 13 (q := .boolF false) rfl (by kernel_rfl) d13
      obtain rfl : v78 = .bool false := f78
      have e78 := at_eval h78
      rw [hL.out, ← hL2.out]; refine wpOp_of_list' rfl ?_
      go_wp2_with fail
      exact hK _ _ rfl (Below.refl _ _)
    | 15, _, hS, hK =>
      rw [d15] at hK
      obtain ⟨v69, h69, f69⟩ := hS.got 4 (q := .boolF false) rfl (by kernel_rfl) d4
      obtain rfl : v69 = .bool false := f69
      have e69 := at_eval h69
      obtain ⟨v79, h79, f79⟩ := hS.got 14 (q := .boolF false) rfl (by kernel_rfl) d14
      obtain rfl : v79 = .bool false := f79
      have e79 := at_eval h79
      rw [hL.out, ← hL2.out]; refine wpOp_of_list' rfl ?_
      go_wp2_with fail
      exact hK _ _ rfl (Below.refl _ _)
    | n + 16, hi, _, _ => exact absurd hi (by rw [hsz]; omega)
  · intro x W hB hx
    have y15 : x 15 = .bool false := hx 15 80 (by rw [hsz]; omega) d15
    have hl := hend x W hB
    have hr : List.range (opsAt Tryz.f5 13).size = [0, 1, 2, 3, 4, 5, 6, 7, 8, 9, 10, 11, 12, 13, 14, 15] := by rw [hsz]; rfl
    rw [hr]
    simp only [putL, d0, d1, d2, d3, d4, d5, d6, d7, d8, d9, d10, d11, d12, d13, d14, d15]
    simp only [y15]
    exact hl

set_option maxRecDepth 100000 in
theorem par_r13 {f : Fm} {nn mm : Int} {k2 : Nat} (a0 : Act) (W0 : World) (Q : Exit → Act → World → Prop) (hE : Env W0) (hz : a0.tmps.size = 163) (p2 : a0.tmps[(2 : Nat)]? = some (.pointer (some ⟨k2, 0, none⟩))) (p6 : a0.tmps[(6 : Nat)]? = some (.int .i64 (nn))) (p7 : a0.tmps[(7 : Nat)]? = some (.int .i64 (mm))) (B2 : Hid (Bx W0 k2 (f))) (hn : Hid ((f.nodes : Int) = nn)) (hm : Hid (f.op ≠ 3 → ((namesF f).length : Int) ≤ mm)) (n1 : f.nodes ≤ 1000)
    (hend : ∀ (x : Nat → Value) (W : World), Below W0.heap.size W0 W → Q .normal ((((((((((((((((a0.put (some 65) (x 0)).put (some 66) (x 1)).put (some 67) (x 2)).put (some 68) (x 3)).put (some 69) (x 4)).put (some 70) (x 5)).put (some 71) (x 6)).put (some 72) (x 7)).put (some 73) (x 8)).put (some 74) (x 9)).put (some 75) (x 10)).put (some 76) (x 11)).put (some 77) (x 12)).put (some 78) (x 13)).put (some 79) (x 14)).put (some 80) (.bool false)) W) :
    (Code.region 13 (opsAt Tryz.f5 13) false).wp Tryz.prog Q a0 W0 := by
  by_cases h3 : f.op = 3
  · exact pare_r13 a0 W0 Q hE hz p2 p6 p7 B2 hn (hidi h3) n1 hend
  · exact parf_r13 a0 W0 Q hE hz p2 p6 p7 B2 hn (hidi h3) (hidi (hm.out h3)) n1 hend

end Go.Proofs.YtlkoacopknolnaaGreatDoor
