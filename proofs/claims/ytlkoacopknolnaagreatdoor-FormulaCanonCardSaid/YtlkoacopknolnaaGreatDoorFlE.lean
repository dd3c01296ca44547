/-
  The drawn regions of FormulaCanon.
-/
import Derived.Test.YtlkoacopknolnaaGreatDoorFjB
import Derived.Test.YtlkoacopknolnaaGreatDoorGi
import Derived.Test.YtlkoacopknolnaaGreatDoorGe
import Derived.Test.YtlkoacopknolnaaGreatDoorGc
namespace Go.Proofs.YtlkoacopknolnaaGreatDoor
open Go.RowKit

set_option maxRecDepth 100000 in
set_option maxHeartbeats 8000000 in
theorem caa_r5 {f c : Fm} {k1 k4 : Nat} (a0 : Act) (W0 : World) (Q : Exit → Act → World → Prop) (hE : Env W0) (hz : a0.tmps.size = 59) (p1 : a0.tmps[(1 : Nat)]? = some (.pointer (some ⟨k1, 0, none⟩))) (p4 : a0.tmps[(4 : Nat)]? = some (.pointer (some ⟨k4, 0, none⟩))) (B1 : Hid (Bx W0 k1 (f))) (B4 : Hid (Bx W0 k4 (c))) (hlc : Hid (looseB c = true)) (hs : Hid (c.nodes ≤ f.nodes)) (e1 : Hid (canonTop c = c)) (hkf : Hid (kernelB f = true)) (hkc : Hid (kernelB c = true)) (n1 : f.nodes ≤ 1000) (n2 : c.nodes ≤ 1000)
    (hend : ∀ (x : Nat → Value) (W : World), Below W0.heap.size W0 W → Q .normal ((((((((((((((((((((((((((a0.put (some 18) (x 0)).put (some 19) (x 1)).put (some 20) (x 2)).put (some 21) (x 3)).put (some 22) (x 4)).put (some 23) (x 5)).put (some 24) (x 6)).put (some 25) (x 7)).put (some 26) (x 8)).put (some 27) (x 9)).put (some 28) (x 10)).put (some 29) (x 11)).put (some 30) (x 12)).put (some 31) (x 13)).put (some 32) (x 14)).put (some 33) (x 15)).put (some 34) (x 16)).put (some 35) (x 17)).put (some 36) (x 18)).put (some 37) (x 19)).put (some 38) (x 20)).put (some 39) (x 21)).put (some 40) (x 22)).put (some 41) (x 23)).put (some 42) (x 24)).put (some 43) (.bool false)) W) :
    (Code.region 5 (opsAt Tryz.f9 5) true).wp Tryz.prog Q a0 W0 := by
  have d0 : dstOf (opsAt Tryz.f9 5) 0 = some 18 := by kernel_rfl
  have d1 : dstOf (opsAt Tryz.f9 5) 1 = some 19 := by kernel_rfl
  have d2 : dstOf (opsAt Tryz.f9 5) 2 = some 20 := by kernel_rfl
  have d3 : dstOf (opsAt Tryz.f9 5) 3 = some 21 := by kernel_rfl
  have d4 : dstOf (opsAt Tryz.f9 5) 4 = some 22 := by kernel_rfl
  have d5 : dstOf (opsAt Tryz.f9 5) 5 = some 23 := by kernel_rfl
  have d6 : dstOf (opsAt Tryz.f9 5) 6 = some 24 := by kernel_rfl
  have d7 : dstOf (opsAt Tryz.f9 5) 7 = some 25 := by kernel_rfl
  have d8 : dstOf (opsAt Tryz.f9 5) 8 = some 26 := by kernel_rfl
  have d9 : dstOf (opsAt Tryz.f9 5) 9 = some 27 := by kernel_rfl
  have d10 : dstOf (opsAt Tryz.f9 5) 10 = some 28 := by kernel_rfl
  have d11 : dstOf (opsAt Tryz.f9 5) 11 = some 29 := by kernel_rfl
  have d12 : dstOf (opsAt Tryz.f9 5) 12 = some 30 := by kernel_rfl
  have d13 : dstOf (opsAt Tryz.f9 5) 13 = some 31 := by kernel_rfl
  have d14 : dstOf (opsAt Tryz.f9 5) 14 = some 32 := by kernel_rfl
  have d15 : dstOf (opsAt Tryz.f9 5) 15 = some 33 := by kernel_rfl
  have d16 : dstOf (opsAt Tryz.f9 5) 16 = some 34 := by kernel_rfl
  have d17 : dstOf (opsAt Tryz.f9 5) 17 = some 35 := by kernel_rfl
  have d18 : dstOf (opsAt Tryz.f9 5) 18 = some 36 := by kernel_rfl
  have d19 : dstOf (opsAt Tryz.f9 5) 19 = some 37 := by kernel_rfl
  have d20 : dstOf (opsAt Tryz.f9 5) 20 = some 38 := by kernel_rfl
  have d21 : dstOf (opsAt Tryz.f9 5) 21 = some 39 := by kernel_rfl
  have d22 : dstOf (opsAt Tryz.f9 5) 22 = some 40 := by kernel_rfl
  have d23 : dstOf (opsAt Tryz.f9 5) 23 = some 41 := by kernel_rfl
  have d24 : dstOf (opsAt Tryz.f9 5) 24 = some 42 := by kernel_rfl
  have d25 : dstOf (opsAt Tryz.f9 5) 25 = some 43 := by kernel_rfl
  have hsz : (opsAt Tryz.f9 5).size = 26 := by kernel_rfl
  obtain ⟨L, hL⟩ : ∃ L, Hid ((opsAt Tryz.f9 5) = L) := ⟨_, hidi rfl⟩
  have hL2 := hL.out
  unfold opsAt Tryz.f9 at hL2
  simp only [findRegion, Nat.reduceBEq, if_true, if_false, Bool.false_eq_true, Option.getD_some] at hL2
  replace hL2 := hidi hL2
  refine wp_region_facts (by kernel_rfl) (by kernel_rfl) (by kernel_rfl) (by rw [hz]; kernel_rfl) (by kernel_rfl) (fun i => match i with
      | 0 => .fmF (c)
      | 1 => .boolF true
      | 2 => .boolF false
      | 3 => .boolF false
      | 4 => .fmF (c)
      | 5 => .intF (((c).nodes : Int))
      | 6 => .fmF (f)
      | 7 => .intF (((f).nodes : Int))
      | 8 => .boolF false
      | 9 => .boolF false
      | 10 => .boolF false
      | 11 => .fmF (c)
      | 12 => .fmF (c)
      | 13 => .fmF (c)
      | 14 => .intF (0)
      | 15 => .boolF false
      | 16 => .boolF false
      | 17 => .boolF false
      | 18 => .fmF (f)
      | 19 => .boolF true
      | 20 => .boolF true
      | 21 => .fmF (c)
      | 22 => .boolF true
      | 23 => .boolF false
      | 24 => .boolF false
      | 25 => .boolF false
      | _ => .free) ?_ ?_
  · intro i a W K hi hS hK
    have hEW := hE.below hS.below
    match i, hi, hS, hK with
    | 0, _, hS, hK =>
      rw [d0] at hK
      have h4 := hS.slot (by kernel_rfl) p4
      have e4 := at_eval h4
      obtain ⟨o4, c4, ⟨b0, b1, b2, b3, b4⟩, hfq⟩ := (B4.out.below hS.below).cells
      rw [hL.out, ← hL2.out]; refine wpOp_of_list' rfl ?_
      go_wp2_with fail
      exact hK _ _ hfq (Below.refl _ _)
    | 1, _, hS, hK =>
      rw [d1] at hK
      obtain ⟨v18, h18, f18⟩ := hS.got 0 (q := .fmF (c)) rfl (by kernel_rfl) d0
      have e18 := at_eval h18
      rw [hL.out, ← hL2.out]; refine wpOp_of_list' rfl ?_
      go_wp2_with fail
      refine (refloose_any (c) W.heap.size _ W (fm_at f18) (Nat.le_refl _)).mono ?_
      rintro e W2 ⟨rfl, hb⟩
      rw [hlc.out]
      go_wp2_with fail
      exact hK _ _ rfl hb
    | 2, _, hS, hK =>
      rw [d2] at hK
      obtain ⟨v19, h19, f19⟩ := hS.got 1 (q := .boolF true) rfl (by kernel_rfl) d1
      obtain rfl : v19 = .bool true := f19
      have e19 := at_eval h19
      rw [hL.out, ← hL2.out]; refine wpOp_of_list' rfl ?_
      go_wp2_with fail
      exact hK _ _ rfl (Below.refl _ _)
    | 3, _, hS, hK =>
      rw [d3] at hK
      obtain ⟨v20, h20, f20⟩ := hS.got 2 (q := .boolF false) rfl (by kernel_rfl) d2
      obtain rfl : v20 = .bool false := f20
      have e20 := at_eval h20
      rw [hL.out, ← hL2.out]; refine wpOp_of_list' rfl ?_
      go_wp2_with fail
      exact hK _ _ rfl (Below.refl _ _)
    | 4, _, hS, hK =>
      rw [d4] at hK
      obtain ⟨v21, h21, f21⟩ := hS.got 3 (q := .boolF false) rfl (by kernel_rfl) d3
      obtain rfl : v21 = .bool false := f21
      have e21 := at_eval h21
      have h4 := hS.slot (by kernel_rfl) p4
      have e4 := at_eval h4
      obtain ⟨o4, c4, ⟨b0, b1, b2, b3, b4⟩, hfq⟩ := (B4.out.below hS.below).cells
      rw [hL.out, ← hL2.out]; refine wpOp_of_list' rfl ?_
      go_wp2_with fail
      exact hK _ _ hfq (Below.refl _ _)
    | 5, _, hS, hK =>
      rw [d5] at hK
      obtain ⟨v21, h21, f21⟩ := hS.got 3 (q := .boolF false) rfl (by kernel_rfl) d3
      obtain rfl : v21 = .bool false := f21
      have e21 := at_eval h21
      obtain ⟨v22, h22, f22⟩ := hS.got 4 (q := .fmF (c)) rfl (by kernel_rfl) d4
      have e22 := at_eval h22
      rw [hL.out, ← hL2.out]; refine wpOp_of_list' rfl ?_
      go_wp2_with fail
      refine (size_any (c) W.heap.size _ W (fm_at f22) (Nat.le_refl _) hEW (by omega)).mono ?_
      rintro e W2 ⟨rfl, hb⟩
      go_wp2_with fail
      exact hK _ _ rfl hb
    | 6, _, hS, hK =>
      rw [d6] at hK
      obtain ⟨v21, h21, f21⟩ := hS.got 3 (q := .boolF false) rfl (by kernel_rfl) d3
      obtain rfl : v21 = .bool false := f21
      have e21 := at_eval h21
      have h1 := hS.slot (by kernel_rfl) p1
      have e1 := at_eval h1
      obtain ⟨o1, c1, ⟨b0, b1, b2, b3, b4⟩, hfq⟩ := (B1.out.below hS.below).cells
      rw [hL.out, ← hL2.out]; refine wpOp_of_list' rfl ?_
      go_wp2_with fail
      exact hK _ _ hfq (Below.refl _ _)
    | 7, _, hS, hK =>
      rw [d7] at hK
      obtain ⟨v21, h21, f21⟩ := hS.got 3 (q := .boolF false) rfl (by kernel_rfl) d3
      obtain rfl : v21 = .bool false := f21
      have e21 := at_eval h21
      obtain ⟨v24, h24, f24⟩ := hS.got 6 (q := .fmF (f)) rfl (by kernel_rfl) d6
      have e24 := at_eval h24
      rw [hL.out, ← hL2.out]; refine wpOp_of_list' rfl ?_
      go_wp2_with fail
      refine (size_any (f) W.heap.size _ W (fm_at f24) (Nat.le_refl _) hEW (by omega)).mono ?_
      rintro e W2 ⟨rfl, hb⟩
      go_wp2_with fail
      exact hK _ _ rfl hb
    | 8, _, hS, hK =>
      rw [d8] at hK
      obtain ⟨v21, h21, f21⟩ := hS.got 3 (q := .boolF false) rfl (by kernel_rfl) d3
      obtain rfl : v21 = .bool false := f21
      have e21 := at_eval h21
      obtain ⟨v23, h23, f23⟩ := hS.got 5 (q := .intF (((c).nodes : Int))) rfl (by kernel_rfl) d5
      obtain rfl : v23 = .int .i64 (((c).nodes : Int)) := f23
      have e23 := at_eval h23
      obtain ⟨v25, h25, f25⟩ := hS.got 7 (q := .intF (((f).nodes : Int))) rfl (by kernel_rfl) d7
      obtain rfl : v25 = .int .i64 (((f).nodes : Int)) := f25
      have e25 := at_eval h25
      rw [hL.out, ← hL2.out]; refine wpOp_of_list' rfl ?_
      go_wp2_with fail
      exact hK _ _ (by have := hs.out; show Value.bool _ = Value.bool false; simp; omega) (Below.refl _ _)
    | 9, _, hS, hK =>
      rw [d9] at hK
      obtain ⟨v21, h21, f21⟩ := hS.got 3 (q := .boolF false) rfl (by kernel_rfl) d3
      obtain rfl : v21 = .bool false := f21
      have e21 := at_eval h21
      obtain ⟨v26, h26, f26⟩ := hS.got 8 (q := .boolF false) rfl (by kernel_rfl) d8
      obtain rfl : v26 = .bool false := f26
      have e26 := at_eval h26
      rw [hL.out, ← hL2.out]; refine wpOp_of_list' rfl ?_
      go_wp2_with fail
      exact hK _ _ rfl (Below.refl _ _)
    | 10, _, hS, hK =>
      rw [d10] at hK
      obtain ⟨v27, h27, f27⟩ := hS.got 9 (q := .boolF false) rfl (by kernel_rfl) d9
      obtain rfl : v27 = .bool false := f27
      have e27 := at_eval h27
      rw [hL.out, ← hL2.out]; refine wpOp_of_list' rfl ?_
      go_wp2_with fail
      exact hK _ _ rfl (Below.refl _ _)
    | 11, _, hS, hK =>
      rw [d11] at hK
      obtain ⟨v28, h28, f28⟩ := hS.got 10 (q := .boolF false) rfl (by kernel_rfl) d10
      obtain rfl : v28 = .bool false := f28
      have e28 := at_eval h28
      have h4 := hS.slot (by kernel_rfl) p4
      have e4 := at_eval h4
      obtain ⟨o4, c4, ⟨b0, b1, b2, b3, b4⟩, hfq⟩ := (B4.out.below hS.below).cells
      rw [hL.out, ← hL2.out]; refine wpOp_of_list' rfl ?_
      go_wp2_with fail
      exact hK _ _ hfq (Below.refl _ _)
    | 12, _, hS, hK =>
      rw [d12] at hK
      obtain ⟨v28, h28, f28⟩ := hS.got 10 (q := .boolF false) rfl (by kernel_rfl) d10
      obtain rfl : v28 = .bool false := f28
      have e28 := at_eval h28
      obtain ⟨v29, h29, f29⟩ := hS.got 11 (q := .fmF (c)) rfl (by kernel_rfl) d11
      have e29 := at_eval h29
      rw [hL.out, ← hL2.out]; refine wpOp_of_list' rfl ?_
      go_wp2_with fail
      refine (canontop_any (fun b => b < W.heap.size ∧ True) (c) _ W hEW f29 (fun b hb => hb.1) (by omega)).mono ?_
      rintro e W2 ⟨r, rfl, hN, hb⟩
      rw [e1.out] at hN
      go_wp2_with fail
      exact hK _ _ (fm_got (Ok := fun _ => True) hN hb (fun _ _ => trivial)) hb
    | 13, _, hS, hK =>
      rw [d13] at hK
      obtain ⟨v28, h28, f28⟩ := hS.got 10 (q := .boolF false) rfl (by kernel_rfl) d10
      obtain rfl : v28 = .bool false := f28
      have e28 := at_eval h28
      have h4 := hS.slot (by kernel_rfl) p4
      have e4 := at_eval h4
      obtain ⟨o4, c4, ⟨b0, b1, b2, b3, b4⟩, hfq⟩ := (B4.out.below hS.below).cells
      rw [hL.out, ← hL2.out]; refine wpOp_of_list' rfl ?_
      go_wp2_with fail
      exact hK _ _ hfq (Below.refl _ _)
    | 14, _, hS, hK =>
      rw [d14] at hK
      obtain ⟨v28, h28, f28⟩ := hS.got 10 (q := .boolF false) rfl (by kernel_rfl) d10
      obtain rfl : v28 = .bool false := f28
      have e28 := at_eval h28
      obtain ⟨v30, h30, f30⟩ := hS.got 12 (q := .fmF (c)) rfl (by kernel_rfl) d12
      have e30 := at_eval h30
      obtain ⟨v31, h31, f31⟩ := hS.got 13 (q := .fmF (c)) rfl (by kernel_rfl) d13
      have e31 := at_eval h31
      rw [hL.out, ← hL2.out]; refine wpOp_of_list' rfl ?_
      go_wp2_with fail
      refine (compare_any (c) (c) W.heap.size _ _ W (fm_at f30) (fm_at f31) (Nat.le_refl _)).mono ?_
      rintro e W2 ⟨rfl, hb⟩
      rw [cmpF_self]
      go_wp2_with fail
      exact hK _ _ rfl hb
    | 15, _, hS, hK =>
      rw [d15] at hK
      obtain ⟨v28, h28, f28⟩ := hS.got 10 (q := .boolF false) rfl (by kernel_rfl) d10
      obtain rfl : v28 = .bool false := f28
      have e28 := at_eval h28
      obtain ⟨v32, h32, f32⟩ := hS.got 14 (q := .intF (0)) rfl (by kernel_rfl) d14
      obtain rfl : v32 = .int .i64 (0) := f32
      have e32 := at_eval h32
      rw [hL.out, ← hL2.out]; refine wpOp_of_list' rfl ?_
      go_wp2_with fail
      exact hK _ _ rfl (Below.refl _ _)
    | 16, _, hS, hK =>
      rw [d16] at hK
      obtain ⟨v28, h28, f28⟩ := hS.got 10 (q := .boolF false) rfl (by kernel_rfl) d10
      obtain rfl : v28 = .bool false := f28
      have e28 := at_eval h28
      obtain ⟨v33, h33, f33⟩ := hS.got 15 (q := .boolF false) rfl (by kernel_rfl) d15
      obtain rfl : v33 = .bool false := f33
      have e33 := at_eval h33
      rw [hL.out, ← hL2.out]; refine wpOp_of_list' rfl ?_
      go_wp2_with fail
      exact hK _ _ rfl (Below.refl _ _)
    | 17, _, hS, hK =>
      rw [d17] at hK
      obtain ⟨v34, h34, f34⟩ := hS.got 16 (q := .boolF false) rfl (by kernel_rfl) d16
      obtain rfl : v34 = .bool false := f34
      have e34 := at_eval h34
      rw [hL.out, ← hL2.out]; refine wpOp_of_list' rfl ?_
      go_wp2_with fail
      exact hK _ _ rfl (Below.refl _ _)
    | 18, _, hS, hK =>
      rw [d18] at hK
      obtain ⟨v35, h35, f35⟩ := hS.got 17 (q := .boolF false) rfl (by kernel_rfl) d17
      obtain rfl : v35 = .bool false := f35
      have e35 := at_eval h35
      have h1 := hS.slot (by kernel_rfl) p1
      have e1 := at_eval h1
      obtain ⟨o1, c1, ⟨b0, b1, b2, b3, b4⟩, hfq⟩ := (B1.out.below hS.below).cells
      rw [hL.out, ← hL2.out]; refine wpOp_of_list' rfl ?_
      go_wp2_with fail
      exact hK _ _ hfq (Below.refl _ _)
    | 19, _, hS, hK =>
      rw [d19] at hK
      obtain ⟨v35, h35, f35⟩ := hS.got 17 (q := .boolF false) rfl (by kernel_rfl) d17
      obtain rfl : v35 = .bool false := f35
      have e35 := at_eval h35
      obtain ⟨v36, h36, f36⟩ := hS.got 18 (q := .fmF (f)) rfl (by kernel_rfl) d18
      have e36 := at_eval h36
      rw [hL.out, ← hL2.out]; refine wpOp_of_list' rfl ?_
      go_wp2_with fail
      refine (iskernel_any f W.heap.size _ W (fm_at f36) (Nat.le_refl _) hEW (by omega)).mono ?_
      rintro e W2 ⟨rfl, hb⟩
      rw [hkf.out]
      go_wp2_with fail
      exact hK _ _ rfl hb
    | 20, _, hS, hK =>
      rw [d20] at hK
      obtain ⟨v35, h35, f35⟩ := hS.got 17 (q := .boolF false) rfl (by kernel_rfl) d17
      obtain rfl : v35 = .bool false := f35
      have e35 := at_eval h35
      obtain ⟨v37, h37, f37⟩ := hS.got 19 (q := .boolF true) rfl (by kernel_rfl) d19
      obtain rfl : v37 = .bool true := f37
      have e37 := at_eval h37
      rw [hL.out, ← hL2.out]; refine wpOp_of_list' rfl ?_
      go_wp2_with fail
      exact hK _ _ rfl (Below.refl _ _)
    | 21, _, hS, hK =>
      rw [d21] at hK
      obtain ⟨v38, h38, f38⟩ := hS.got 20 (q := .boolF true) rfl (by kernel_rfl) d20
      obtain rfl : v38 = .bool true := f38
      have e38 := at_eval h38
      have h4 := hS.slot (by kernel_rfl) p4
      have e4 := at_eval h4
      obtain ⟨o4, c4, ⟨b0, b1, b2, b3, b4⟩, hfq⟩ := (B4.out.below hS.below).cells
      rw [hL.out, ← hL2.out]; refine wpOp_of_list' rfl ?_
      go_wp2_with fail
      exact hK _ _ hfq (Below.refl _ _)
    | 22, _, hS, hK =>
      rw [d22] at hK
      obtain ⟨v38, h38, f38⟩ := hS.got 20 (q := .boolF true) rfl (by kernel_rfl) d20
      obtain rfl : v38 = .bool true := f38
      have e38 := at_eval h38
      obtain ⟨v39, h39, f39⟩ := hS.got 21 (q := .fmF (c)) rfl (by kernel_rfl) d21
      have e39 := at_eval h39
      rw [hL.out, ← hL2.out]; refine wpOp_of_list' rfl ?_
      go_wp2_with fail
      refine (iskernel_any c W.heap.size _ W (fm_at f39) (Nat.le_refl _) hEW (by omega)).mono ?_
      rintro e W2 ⟨rfl, hb⟩
      rw [hkc.out]
      go_wp2_with fail
      exact hK _ _ rfl hb
    | 23, _, hS, hK =>
      rw [d23] at hK
      obtain ⟨v38, h38, f38⟩ := hS.got 20 (q := .boolF true) rfl (by kernel_rfl) d20
      obtain rfl : v38 = .bool true := f38
      have e38 := at_eval h38
      obtain ⟨v40, h40, f40⟩ := hS.got 22 (q := .boolF true) rfl (by kernel_rfl) d22
      obtain rfl : v40 = .bool true := f40
      have e40 := at_eval h40
      rw [hL.out, ← hL2.out]; refine wpOp_of_list' rfl ?_
      go_wp2_with fail
      exact hK _ _ rfl (Below.refl _ _)
    | 24, _, hS, hK =>
      rw [d24] at hK
      obtain ⟨v35, h35, f35⟩ := hS.got 17 (q := .boolF false) rfl (by kernel_rfl) d17
      obtain rfl : v35 = .bool false := f35
      have e35 := at_eval h35
      obtain ⟨v38, h38, f38⟩ := hS.got 20 (q := .boolF true) rfl (by kernel_rfl) d20
      obtain rfl : v38 = .bool true := f38
      have e38 := at_eval h38
      obtain ⟨v41, h41, f41⟩ := hS.got 23 (q := .boolF false) rfl (by kernel_rfl) d23
      obtain rfl : v41 = .bool false := f41
      have e41 := at_eval h41
      rw [hL.out, ← hL2.out]; refine wpOp_of_list' rfl ?_
      go_wp2_with fail
      exact hK _ _ rfl (Below.refl _ _)
    | 25, _, hS, hK =>
      rw [d25] at hK
      obtain ⟨v35, h35, f35⟩ := hS.got 17 (q := .boolF false) rfl (by kernel_rfl) d17
      obtain rfl : v35 = .bool false := f35
      have e35 := at_eval h35
      obtain ⟨v42, h42, f42⟩ := hS.got 24 (q := .boolF false) rfl (by kernel_rfl) d24
      obtain rfl : v42 = .bool false := f42
      have e42 := at_eval h42
      rw [hL.out, ← hL2.out]; refine wpOp_of_list' rfl ?_
      go_wp2_with fail
      exact hK _ _ rfl (Below.refl _ _)
    | n + 26, hi, _, _ => exact absurd hi (by rw [hsz]; omega)
  · intro x W hB hx
    have y25 : x 25 = .bool false := hx 25 43 (by rw [hsz]; omega) d25
    have hl := hend x W hB
    have hr : List.range (opsAt Tryz.f9 5).size = [0, 1, 2, 3, 4, 5, 6, 7, 8, 9, 10, 11, 12, 13, 14, 15, 16, 17, 18, 19, 20, 21, 22, 23, 24, 25] := by rw [hsz]; rfl
    rw [hr]
    simp only [putL, d0, d1, d2, d3, d4, d5, d6, d7, d8, d9, d10, d11, d12, d13, d14, d15, d16, d17, d18, d19, d20, d21, d22, d23, d24, d25]
    simp only [y25]
    exact hl

set_option maxRecDepth 100000 in
set_option maxHeartbeats 8000000 in
theorem cab_r5 {f c : Fm} {k1 k4 : Nat} (a0 : Act) (W0 : World) (Q : Exit → Act → World → Prop) (hE : Env W0) (hz : a0.tmps.size = 59) (p1 : a0.tmps[(1 : Nat)]? = some (.pointer (some ⟨k1, 0, none⟩))) (p4 : a0.tmps[(4 : Nat)]? = some (.pointer (some ⟨k4, 0, none⟩))) (B1 : Hid (Bx W0 k1 (f))) (B4 : Hid (Bx W0 k4 (c))) (hlc : Hid (looseB c = true)) (hs : Hid (c.nodes ≤ f.nodes)) (e1 : Hid (canonTop c = c)) (hkf : Hid (kernelB f = false)) (n1 : f.nodes ≤ 1000) (n2 : c.nodes ≤ 1000)
    (hend : ∀ (x : Nat → Value) (W : World), Below W0.heap.size W0 W → Q .normal ((((((((((((((((((((((((((a0.put (some 18) (x 0)).put (some 19) (x 1)).put (some 20) (x 2)).put (some 21) (x 3)).put (some 22) (x 4)).put (some 23) (x 5)).put (some 24) (x 6)).put (some 25) (x 7)).put (some 26) (x 8)).put (some 27) (x 9)).put (some 28) (x 10)).put (some 29) (x 11)).put (some 30) (x 12)).put (some 31) (x 13)).put (some 32) (x 14)).put (some 33) (x 15)).put (some 34) (x 16)).put (some 35) (x 17)).put (some 36) (x 18)).put (some 37) (x 19)).put (some 38) (x 20)).put (some 39) (x 21)).put (some 40) (x 22)).put (some 41) (x 23)).put (some 42) (x 24)).put (some 43) (.bool false)) W) :
    (Code.region 5 (opsAt Tryz.f9 5) true).wp Tryz.prog Q a0 W0 := by
  have d0 : dstOf (opsAt Tryz.f9 5) 0 = some 18 := by kernel_rfl
  have d1 : dstOf (opsAt Tryz.f9 5) 1 = some 19 := by kernel_rfl
  have d2 : dstOf (opsAt Tryz.f9 5) 2 = some 20 := by kernel_rfl
  have d3 : dstOf (opsAt Tryz.f9 5) 3 = some 21 := by kernel_rfl
  have d4 : dstOf (opsAt Tryz.f9 5) 4 = some 22 := by kernel_rfl
  have d5 : dstOf (opsAt Tryz.f9 5) 5 = some 23 := by kernel_rfl
  have d6 : dstOf (opsAt Tryz.f9 5) 6 = some 24 := by kernel_rfl
  have d7 : dstOf (opsAt Tryz.f9 5) 7 = some 25 := by kernel_rfl
  have d8 : dstOf (opsAt Tryz.f9 5) 8 = some 26 := by kernel_rfl
  have d9 : dstOf (opsAt Tryz.f9 5) 9 = some 27 := by kernel_rfl
  have d10 : dstOf (opsAt Tryz.f9 5) 10 = some 28 := by kernel_rfl
  have d11 : dstOf (opsAt Tryz.f9 5) 11 = some 29 := by kernel_rfl
  have d12 : dstOf (opsAt Tryz.f9 5) 12 = some 30 := by kernel_rfl
  have d13 : dstOf (opsAt Tryz.f9 5) 13 = some 31 := by kernel_rfl
  have d14 : dstOf (opsAt Tryz.f9 5) 14 = some 32 := by kernel_rfl
  have d15 : dstOf (opsAt Tryz.f9 5) 15 = some 33 := by kernel_rfl
  have d16 : dstOf (opsAt Tryz.f9 5) 16 = some 34 := by kernel_rfl
  have d17 : dstOf (opsAt Tryz.f9 5) 17 = some 35 := by kernel_rfl
  have d18 : dstOf (opsAt Tryz.f9 5) 18 = some 36 := by kernel_rfl
  have d19 : dstOf (opsAt Tryz.f9 5) 19 = some 37 := by kernel_rfl
  have d20 : dstOf (opsAt Tryz.f9 5) 20 = some 38 := by kernel_rfl
  have d21 : dstOf (opsAt Tryz.f9 5) 21 = some 39 := by kernel_rfl
  have d22 : dstOf (opsAt Tryz.f9 5) 22 = some 40 := by kernel_rfl
  have d23 : dstOf (opsAt Tryz.f9 5) 23 = some 41 := by kernel_rfl
  have d24 : dstOf (opsAt Tryz.f9 5) 24 = some 42 := by kernel_rfl
  have d25 : dstOf (opsAt Tryz.f9 5) 25 = some 43 := by kernel_rfl
  have hsz : (opsAt Tryz.f9 5).size = 26 := by kernel_rfl
  obtain ⟨L, hL⟩ : ∃ L, Hid ((opsAt Tryz.f9 5) = L) := ⟨_, hidi rfl⟩
  have hL2 := hL.out
  unfold opsAt Tryz.f9 at hL2
  simp only [findRegion, Nat.reduceBEq, if_true, if_false, Bool.false_eq_true, Option.getD_some] at hL2
  replace hL2 := hidi hL2
  refine wp_region_facts (by kernel_rfl) (by kernel_rfl) (by kernel_rfl) (by rw [hz]; kernel_rfl) (by kernel_rfl) (fun i => match i with
      | 0 => .fmF (c)
      | 1 => .boolF true
      | 2 => .boolF false
      | 3 => .boolF false
      | 4 => .fmF (c)
      | 5 => .intF (((c).nodes : Int))
      | 6 => .fmF (f)
      | 7 => .intF (((f).nodes : Int))
      | 8 => .boolF false
      | 9 => .boolF false
      | 10 => .boolF false
      | 11 => .fmF (c)
      | 12 => .fmF (c)
      | 13 => .fmF (c)
      | 14 => .intF (0)
      | 15 => .boolF false
      | 16 => .boolF false
      | 17 => .boolF false
      | 18 => .fmF (f)
      | 19 => .boolF false
      | 20 => .boolF false
      | 21 => .valF undef
      | 22 => .valF undef
      | 23 => .valF undef
      | 24 => .boolF false
      | 25 => .boolF false
      | _ => .free) ?_ ?_
  · intro i a W K hi hS hK
    have hEW := hE.below hS.below
    match i, hi, hS, hK with
    | 0, _, hS, hK =>
      rw [d0] at hK
      have h4 := hS.slot (by kernel_rfl) p4
      have e4 := at_eval h4
      obtain ⟨o4, c4, ⟨b0, b1, b2, b3, b4⟩, hfq⟩ := (B4.out.below hS.below).cells
      rw [hL.out, ← hL2.out]; refine wpOp_of_list' rfl ?_
      go_wp2_with fail
      exact hK _ _ hfq (Below.refl _ _)
    | 1, _, hS, hK =>
      rw [d1] at hK
      obtain ⟨v18, h18, f18⟩ := hS.got 0 (q := .fmF (c)) rfl (by kernel_rfl) d0
      have e18 := at_eval h18
      rw [hL.out, ← hL2.out]; refine wpOp_of_list' rfl ?_
      go_wp2_with fail
      refine (refloose_any (c) W.heap.size _ W (fm_at f18) (Nat.le_refl _)).mono ?_
      rintro e W2 ⟨rfl, hb⟩
      rw [hlc.out]
      go_wp2_with fail
      exact hK _ _ rfl hb
    | 2, _, hS, hK =>
      rw [d2] at hK
      obtain ⟨v19, h19, f19⟩ := hS.got 1 (q := .boolF true) rfl (by kernel_rfl) d1
      obtain rfl : v19 = .bool true := f19
      have e19 := at_eval h19
      rw [hL.out, ← hL2.out]; refine wpOp_of_list' rfl ?_
      go_wp2_with fail
      exact hK _ _ rfl (Below.refl _ _)
    | 3, _, hS, hK =>
      rw [d3] at hK
      obtain ⟨v20, h20, f20⟩ := hS.got 2 (q := .boolF false) rfl (by kernel_rfl) d2
      obtain rfl : v20 = .bool false := f20
      have e20 := at_eval h20
      rw [hL.out, ← hL2.out]; refine wpOp_of_list' rfl ?_
      go_wp2_with fail
      exact hK _ _ rfl (Below.refl _ _)
    | 4, _, hS, hK =>
      rw [d4] at hK
      obtain ⟨v21, h21, f21⟩ := hS.got 3 (q := .boolF false) rfl (by kernel_rfl) d3
      obtain rfl : v21 = .bool false := f21
      have e21 := at_eval h21
      have h4 := hS.slot (by kernel_rfl) p4
      have e4 := at_eval h4
      obtain ⟨o4, c4, ⟨b0, b1, b2, b3, b4⟩, hfq⟩ := (B4.out.below hS.below).cells
      rw [hL.out, ← hL2.out]; refine wpOp_of_list' rfl ?_
      go_wp2_with fail
      exact hK _ _ hfq (Below.refl _ _)
    | 5, _, hS, hK =>
      rw [d5] at hK
      obtain ⟨v21, h21, f21⟩ := hS.got 3 (q := .boolF false) rfl (by kernel_rfl) d3
      obtain rfl : v21 = .bool false := f21
      have e21 := at_eval h21
      obtain ⟨v22, h22, f22⟩ := hS.got 4 (q := .fmF (c)) rfl (by kernel_rfl) d4
      have e22 := at_eval h22
      rw [hL.out, ← hL2.out]; refine wpOp_of_list' rfl ?_
      go_wp2_with fail
      refine (size_any (c) W.heap.size _ W (fm_at f22) (Nat.le_refl _) hEW (by omega)).mono ?_
      rintro e W2 ⟨rfl, hb⟩
      go_wp2_with fail
      exact hK _ _ rfl hb
    | 6, _, hS, hK =>
      rw [d6] at hK
      obtain ⟨v21, h21, f21⟩ := hS.got 3 (q := .boolF false) rfl (by kernel_rfl) d3
      obtain rfl : v21 = .bool false := f21
      have e21 := at_eval h21
      have h1 := hS.slot (by kernel_rfl) p1
      have e1 := at_eval h1
      obtain ⟨o1, c1, ⟨b0, b1, b2, b3, b4⟩, hfq⟩ := (B1.out.below hS.below).cells
      rw [hL.out, ← hL2.out]; refine wpOp_of_list' rfl ?_
      go_wp2_with fail
      exact hK _ _ hfq (Below.refl _ _)
    | 7, _, hS, hK =>
      rw [d7] at hK
      obtain ⟨v21, h21, f21⟩ := hS.got 3 (q := .boolF false) rfl (by kernel_rfl) d3
      obtain rfl : v21 = .bool false := f21
      have e21 := at_eval h21
      obtain ⟨v24, h24, f24⟩ := hS.got 6 (q := .fmF (f)) rfl (by kernel_rfl) d6
      have e24 := at_eval h24
      rw [hL.out, ← hL2.out]; refine wpOp_of_list' rfl ?_
      go_wp2_with fail
      refine (size_any (f) W.heap.size _ W (fm_at f24) (Nat.le_refl _) hEW (by omega)).mono ?_
      rintro e W2 ⟨rfl, hb⟩
      go_wp2_with fail
      exact hK _ _ rfl hb
    | 8, _, hS, hK =>
      rw [d8] at hK
      obtain ⟨v21, h21, f21⟩ := hS.got 3 (q := .boolF false) rfl (by kernel_rfl) d3
      obtain rfl : v21 = .bool false := f21
      have e21 := at_eval h21
      obtain ⟨v23, h23, f23⟩ := hS.got 5 (q := .intF (((c).nodes : Int))) rfl (by kernel_rfl) d5
      obtain rfl : v23 = .int .i64 (((c).nodes : Int)) := f23
      have e23 := at_eval h23
      obtain ⟨v25, h25, f25⟩ := hS.got 7 (q := .intF (((f).nodes : Int))) rfl (by kernel_rfl) d7
      obtain rfl : v25 = .int .i64 (((f).nodes : Int)) := f25
      have e25 := at_eval h25
      rw [hL.out, ← hL2.out]; refine wpOp_of_list' rfl ?_
      go_wp2_with fail
      exact hK _ _ (by have := hs.out; show Value.bool _ = Value.bool false; simp; omega) (Below.refl _ _)
    | 9, _, hS, hK =>
      rw [d9] at hK
      obtain ⟨v21, h21, f21⟩ := hS.got 3 (q := .boolF false) rfl (by kernel_rfl) d3
      obtain rfl : v21 = .bool false := f21
      have e21 := at_eval h21
      obtain ⟨v26, h26, f26⟩ := hS.got 8 (q := .boolF false) rfl (by kernel_rfl) d8
      obtain rfl : v26 = .bool false := f26
      have e26 := at_eval h26
      rw [hL.out, ← hL2.out]; refine wpOp_of_list' rfl ?_
      go_wp2_with fail
      exact hK _ _ rfl (Below.refl _ _)
    | 10, _, hS, hK =>
      rw [d10] at hK
      obtain ⟨v27, h27, f27⟩ := hS.got 9 (q := .boolF false) rfl (by kernel_rfl) d9
      obtain rfl : v27 = .bool false := f27
      have e27 := at_eval h27
      rw [hL.out, ← hL2.out]; refine wpOp_of_list' rfl ?_
      go_wp2_with fail
      exact hK _ _ rfl (Below.refl _ _)
    | 11, _, hS, hK =>
      rw [d11] at hK
      obtain ⟨v28, h28, f28⟩ := hS.got 10 (q := .boolF false) rfl (by kernel_rfl) d10
      obtain rfl : v28 = .bool false := f28
      have e28 := at_eval h28
      have h4 := hS.slot (by kernel_rfl) p4
      have e4 := at_eval h4
      obtain ⟨o4, c4, ⟨b0, b1, b2, b3, b4⟩, hfq⟩ := (B4.out.below hS.below).cells
      rw [hL.out, ← hL2.out]; refine wpOp_of_list' rfl ?_
      go_wp2_with fail
      exact hK _ _ hfq (Below.refl _ _)
    | 12, _, hS, hK =>
      rw [d12] at hK
      obtain ⟨v28, h28, f28⟩ := hS.got 10 (q := .boolF false) rfl (by kernel_rfl) d10
      obtain rfl : v28 = .bool false := f28
      have e28 := at_eval h28
      obtain ⟨v29, h29, f29⟩ := hS.got 11 (q := .fmF (c)) rfl (by kernel_rfl) d11
      have e29 := at_eval h29
      rw [hL.out, ← hL2.out]; refine wpOp_of_list' rfl ?_
      go_wp2_with fail
      refine (canontop_any (fun b => b < W.heap.size ∧ True) (c) _ W hEW f29 (fun b hb => hb.1) (by omega)).mono ?_
      rintro e W2 ⟨r, rfl, hN, hb⟩
      rw [e1.out] at hN
      go_wp2_with fail
      exact hK _ _ (fm_got (Ok := fun _ => True) hN hb (fun _ _ => trivial)) hb
    | 13, _, hS, hK =>
      rw [d13] at hK
      obtain ⟨v28, h28, f28⟩ := hS.got 10 (q := .boolF false) rfl (by kernel_rfl) d10
      obtain rfl : v28 = .bool false := f28
      have e28 := at_eval h28
      have h4 := hS.slot (by kernel_rfl) p4
      have e4 := at_eval h4
      obtain ⟨o4, c4, ⟨b0, b1, b2, b3, b4⟩, hfq⟩ := (B4.out.below hS.below).cells
      rw [hL.out, ← hL2.out]; refine wpOp_of_list' rfl ?_
      go_wp2_with fail
      exact hK _ _ hfq (Below.refl _ _)
    | 14, _, hS, hK =>
      rw [d14] at hK
      obtain ⟨v28, h28, f28⟩ := hS.got 10 (q := .boolF false) rfl (by kernel_rfl) d10
      obtain rfl : v28 = .bool false := f28
      have e28 := at_eval h28
      obtain ⟨v30, h30, f30⟩ := hS.got 12 (q := .fmF (c)) rfl (by kernel_rfl) d12
      have e30 := at_eval h30
      obtain ⟨v31, h31, f31⟩ := hS.got 13 (q := .fmF (c)) rfl (by kernel_rfl) d13
      have e31 := at_eval h31
      rw [hL.out, ← hL2.out]; refine wpOp_of_list' rfl ?_
      go_wp2_with fail
      refine (compare_any (c) (c) W.heap.size _ _ W (fm_at f30) (fm_at f31) (Nat.le_refl _)).mono ?_
      rintro e W2 ⟨rfl, hb⟩
      rw [cmpF_self]
      go_wp2_with fail
      exact hK _ _ rfl hb
    | 15, _, hS, hK =>
      rw [d15] at hK
      obtain ⟨v28, h28, f28⟩ := hS.got 10 (q := .boolF false) rfl (by kernel_rfl) d10
      obtain rfl : v28 = .bool false := f28
      have e28 := at_eval h28
      obtain ⟨v32, h32, f32⟩ := hS.got 14 (q := .intF (0)) rfl (by kernel_rfl) d14
      obtain rfl : v32 = .int .i64 (0) := f32
      have e32 := at_eval h32
      rw [hL.out, ← hL2.out]; refine wpOp_of_list' rfl ?_
      go_wp2_with fail
      exact hK _ _ rfl (Below.refl _ _)
    | 16, _, hS, hK =>
      rw [d16] at hK
      obtain ⟨v28, h28, f28⟩ := hS.got 10 (q := .boolF false) rfl (by kernel_rfl) d10
      obtain rfl : v28 = .bool false := f28
      have e28 := at_eval h28
      obtain ⟨v33, h33, f33⟩ := hS.got 15 (q := .boolF false) rfl (by kernel_rfl) d15
      obtain rfl : v33 = .bool false := f33
      have e33 := at_eval h33
      rw [hL.out, ← hL2.out]; refine wpOp_of_list' rfl ?_
      go_wp2_with fail
      exact hK _ _ rfl (Below.refl _ _)
    | 17, _, hS, hK =>
      rw [d17] at hK
      obtain ⟨v34, h34, f34⟩ := hS.got 16 (q := .boolF false) rfl (by kernel_rfl) d16
      obtain rfl : v34 = .bool false := f34
      have e34 := at_eval h34
      rw [hL.out, ← hL2.out]; refine wpOp_of_list' rfl ?_
      go_wp2_with fail
      exact hK _ _ rfl (Below.refl _ _)
    | 18, _, hS, hK =>
      rw [d18] at hK
      obtain ⟨v35, h35, f35⟩ := hS.got 17 (q := .boolF false) rfl (by kernel_rfl) d17
      obtain rfl : v35 = .bool false := f35
      have e35 := at_eval h35
      have h1 := hS.slot (by kernel_rfl) p1
      have e1 := at_eval h1
      obtain ⟨o1, c1, ⟨b0, b1, b2, b3, b4⟩, hfq⟩ := (B1.out.below hS.below).cells
      rw [hL.out, ← hL2.out]; refine wpOp_of_list' rfl ?_
      go_wp2_with fail
      exact hK _ _ hfq (Below.refl _ _)
    | 19, _, hS, hK =>
      rw [d19] at hK
      obtain ⟨v35, h35, f35⟩ := hS.got 17 (q := .boolF false) rfl (by kernel_rfl) d17
      obtain rfl : v35 = .bool false := f35
      have e35 := at_eval h35
      obtain ⟨v36, h36, f36⟩ := hS.got 18 (q := .fmF (f)) rfl (by kernel_rfl) d18
      have e36 := at_eval h36
      rw [hL.out, ← hL2.out]; refine wpOp_of_list' rfl ?_
      go_wp2_with fail
      refine (iskernel_any f W.heap.size _ W (fm_at f36) (Nat.le_refl _) hEW (by omega)).mono ?_
      rintro e W2 ⟨rfl, hb⟩
      rw [hkf.out]
      go_wp2_with fail
      exact hK _ _ rfl hb
    | 20, _, hS, hK =>
      rw [d20] at hK
      obtain ⟨v35, h35, f35⟩ := hS.got 17 (q := .boolF false) rfl (by kernel_rfl) d17
      obtain rfl : v35 = .bool false := f35
      have e35 := at_eval h35
      obtain ⟨v37, h37, f37⟩ := hS.got 19 (q := .boolF false) rfl (by kernel_rfl) d19
      obtain rfl : v37 = .bool false := f37
      have e37 := at_eval h37
      rw [hL.out, ← hL2.out]; refine wpOp_of_list' rfl ?_
      go_wp2_with fail
      exact hK _ _ rfl (Below.refl _ _)
    | 21, _, hS, hK =>
      rw [d21] at hK
      obtain ⟨v38, h38, f38⟩ := hS.got 20 (q := .boolF false) rfl (by kernel_rfl) d20
      obtain rfl : v38 = .bool false := f38
      have e38 := at_eval h38
      rw [hL.out, ← hL2.out]; refine wpOp_of_list' rfl ?_
      go_wp2_with fail
      exact hK _ _ (rfl : undef = undef) (Below.refl _ _)
    | 22, _, hS, hK =>
      rw [d22] at hK
      obtain ⟨v38, h38, f38⟩ := hS.got 20 (q := .boolF false) rfl (by kernel_rfl) d20
      obtain rfl : v38 = .bool false := f38
      have e38 := at_eval h38
      rw [hL.out, ← hL2.out]; refine wpOp_of_list' rfl ?_
      go_wp2_with fail
      exact hK _ _ (rfl : undef = undef) (Below.refl _ _)
    | 23, _, hS, hK =>
      rw [d23] at hK
      obtain ⟨v38, h38, f38⟩ := hS.got 20 (q := .boolF false) rfl (by kernel_rfl) d20
      obtain rfl : v38 = .bool false := f38
      have e38 := at_eval h38
      rw [hL.out, ← hL2.out]; refine wpOp_of_list' rfl ?_
      go_wp2_with fail
      exact hK _ _ (rfl : undef = undef) (Below.refl _ _)
    | 24, _, hS, hK =>
      rw [d24] at hK
      obtain ⟨v35, h35, f35⟩ := hS.got 17 (q := .boolF false) rfl (by kernel_rfl) d17
      obtain rfl : v35 = .bool false := f35
      have e35 := at_eval h35
      obtain ⟨v38, h38, f38⟩ := hS.got 20 (q := .boolF false) rfl (by kernel_rfl) d20
      obtain rfl : v38 = .bool false := f38
      have e38 := at_eval h38
      rw [hL.out, ← hL2.out]; refine wpOp_of_list' rfl ?_
      go_wp2_with fail
      exact hK _ _ rfl (Below.refl _ _)
    | 25, _, hS, hK =>
      rw [d25] at hK
      obtain ⟨v35, h35, f35⟩ := hS.got 17 (q := .boolF false) rfl (by kernel_rfl) d17
      obtain rfl : v35 = .bool false := f35
      have e35 := at_eval h35
      obtain ⟨v42, h42, f42⟩ := hS.got 24 (q := .boolF false) rfl (by kernel_rfl) d24
      obtain rfl : v42 = .bool false := f42
      have e42 := at_eval h42
      rw [hL.out, ← hL2.out]; refine wpOp_of_list' rfl ?_
      go_wp2_with fail
      exact hK _ _ rfl (Below.refl _ _)
    | n + 26, hi, _, _ => exact absurd hi (by rw [hsz]; omega)
  · intro x W hB hx
    have y25 : x 25 = .bool false := hx 25 43 (by rw [hsz]; omega) d25
    have hl := hend x W hB
    have hr : List.range (opsAt Tryz.f9 5).size = [0, 1, 2, 3, 4, 5, 6, 7, 8, 9, 10, 11, 12, 13, 14, 15, 16, 17, 18, 19, 20, 21, 22, 23, 24, 25] := by rw [hsz]; rfl
    rw [hr]
    simp only [putL, d0, d1, d2, d3, d4, d5, d6, d7, d8, d9, d10, d11, d12, d13, d14, d15, d16, d17, d18, d19, d20, d21, d22, d23, d24, d25]
    simp only [y25]
    exact hl

set_option maxRecDepth 100000 in
theorem can_r5 {f c : Fm} {k1 k4 : Nat} (a0 : Act) (W0 : World) (Q : Exit → Act → World → Prop) (hE : Env W0) (hz : a0.tmps.size = 59) (p1 : a0.tmps[(1 : Nat)]? = some (.pointer (some ⟨k1, 0, none⟩))) (p4 : a0.tmps[(4 : Nat)]? = some (.pointer (some ⟨k4, 0, none⟩))) (B1 : Hid (Bx W0 k1 (f))) (B4 : Hid (Bx W0 k4 (c))) (hlc : Hid (looseB c = true)) (hs : Hid (c.nodes ≤ f.nodes)) (e1 : Hid (canonTop c = c)) (hk : Hid (kernelB f = true → kernelB c = true)) (n1 : f.nodes ≤ 1000) (n2 : c.nodes ≤ 1000)
    (hend : ∀ (x : Nat → Value) (W : World), Below W0.heap.size W0 W → Q .normal ((((((((((((((((((((((((((a0.put (some 18) (x 0)).put (some 19) (x 1)).put (some 20) (x 2)).put (some 21) (x 3)).put (some 22) (x 4)).put (some 23) (x 5)).put (some 24) (x 6)).put (some 25) (x 7)).put (some 26) (x 8)).put (some 27) (x 9)).put (some 28) (x 10)).put (some 29) (x 11)).put (some 30) (x 12)).put (some 31) (x 13)).put (some 32) (x 14)).put (some 33) (x 15)).put (some 34) (x 16)).put (some 35) (x 17)).put (some 36) (x 18)).put (some 37) (x 19)).put (some 38) (x 20)).put (some 39) (x 21)).put (some 40) (x 22)).put (some 41) (x 23)).put (some 42) (x 24)).put (some 43) (.bool false)) W) :
    (Code.region 5 (opsAt Tryz.f9 5) true).wp Tryz.prog Q a0 W0 := by
  cases hkf : kernelB f
  · exact cab_r5 a0 W0 Q hE hz p1 p4 B1 B4 hlc hs e1 (hidi hkf) n1 n2 hend
  · exact caa_r5 a0 W0 Q hE hz p1 p4 B1 B4 hlc hs e1 (hidi hkf) (hidi (hk.out hkf)) n1 n2 hend

set_option maxRecDepth 100000 in
set_option maxHeartbeats 8000000 in
theorem cac_r8 {c g : Fm} {k4 k5 : Nat} (a0 : Act) (W0 : World) (Q : Exit → Act → World → Prop) (hE : Env W0) (hz : a0.tmps.size = 59) (p3 : a0.tmps[(3 : Nat)]? = some (.bool true)) (p4 : a0.tmps[(4 : Nat)]? = some (.pointer (some ⟨k4, 0, none⟩))) (p5 : a0.tmps[(5 : Nat)]? = some (.pointer (some ⟨k5, 0, none⟩))) (B4 : Hid (Bx W0 k4 (c))) (B5 : Hid (Bx W0 k5 (g))) (hlg : Hid (looseB g = true)) (e1 : Hid (canonTop g = c)) (n1 : g.nodes ≤ 1000) 
    (hend : ∀ (x : Nat → Value) (W : World), Below W0.heap.size W0 W → Q .normal ((((((((((((((a0.put (some 46) (x 0)).put (some 47) (x 1)).put (some 48) (x 2)).put (some 49) (x 3)).put (some 50) (x 4)).put (some 51) (x 5)).put (some 52) (x 6)).put (some 53) (x 7)).put (some 54) (x 8)).put (some 55) (x 9)).put (some 56) (x 10)).put (some 57) (x 11)).put (some 58) (x 12)).put (some 2) (.bool true)) W) :
    (Code.region 8 (opsAt Tryz.f9 8) true).wp Tryz.prog Q a0 W0 := by
  have d0 : dstOf (opsAt Tryz.f9 8) 0 = some 46 := by kernel_rfl
  have d1 : dstOf (opsAt Tryz.f9 8) 1 = some 47 := by kernel_rfl
  have d2 : dstOf (opsAt Tryz.f9 8) 2 = some 48 := by kernel_rfl
  have d3 : dstOf (opsAt Tryz.f9 8) 3 = some 49 := by kernel_rfl
  have d4 : dstOf (opsAt Tryz.f9 8) 4 = some 50 := by kernel_rfl
  have d5 : dstOf (opsAt Tryz.f9 8) 5 = some 51 := by kernel_rfl
  have d6 : dstOf (opsAt Tryz.f9 8) 6 = some 52 := by kernel_rfl
  have d7 : dstOf (opsAt Tryz.f9 8) 7 = some 53 := by kernel_rfl
  have d8 : dstOf (opsAt Tryz.f9 8) 8 = some 54 := by kernel_rfl
  have d9 : dstOf (opsAt Tryz.f9 8) 9 = some 55 := by kernel_rfl
  have d10 : dstOf (opsAt Tryz.f9 8) 10 = some 56 := by kernel_rfl
  have d11 : dstOf (opsAt Tryz.f9 8) 11 = some 57 := by kernel_rfl
  have d12 : dstOf (opsAt Tryz.f9 8) 12 = some 58 := by kernel_rfl
  have d13 : dstOf (opsAt Tryz.f9 8) 13 = some 2 := by kernel_rfl
  have hsz : (opsAt Tryz.f9 8).size = 14 := by kernel_rfl
  obtain ⟨L, hL⟩ : ∃ L, Hid ((opsAt Tryz.f9 8) = L) := ⟨_, hidi rfl⟩
  have hL2 := hL.out
  unfold opsAt Tryz.f9 at hL2
  simp only [findRegion, Nat.reduceBEq, if_true, if_false, Bool.false_eq_true, Option.getD_some] at hL2
  replace hL2 := hidi hL2
  refine wp_region_facts (by kernel_rfl) (by kernel_rfl) (by kernel_rfl) (by rw [hz]; kernel_rfl) (by kernel_rfl) (fun i => match i with
      | 0 => .boolF true
      | 1 => .boolF true
      | 2 => .fmF (g)
      | 3 => .boolF true
      | 4 => .boolF false
      | 5 => .boolF false
      | 6 => .fmF (g)
      | 7 => .fmF (c)
      | 8 => .fmF (c)
      | 9 => .intF (0)
      | 10 => .boolF true
      | 11 => .boolF true
      | 12 => .boolF true
      | 13 => .boolF true
      | _ => .free) ?_ ?_
  · intro i a W K hi hS hK
    have hEW := hE.below hS.below
    match i, hi, hS, hK with
    | 0, _, hS, hK =>
      rw [d0] at hK
      have h3 := hS.slot (by kernel_rfl) p3
      have e3 := at_eval h3
      rw [hL.out, ← hL2.out]; refine wpOp_of_list' rfl ?_
      go_wp2_with fail
      exact hK _ _ rfl (Below.refl _ _)
    | 1, _, hS, hK =>
      rw [d1] at hK
      obtain ⟨v46, h46, f46⟩ := hS.got 0 (q := .boolF true) rfl (by kernel_rfl) d0
      obtain rfl : v46 = .bool true := f46
      have e46 := at_eval h46
      rw [hL.out, ← hL2.out]; refine wpOp_of_list' rfl ?_
      go_wp2_with fail
      exact hK _ _ rfl (Below.refl _ _)
    | 2, _, hS, hK =>
      rw [d2] at hK
      obtain ⟨v47, h47, f47⟩ := hS.got 1 (q := .boolF true) rfl (by kernel_rfl) d1
      obtain rfl : v47 = .bool true := f47
      have e47 := at_eval h47
      have h5 := hS.slot (by kernel_rfl) p5
      have e5 := at_eval h5
      obtain ⟨o5, c5, ⟨b0, b1, b2, b3, b4⟩, hfq⟩ := (B5.out.below hS.below).cells
      rw [hL.out, ← hL2.out]; refine wpOp_of_list' rfl ?_
      go_wp2_with fail
      exact hK _ _ hfq (Below.refl _ _)
    | 3, _, hS, hK =>
      rw [d3] at hK
      obtain ⟨v47, h47, f47⟩ := hS.got 1 (q := .boolF true) rfl (by kernel_rfl) d1
      obtain rfl : v47 = .bool true := f47
      have e47 := at_eval h47
      obtain ⟨v48, h48, f48⟩ := hS.got 2 (q := .fmF (g)) rfl (by kernel_rfl) d2
      have e48 := at_eval h48
      rw [hL.out, ← hL2.out]; refine wpOp_of_list' rfl ?_
      go_wp2_with fail
      refine (refloose_any (g) W.heap.size _ W (fm_at f48) (Nat.le_refl _)).mono ?_
      rintro e W2 ⟨rfl, hb⟩
      rw [hlg.out]
      go_wp2_with fail
      exact hK _ _ rfl hb
    | 4, _, hS, hK =>
      rw [d4] at hK
      obtain ⟨v47, h47, f47⟩ := hS.got 1 (q := .boolF true) rfl (by kernel_rfl) d1
      obtain rfl : v47 = .bool true := f47
      have e47 := at_eval h47
      obtain ⟨v49, h49, f49⟩ := hS.got 3 (q := .boolF true) rfl (by kernel_rfl) d3
      obtain rfl : v49 = .bool true := f49
      have e49 := at_eval h49
      rw [hL.out, ← hL2.out]; refine wpOp_of_list' rfl ?_
      go_wp2_with fail
      exact hK _ _ rfl (Below.refl _ _)
    | 5, _, hS, hK =>
      rw [d5] at hK
      obtain ⟨v47, h47, f47⟩ := hS.got 1 (q := .boolF true) rfl (by kernel_rfl) d1
      obtain rfl : v47 = .bool true := f47
      have e47 := at_eval h47
      obtain ⟨v50, h50, f50⟩ := hS.got 4 (q := .boolF false) rfl (by kernel_rfl) d4
      obtain rfl : v50 = .bool false := f50
      have e50 := at_eval h50
      rw [hL.out, ← hL2.out]; refine wpOp_of_list' rfl ?_
      go_wp2_with fail
      exact hK _ _ rfl (Below.refl _ _)
    | 6, _, hS, hK =>
      rw [d6] at hK
      obtain ⟨v51, h51, f51⟩ := hS.got 5 (q := .boolF false) rfl (by kernel_rfl) d5
      obtain rfl : v51 = .bool false := f51
      have e51 := at_eval h51
      have h5 := hS.slot (by kernel_rfl) p5
      have e5 := at_eval h5
      obtain ⟨o5, c5, ⟨b0, b1, b2, b3, b4⟩, hfq⟩ := (B5.out.below hS.below).cells
      rw [hL.out, ← hL2.out]; refine wpOp_of_list' rfl ?_
      go_wp2_with fail
      exact hK _ _ hfq (Below.refl _ _)
    | 7, _, hS, hK =>
      rw [d7] at hK
      obtain ⟨v51, h51, f51⟩ := hS.got 5 (q := .boolF false) rfl (by kernel_rfl) d5
      obtain rfl : v51 = .bool false := f51
      have e51 := at_eval h51
      obtain ⟨v52, h52, f52⟩ := hS.got 6 (q := .fmF (g)) rfl (by kernel_rfl) d6
      have e52 := at_eval h52
      rw [hL.out, ← hL2.out]; refine wpOp_of_list' rfl ?_
      go_wp2_with fail
      refine (canontop_any (fun b => b < W.heap.size ∧ True) (g) _ W hEW f52 (fun b hb => hb.1) (by omega)).mono ?_
      rintro e W2 ⟨r, rfl, hN, hb⟩
      rw [e1.out] at hN
      go_wp2_with fail
      exact hK _ _ (fm_got (Ok := fun _ => True) hN hb (fun _ _ => trivial)) hb
    | 8, _, hS, hK =>
      rw [d8] at hK
      obtain ⟨v51, h51, f51⟩ := hS.got 5 (q := .boolF false) rfl (by kernel_rfl) d5
      obtain rfl : v51 = .bool false := f51
      have e51 := at_eval h51
      have h4 := hS.slot (by kernel_rfl) p4
      have e4 := at_eval h4
      obtain ⟨o4, c4, ⟨b0, b1, b2, b3, b4⟩, hfq⟩ := (B4.out.below hS.below).cells
      rw [hL.out, ← hL2.out]; refine wpOp_of_list' rfl ?_
      go_wp2_with fail
      exact hK _ _ hfq (Below.refl _ _)
    | 9, _, hS, hK =>
      rw [d9] at hK
      obtain ⟨v51, h51, f51⟩ := hS.got 5 (q := .boolF false) rfl (by kernel_rfl) d5
      obtain rfl : v51 = .bool false := f51
      have e51 := at_eval h51
      obtain ⟨v53, h53, f53⟩ := hS.got 7 (q := .fmF (c)) rfl (by kernel_rfl) d7
      have e53 := at_eval h53
      obtain ⟨v54, h54, f54⟩ := hS.got 8 (q := .fmF (c)) rfl (by kernel_rfl) d8
      have e54 := at_eval h54
      rw [hL.out, ← hL2.out]; refine wpOp_of_list' rfl ?_
      go_wp2_with fail
      refine (compare_any (c) (c) W.heap.size _ _ W (fm_at f53) (fm_at f54) (Nat.le_refl _)).mono ?_
      rintro e W2 ⟨rfl, hb⟩
      rw [cmpF_self]
      go_wp2_with fail
      exact hK _ _ rfl hb
    | 10, _, hS, hK =>
      rw [d10] at hK
      obtain ⟨v51, h51, f51⟩ := hS.got 5 (q := .boolF false) rfl (by kernel_rfl) d5
      obtain rfl : v51 = .bool false := f51
      have e51 := at_eval h51
      obtain ⟨v55, h55, f55⟩ := hS.got 9 (q := .intF (0)) rfl (by kernel_rfl) d9
      obtain rfl : v55 = .int .i64 (0) := f55
      have e55 := at_eval h55
      rw [hL.out, ← hL2.out]; refine wpOp_of_list' rfl ?_
      go_wp2_with fail
      exact hK _ _ rfl (Below.refl _ _)
    | 11, _, hS, hK =>
      rw [d11] at hK
      obtain ⟨v47, h47, f47⟩ := hS.got 1 (q := .boolF true) rfl (by kernel_rfl) d1
      obtain rfl : v47 = .bool true := f47
      have e47 := at_eval h47
      obtain ⟨v51, h51, f51⟩ := hS.got 5 (q := .boolF false) rfl (by kernel_rfl) d5
      obtain rfl : v51 = .bool false := f51
      have e51 := at_eval h51
      obtain ⟨v56, h56, f56⟩ := hS.got 10 (q := .boolF true) rfl (by kernel_rfl) d10
      obtain rfl : v56 = .bool true := f56
      have e56 := at_eval h56
      rw [hL.out, ← hL2.out]; refine wpOp_of_list' rfl ?_
      go_wp2_with fail
      exact hK _ _ rfl (Below.refl _ _)
    | 12, _, hS, hK =>
      rw [d12] at hK
      obtain ⟨v47, h47, f47⟩ := hS.got 1 (q := .boolF true) rfl (by kernel_rfl) d1
      obtain rfl : v47 = .bool true := f47
      have e47 := at_eval h47
      obtain ⟨v57, h57, f57⟩ := hS.got 11 (q := .boolF true) rfl (by kernel_rfl) d11
      obtain rfl : v57 = .bool true := f57
      have e57 := at_eval h57
      rw [hL.out, ← hL2.out]; refine wpOp_of_list' rfl ?_
      go_wp2_with fail
      exact hK _ _ rfl (Below.refl _ _)
    | 13, _, hS, hK =>
      rw [d13] at hK
      obtain ⟨v58, h58, f58⟩ := hS.got 12 (q := .boolF true) rfl (by kernel_rfl) d12
      obtain rfl : v58 = .bool true := f58
      have e58 := at_eval h58
      rw [hL.out, ← hL2.out]; refine wpOp_of_list' rfl ?_
      go_wp2_with fail
      exact hK _ _ rfl (Below.refl _ _)
    | n + 14, hi, _, _ => exact absurd hi (by rw [hsz]; omega)
  · intro x W hB hx
    have y13 : x 13 = .bool true := hx 13 2 (by rw [hsz]; omega) d13
    have hl := hend x W hB
    have hr : List.range (opsAt Tryz.f9 8).size = [0, 1, 2, 3, 4, 5, 6, 7, 8, 9, 10, 11, 12, 13] := by rw [hsz]; rfl
    rw [hr]
    simp only [putL, d0, d1, d2, d3, d4, d5, d6, d7, d8, d9, d10, d11, d12, d13]
    simp only [y13]
    exact hl

set_option maxRecDepth 100000 in
set_option maxHeartbeats 8000000 in
theorem cad_r8 {c g : Fm} {k4 k5 : Nat} (a0 : Act) (W0 : World) (Q : Exit → Act → World → Prop) (hE : Env W0) (hz : a0.tmps.size = 59) (p3 : a0.tmps[(3 : Nat)]? = some (.bool true)) (_ : a0.tmps[(4 : Nat)]? = some (.pointer (some ⟨k4, 0, none⟩))) (p5 : a0.tmps[(5 : Nat)]? = some (.pointer (some ⟨k5, 0, none⟩))) (_ : Hid (Bx W0 k4 (c))) (B5 : Hid (Bx W0 k5 (g))) (hlg : Hid (looseB g = false)) 
    (hend : ∀ (x : Nat → Value) (W : World), Below W0.heap.size W0 W → Q .normal ((((((((((((((a0.put (some 46) (x 0)).put (some 47) (x 1)).put (some 48) (x 2)).put (some 49) (x 3)).put (some 50) (x 4)).put (some 51) (x 5)).put (some 52) (x 6)).put (some 53) (x 7)).put (some 54) (x 8)).put (some 55) (x 9)).put (some 56) (x 10)).put (some 57) (x 11)).put (some 58) (x 12)).put (some 2) (.bool true)) W) :
    (Code.region 8 (opsAt Tryz.f9 8) true).wp Tryz.prog Q a0 W0 := by
  have d0 : dstOf (opsAt Tryz.f9 8) 0 = some 46 := by kernel_rfl
  have d1 : dstOf (opsAt Tryz.f9 8) 1 = some 47 := by kernel_rfl
  have d2 : dstOf (opsAt Tryz.f9 8) 2 = some 48 := by kernel_rfl
  have d3 : dstOf (opsAt Tryz.f9 8) 3 = some 49 := by kernel_rfl
  have d4 : dstOf (opsAt Tryz.f9 8) 4 = some 50 := by kernel_rfl
  have d5 : dstOf (opsAt Tryz.f9 8) 5 = some 51 := by kernel_rfl
  have d6 : dstOf (opsAt Tryz.f9 8) 6 = some 52 := by kernel_rfl
  have d7 : dstOf (opsAt Tryz.f9 8) 7 = some 53 := by kernel_rfl
  have d8 : dstOf (opsAt Tryz.f9 8) 8 = some 54 := by kernel_rfl
  have d9 : dstOf (opsAt Tryz.f9 8) 9 = some 55 := by kernel_rfl
  have d10 : dstOf (opsAt Tryz.f9 8) 10 = some 56 := by kernel_rfl
  have d11 : dstOf (opsAt Tryz.f9 8) 11 = some 57 := by kernel_rfl
  have d12 : dstOf (opsAt Tryz.f9 8) 12 = some 58 := by kernel_rfl
  have d13 : dstOf (opsAt Tryz.f9 8) 13 = some 2 := by kernel_rfl
  have hsz : (opsAt Tryz.f9 8).size = 14 := by kernel_rfl
  obtain ⟨L, hL⟩ : ∃ L, Hid ((opsAt Tryz.f9 8) = L) := ⟨_, hidi rfl⟩
  have hL2 := hL.out
  unfold opsAt Tryz.f9 at hL2
  simp only [findRegion, Nat.reduceBEq, if_true, if_false, Bool.false_eq_true, Option.getD_some] at hL2
  replace hL2 := hidi hL2
  refine wp_region_facts (by kernel_rfl) (by kernel_rfl) (by kernel_rfl) (by rw [hz]; kernel_rfl) (by kernel_rfl) (fun i => match i with
      | 0 => .boolF true
      | 1 => .boolF true
      | 2 => .fmF (g)
      | 3 => .boolF false
      | 4 => .boolF true
      | 5 => .boolF true
      | 6 => .valF undef
      | 7 => .valF undef
      | 8 => .valF undef
      | 9 => .valF undef
      | 10 => .valF undef
      | 11 => .boolF true
      | 12 => .boolF true
      | 13 => .boolF true
      | _ => .free) ?_ ?_
  · intro i a W K hi hS hK
    have hEW := hE.below hS.below
    match i, hi, hS, hK with
    | 0, _, hS, hK =>
      rw [d0] at hK
      have h3 := hS.slot (by kernel_rfl) p3
      have e3 := at_eval h3
      rw [hL.out, ← hL2.out]; refine wpOp_of_list' rfl ?_
      go_wp2_with fail
      exact hK _ _ rfl (Below.refl _ _)
    | 1, _, hS, hK =>
      rw [d1] at hK
      obtain ⟨v46, h46, f46⟩ := hS.got 0 (q := .boolF true) rfl (by kernel_rfl) d0
      obtain rfl : v46 = .bool true := f46
      have e46 := at_eval h46
      rw [hL.out, ← hL2.out]; refine wpOp_of_list' rfl ?_
      go_wp2_with fail
      exact hK _ _ rfl (Below.refl _ _)
    | 2, _, hS, hK =>
      rw [d2] at hK
      obtain ⟨v47, h47, f47⟩ := hS.got 1 (q := .boolF true) rfl (by kernel_rfl) d1
      obtain rfl : v47 = .bool true := f47
      have e47 := at_eval h47
      have h5 := hS.slot (by kernel_rfl) p5
      have e5 := at_eval h5
      obtain ⟨o5, c5, ⟨b0, b1, b2, b3, b4⟩, hfq⟩ := (B5.out.below hS.below).cells
      rw [hL.out, ← hL2.out]; refine wpOp_of_list' rfl ?_
      go_wp2_with fail
      exact hK _ _ hfq (Below.refl _ _)
    | 3, _, hS, hK =>
      rw [d3] at hK
      obtain ⟨v47, h47, f47⟩ := hS.got 1 (q := .boolF true) rfl (by kernel_rfl) d1
      obtain rfl : v47 = .bool true := f47
      have e47 := at_eval h47
      obtain ⟨v48, h48, f48⟩ := hS.got 2 (q := .fmF (g)) rfl (by kernel_rfl) d2
      have e48 := at_eval h48
      rw [hL.out, ← hL2.out]; refine wpOp_of_list' rfl ?_
      go_wp2_with fail
      refine (refloose_any (g) W.heap.size _ W (fm_at f48) (Nat.le_refl _)).mono ?_
      rintro e W2 ⟨rfl, hb⟩
      rw [hlg.out]
      go_wp2_with fail
      exact hK _ _ rfl hb
    | 4, _, hS, hK =>
      rw [d4] at hK
      obtain ⟨v47, h47, f47⟩ := hS.got 1 (q := .boolF true) rfl (by kernel_rfl) d1
      obtain rfl : v47 = .bool true := f47
      have e47 := at_eval h47
      obtain ⟨v49, h49, f49⟩ := hS.got 3 (q := .boolF false) rfl (by kernel_rfl) d3
      obtain rfl : v49 = .bool false := f49
      have e49 := at_eval h49
      rw [hL.out, ← hL2.out]; refine wpOp_of_list' rfl ?_
      go_wp2_with fail
      exact hK _ _ rfl (Below.refl _ _)
    | 5, _, hS, hK =>
      rw [d5] at hK
      obtain ⟨v47, h47, f47⟩ := hS.got 1 (q := .boolF true) rfl (by kernel_rfl) d1
      obtain rfl : v47 = .bool true := f47
      have e47 := at_eval h47
      obtain ⟨v50, h50, f50⟩ := hS.got 4 (q := .boolF true) rfl (by kernel_rfl) d4
      obtain rfl : v50 = .bool true := f50
      have e50 := at_eval h50
      rw [hL.out, ← hL2.out]; refine wpOp_of_list' rfl ?_
      go_wp2_with fail
      exact hK _ _ rfl (Below.refl _ _)
    | 6, _, hS, hK =>
      rw [d6] at hK
      obtain ⟨v51, h51, f51⟩ := hS.got 5 (q := .boolF true) rfl (by kernel_rfl) d5
      obtain rfl : v51 = .bool true := f51
      have e51 := at_eval h51
      rw [hL.out, ← hL2.out]; refine wpOp_of_list' rfl ?_
      go_wp2_with fail
      exact hK _ _ (rfl : undef = undef) (Below.refl _ _)
    | 7, _, hS, hK =>
      rw [d7] at hK
      obtain ⟨v51, h51, f51⟩ := hS.got 5 (q := .boolF true) rfl (by kernel_rfl) d5
      obtain rfl : v51 = .bool true := f51
      have e51 := at_eval h51
      rw [hL.out, ← hL2.out]; refine wpOp_of_list' rfl ?_
      go_wp2_with fail
      exact hK _ _ (rfl : undef = undef) (Below.refl _ _)
    | 8, _, hS, hK =>
      rw [d8] at hK
      obtain ⟨v51, h51, f51⟩ := hS.got 5 (q := .boolF true) rfl (by kernel_rfl) d5
      obtain rfl : v51 = .bool true := f51
      have e51 := at_eval h51
      rw [hL.out, ← hL2.out]; refine wpOp_of_list' rfl ?_
      go_wp2_with fail
      exact hK _ _ (rfl : undef = undef) (Below.refl _ _)
    | 9, _, hS, hK =>
      rw [d9] at hK
      obtain ⟨v51, h51, f51⟩ := hS.got 5 (q := .boolF true) rfl (by kernel_rfl) d5
      obtain rfl : v51 = .bool true := f51
      have e51 := at_eval h51
      rw [hL.out, ← hL2.out]; refine wpOp_of_list' rfl ?_
      go_wp2_with fail
      exact hK _ _ (rfl : undef = undef) (Below.refl _ _)
    | 10, _, hS, hK =>
      rw [d10] at hK
      obtain ⟨v51, h51, f51⟩ := hS.got 5 (q := .boolF true) rfl (by kernel_rfl) d5
      obtain rfl : v51 = .bool true := f51
      have e51 := at_eval h51
      rw [hL.out, ← hL2.out]; refine wpOp_of_list' rfl ?_
      go_wp2_with fail
      exact hK _ _ (rfl : undef = undef) (Below.refl _ _)
    | 11, _, hS, hK =>
      rw [d11] at hK
      obtain ⟨v47, h47, f47⟩ := hS.got 1 (q := .boolF true) rfl (by kernel_rfl) d1
      obtain rfl : v47 = .bool true := f47
      have e47 := at_eval h47
      obtain ⟨v51, h51, f51⟩ := hS.got 5 (q := .boolF true) rfl (by kernel_rfl) d5
      obtain rfl : v51 = .bool true := f51
      have e51 := at_eval h51
      rw [hL.out, ← hL2.out]; refine wpOp_of_list' rfl ?_
      go_wp2_with fail
      exact hK _ _ rfl (Below.refl _ _)
    | 12, _, hS, hK =>
      rw [d12] at hK
      obtain ⟨v47, h47, f47⟩ := hS.got 1 (q := .boolF true) rfl (by kernel_rfl) d1
      obtain rfl : v47 = .bool true := f47
      have e47 := at_eval h47
      obtain ⟨v57, h57, f57⟩ := hS.got 11 (q := .boolF true) rfl (by kernel_rfl) d11
      obtain rfl : v57 = .bool true := f57
      have e57 := at_eval h57
      rw [hL.out, ← hL2.out]; refine wpOp_of_list' rfl ?_
      go_wp2_with fail
      exact hK _ _ rfl (Below.refl _ _)
    | 13, _, hS, hK =>
      rw [d13] at hK
      obtain ⟨v58, h58, f58⟩ := hS.got 12 (q := .boolF true) rfl (by kernel_rfl) d12
      obtain rfl : v58 = .bool true := f58
      have e58 := at_eval h58
      rw [hL.out, ← hL2.out]; refine wpOp_of_list' rfl ?_
      go_wp2_with fail
      exact hK _ _ rfl (Below.refl _ _)
    | n + 14, hi, _, _ => exact absurd hi (by rw [hsz]; omega)
  · intro x W hB hx
    have y13 : x 13 = .bool true := hx 13 2 (by rw [hsz]; omega) d13
    have hl := hend x W hB
    have hr : List.range (opsAt Tryz.f9 8).size = [0, 1, 2, 3, 4, 5, 6, 7, 8, 9, 10, 11, 12, 13] := by rw [hsz]; rfl
    rw [hr]
    simp only [putL, d0, d1, d2, d3, d4, d5, d6, d7, d8, d9, d10, d11, d12, d13]
    simp only [y13]
    exact hl

set_option maxRecDepth 100000 in
theorem can_r8 {c g : Fm} {k4 k5 : Nat} (a0 : Act) (W0 : World) (Q : Exit → Act → World → Prop) (hE : Env W0) (hz : a0.tmps.size = 59) (p3 : a0.tmps[(3 : Nat)]? = some (.bool true)) (p4 : a0.tmps[(4 : Nat)]? = some (.pointer (some ⟨k4, 0, none⟩))) (p5 : a0.tmps[(5 : Nat)]? = some (.pointer (some ⟨k5, 0, none⟩))) (B4 : Hid (Bx W0 k4 (c))) (B5 : Hid (Bx W0 k5 (g))) (hl : Hid (looseB g = true → canonTop g = c ∧ g.nodes ≤ 1000)) 
    (hend : ∀ (x : Nat → Value) (W : World), Below W0.heap.size W0 W → Q .normal ((((((((((((((a0.put (some 46) (x 0)).put (some 47) (x 1)).put (some 48) (x 2)).put (some 49) (x 3)).put (some 50) (x 4)).put (some 51) (x 5)).put (some 52) (x 6)).put (some 53) (x 7)).put (some 54) (x 8)).put (some 55) (x 9)).put (some 56) (x 10)).put (some 57) (x 11)).put (some 58) (x 12)).put (some 2) (.bool true)) W) :
    (Code.region 8 (opsAt Tryz.f9 8) true).wp Tryz.prog Q a0 W0 := by
  cases hlg : looseB g
  · exact cad_r8 a0 W0 Q hE hz p3 p4 p5 B4 B5 (hidi hlg) hend
  · exact cac_r8 a0 W0 Q hE hz p3 p4 p5 B4 B5 (hidi hlg) (hidi (hl.out hlg).1) (hl.out hlg).2 hend

end Go.Proofs.YtlkoacopknolnaaGreatDoor
