/-
  The drawn region of FormulaLattice, FjM.
-/
import Derived.Test.YtlkoacopknolnaaGreatDoorFjB
import Derived.Test.YtlkoacopknolnaaGreatDoorGi
import Derived.Test.YtlkoacopknolnaaGreatDoorFiS
namespace Go.Proofs.YtlkoacopknolnaaGreatDoor
open Go.RowKit

set_option maxRecDepth 100000 in
set_option maxHeartbeats 8000000 in
theorem latb_r10 {f g h fg gh z : Fm} {k3 k4 k5 k12 k13 : Nat} (a0 : Act) (W0 : World) (Q : Exit → Act → World → Prop) (hE : Env W0) (hz : a0.tmps.size = 183) (p3 : a0.tmps[(3 : Nat)]? = some (.pointer (some ⟨k3, 0, none⟩))) (p4 : a0.tmps[(4 : Nat)]? = some (.pointer (some ⟨k4, 0, none⟩))) (p5 : a0.tmps[(5 : Nat)]? = some (.pointer (some ⟨k5, 0, none⟩))) (p12 : a0.tmps[(12 : Nat)]? = some (.pointer (some ⟨k12, 0, none⟩))) (p13 : a0.tmps[(13 : Nat)]? = some (.pointer (some ⟨k13, 0, none⟩))) (B3 : Hid (Bx W0 k3 (f))) (B4 : Hid (Bx W0 k4 (g))) (B5 : Hid (Bx W0 k5 (h))) (B12 : Hid (Bx W0 k12 (fg))) (B13 : Hid (Bx W0 k13 (gh))) (e1 : Hid (combineF 6 [g, f] = fg)) (e2 : Hid (combineF 6 [fg, h] = z)) (e3 : Hid (combineF 6 [f, gh] = z)) (e4 : Hid (combineF 6 [f, g, h] = z)) (n1 : f.nodes ≤ 1000) (n2 : g.nodes ≤ 1000) (n3 : h.nodes ≤ 1000) (n4 : fg.nodes ≤ 1000) (n5 : gh.nodes ≤ 1000)
    (hend : ∀ (x : Nat → Value) (W : World), Below W0.heap.size W0 W → Q .normal (((((((((((((((((((((((((((((((((a0.put (some 81) (x 0)).put (some 82) (x 1)).put (some 83) (x 2)).put (some 84) (x 3)).put (some 85) (x 4)).put (some 86) (.int .i64 (0))).put (some 87) (.bool true)).put (some 88) (.bool true)).put (some 89) (x 8)).put (some 90) (x 9)).put (some 91) (x 10)).put (some 92) (x 11)).put (some 93) (x 12)).put (some 94) (x 13)).put (some 95) (x 14)).put (some 96) (x 15)).put (some 97) (.int .i64 (0))).put (some 98) (.bool true)).put (some 99) (.bool true)).put (some 100) (.bool true)).put (some 101) (x 20)).put (some 102) (x 21)).put (some 103) (x 22)).put (some 104) (x 23)).put (some 105) (x 24)).put (some 106) (x 25)).put (some 107) (x 26)).put (some 108) (x 27)).put (some 109) (x 28)).put (some 110) (.int .i64 (0))).put (some 111) (.bool true)).put (some 112) (.bool true)).put (some 14) (.bool true)) W) :
    (Code.region 10 (opsAt Tryz.f10 10) true).wp Tryz.prog Q a0 W0 := by
  have d0 : dstOf (opsAt Tryz.f10 10) 0 = some 81 := by kernel_rfl
  have d1 : dstOf (opsAt Tryz.f10 10) 1 = some 82 := by kernel_rfl
  have d2 : dstOf (opsAt Tryz.f10 10) 2 = some 83 := by kernel_rfl
  have d3 : dstOf (opsAt Tryz.f10 10) 3 = some 84 := by kernel_rfl
  have d4 : dstOf (opsAt Tryz.f10 10) 4 = some 85 := by kernel_rfl
  have d5 : dstOf (opsAt Tryz.f10 10) 5 = some 86 := by kernel_rfl
  have d6 : dstOf (opsAt Tryz.f10 10) 6 = some 87 := by kernel_rfl
  have d7 : dstOf (opsAt Tryz.f10 10) 7 = some 88 := by kernel_rfl
  have d8 : dstOf (opsAt Tryz.f10 10) 8 = some 89 := by kernel_rfl
  have d9 : dstOf (opsAt Tryz.f10 10) 9 = some 90 := by kernel_rfl
  have d10 : dstOf (opsAt Tryz.f10 10) 10 = some 91 := by kernel_rfl
  have d11 : dstOf (opsAt Tryz.f10 10) 11 = some 92 := by kernel_rfl
  have d12 : dstOf (opsAt Tryz.f10 10) 12 = some 93 := by kernel_rfl
  have d13 : dstOf (opsAt Tryz.f10 10) 13 = some 94 := by kernel_rfl
  have d14 : dstOf (opsAt Tryz.f10 10) 14 = some 95 := by kernel_rfl
  have d15 : dstOf (opsAt Tryz.f10 10) 15 = some 96 := by kernel_rfl
  have d16 : dstOf (opsAt Tryz.f10 10) 16 = some 97 := by kernel_rfl
  have d17 : dstOf (opsAt Tryz.f10 10) 17 = some 98 := by kernel_rfl
  have d18 : dstOf (opsAt Tryz.f10 10) 18 = some 99 := by kernel_rfl
  have d19 : dstOf (opsAt Tryz.f10 10) 19 = some 100 := by kernel_rfl
  have d20 : dstOf (opsAt Tryz.f10 10) 20 = some 101 := by kernel_rfl
  have d21 : dstOf (opsAt Tryz.f10 10) 21 = some 102 := by kernel_rfl
  have d22 : dstOf (opsAt Tryz.f10 10) 22 = some 103 := by kernel_rfl
  have d23 : dstOf (opsAt Tryz.f10 10) 23 = some 104 := by kernel_rfl
  have d24 : dstOf (opsAt Tryz.f10 10) 24 = some 105 := by kernel_rfl
  have d25 : dstOf (opsAt Tryz.f10 10) 25 = some 106 := by kernel_rfl
  have d26 : dstOf (opsAt Tryz.f10 10) 26 = some 107 := by kernel_rfl
  have d27 : dstOf (opsAt Tryz.f10 10) 27 = some 108 := by kernel_rfl
  have d28 : dstOf (opsAt Tryz.f10 10) 28 = some 109 := by kernel_rfl
  have d29 : dstOf (opsAt Tryz.f10 10) 29 = some 110 := by kernel_rfl
  have d30 : dstOf (opsAt Tryz.f10 10) 30 = some 111 := by kernel_rfl
  have d31 : dstOf (opsAt Tryz.f10 10) 31 = some 112 := by kernel_rfl
  have d32 : dstOf (opsAt Tryz.f10 10) 32 = some 14 := by kernel_rfl
  have hsz : (opsAt Tryz.f10 10).size = 33 := by kernel_rfl
  obtain ⟨L, hL⟩ : ∃ L, Hid ((opsAt Tryz.f10 10) = L) := ⟨_, hidi rfl⟩
  have hL2 := hL.out
  unfold opsAt Tryz.f10 at hL2
  simp only [findRegion, Nat.reduceBEq, if_true, if_false, Bool.false_eq_true, Option.getD_some] at hL2
  replace hL2 := hidi hL2
  refine wp_region_facts (by kernel_rfl) (by kernel_rfl) (by kernel_rfl) (by rw [hz]; kernel_rfl) (by kernel_rfl) (fun i => match i with
      | 0 => .fmF (fg)
      | 1 => .fmF (g)
      | 2 => .fmF (f)
      | 3 => .fmsF [g, f]
      | 4 => .fmF (fg)
      | 5 => .intF (0)
      | 6 => .boolF true
      | 7 => .boolF true
      | 8 => .fmF (fg)
      | 9 => .fmF (h)
      | 10 => .fmsF [fg, h]
      | 11 => .fmF (z)
      | 12 => .fmF (f)
      | 13 => .fmF (gh)
      | 14 => .fmsF [f, gh]
      | 15 => .fmF (z)
      | 16 => .intF (0)
      | 17 => .boolF true
      | 18 => .boolF true
      | 19 => .boolF true
      | 20 => .fmF (f)
      | 21 => .fmF (g)
      | 22 => .fmF (h)
      | 23 => .fmsF [f, g, h]
      | 24 => .fmF (z)
      | 25 => .fmF (fg)
      | 26 => .fmF (h)
      | 27 => .fmsF [fg, h]
      | 28 => .fmF (z)
      | 29 => .intF (0)
      | 30 => .boolF true
      | 31 => .boolF true
      | 32 => .boolF true
      | _ => .free) ?_ ?_
  · intro i a W K hi hS hK
    have hEW := hE.below hS.below
    match i, hi, hS, hK with
    | 0, _, hS, hK =>
      rw [d0] at hK
      have h12 := hS.slot (by kernel_rfl) p12
      have e12 := at_eval h12
      obtain ⟨o12, c12, ⟨b0, b1, b2, b3, b4⟩, hfq⟩ := (B12.out.below hS.below).cells
      rw [hL.out, ← hL2.out]; refine wpOp_of_list' rfl ?_
      go_wp2_with fail
      exact hK _ _ hfq (Below.refl _ _)
    | 1, _, hS, hK =>
      rw [d1] at hK
      have h4 := hS.slot (by kernel_rfl) p4
      have e4 := at_eval h4
      obtain ⟨o4, c4, ⟨b0, b1, b2, b3, b4⟩, hfq⟩ := (B4.out.below hS.below).cells
      rw [hL.out, ← hL2.out]; refine wpOp_of_list' rfl ?_
      go_wp2_with fail
      exact hK _ _ hfq (Below.refl _ _)
    | 2, _, hS, hK =>
      rw [d2] at hK
      have h3 := hS.slot (by kernel_rfl) p3
      have e3 := at_eval h3
      obtain ⟨o3, c3, ⟨b0, b1, b2, b3, b4⟩, hfq⟩ := (B3.out.below hS.below).cells
      rw [hL.out, ← hL2.out]; refine wpOp_of_list' rfl ?_
      go_wp2_with fail
      exact hK _ _ hfq (Below.refl _ _)
    | 3, _, hS, hK =>
      rw [d3] at hK
      obtain ⟨v82, h82, f82⟩ := hS.got 1 (q := .fmF (g)) rfl (by kernel_rfl) d1
      have e82 := at_eval h82
      obtain ⟨v83, h83, f83⟩ := hS.got 2 (q := .fmF (f)) rfl (by kernel_rfl) d2
      have e83 := at_eval h83
      obtain ⟨o82, c82, rfl, hf82, ha82⟩ := fq_open f82
      obtain ⟨o83, c83, rfl, hf83, ha83⟩ := fq_open f83
      rw [hL.out, ← hL2.out]; refine wpOp_of_list' rfl ?_
      go_wp2_with fail
      exact hK _ _ (fms_new2 hf82 hf83 ha82 ha83) (below_box _ _)
    | 4, _, hS, hK =>
      rw [d4] at hK
      obtain ⟨v84, h84, f84⟩ := hS.got 3 (q := .fmsF [g, f]) rfl (by kernel_rfl) d3
      have e84 := at_eval h84
      rw [hL.out, ← hL2.out]; refine wpOp_of_list' rfl ?_
      go_wp2_with fail
      refine (or_any (fun b => b < W.heap.size ∧ True) [g, f] _ W hEW f84 (fun b hb => hb.1) (by simp only [Fm.nodesL_cons, Fm.nodesL_nil]; omega)).mono ?_
      rintro e W2 ⟨r, rfl, hN, hb⟩
      rw [e1.out] at hN
      go_wp2_with fail
      exact hK _ _ (fm_got (Ok := fun _ => True) hN hb (fun _ _ => trivial)) hb
    | 5, _, hS, hK =>
      rw [d5] at hK
      obtain ⟨v81, h81, f81⟩ := hS.got 0 (q := .fmF (fg)) rfl (by kernel_rfl) d0
      have e81 := at_eval h81
      obtain ⟨v85, h85, f85⟩ := hS.got 4 (q := .fmF (fg)) rfl (by kernel_rfl) d4
      have e85 := at_eval h85
      rw [hL.out, ← hL2.out]; refine wpOp_of_list' rfl ?_
      go_wp2_with fail
      refine (compare_any (fg) (fg) W.heap.size _ _ W (fm_at f81) (fm_at f85) (Nat.le_refl _)).mono ?_
      rintro e W2 ⟨rfl, hb⟩
      rw [cmpF_self]
      go_wp2_with fail
      exact hK _ _ rfl hb
    | 6, _, hS, hK =>
      rw [d6] at hK
      obtain ⟨v86, h86, f86⟩ := hS.got 5 (q := .intF (0)) rfl (by kernel_rfl) d5
      obtain rfl : v86 = .int .i64 (0) := f86
      have e86 := at_eval h86
      rw [hL.out, ← hL2.out]; refine wpOp_of_list' rfl ?_
      go_wp2_with fail
      exact hK _ _ rfl (Below.refl _ _)
    | 7, _, hS, hK =>
      rw [d7] at hK
      obtain ⟨v87, h87, f87⟩ := hS.got 6 (q := .boolF true) rfl (by kernel_rfl) d6
      obtain rfl : v87 = .bool true := f87
      have e87 := at_eval h87
      rw [hL.out, ← hL2.out]; refine wpOp_of_list' rfl ?_
      go_wp2_with fail
      exact hK _ _ rfl (Below.refl _ _)
    | 8, _, hS, hK =>
      rw [d8] at hK
      obtain ⟨v88, h88, f88⟩ := hS.got 7 (q := .boolF true) rfl (by kernel_rfl) d7
      obtain rfl : v88 = .bool true := f88
      have e88 := at_eval h88
      have h12 := hS.slot (by kernel_rfl) p12
      have e12 := at_eval h12
      obtain ⟨o12, c12, ⟨b0, b1, b2, b3, b4⟩, hfq⟩ := (B12.out.below hS.below).cells
      rw [hL.out, ← hL2.out]; refine wpOp_of_list' rfl ?_
      go_wp2_with fail
      exact hK _ _ hfq (Below.refl _ _)
    | 9, _, hS, hK =>
      rw [d9] at hK
      obtain ⟨v88, h88, f88⟩ := hS.got 7 (q := .boolF true) rfl (by kernel_rfl) d7
      obtain rfl : v88 = .bool true := f88
      have e88 := at_eval h88
      have h5 := hS.slot (by kernel_rfl) p5
      have e5 := at_eval h5
      obtain ⟨o5, c5, ⟨b0, b1, b2, b3, b4⟩, hfq⟩ := (B5.out.below hS.below).cells
      rw [hL.out, ← hL2.out]; refine wpOp_of_list' rfl ?_
      go_wp2_with fail
      exact hK _ _ hfq (Below.refl _ _)
    | 10, _, hS, hK =>
      rw [d10] at hK
      obtain ⟨v88, h88, f88⟩ := hS.got 7 (q := .boolF true) rfl (by kernel_rfl) d7
      obtain rfl : v88 = .bool true := f88
      have e88 := at_eval h88
      obtain ⟨v89, h89, f89⟩ := hS.got 8 (q := .fmF (fg)) rfl (by kernel_rfl) d8
      have e89 := at_eval h89
      obtain ⟨v90, h90, f90⟩ := hS.got 9 (q := .fmF (h)) rfl (by kernel_rfl) d9
      have e90 := at_eval h90
      obtain ⟨o89, c89, rfl, hf89, ha89⟩ := fq_open f89
      obtain ⟨o90, c90, rfl, hf90, ha90⟩ := fq_open f90
      rw [hL.out, ← hL2.out]; refine wpOp_of_list' rfl ?_
      go_wp2_with fail
      exact hK _ _ (fms_new2 hf89 hf90 ha89 ha90) (below_box _ _)
    | 11, _, hS, hK =>
      rw [d11] at hK
      obtain ⟨v88, h88, f88⟩ := hS.got 7 (q := .boolF true) rfl (by kernel_rfl) d7
      obtain rfl : v88 = .bool true := f88
      have e88 := at_eval h88
      obtain ⟨v91, h91, f91⟩ := hS.got 10 (q := .fmsF [fg, h]) rfl (by kernel_rfl) d10
      have e91 := at_eval h91
      rw [hL.out, ← hL2.out]; refine wpOp_of_list' rfl ?_
      go_wp2_with fail
      refine (or_any (fun b => b < W.heap.size ∧ True) [fg, h] _ W hEW f91 (fun b hb => hb.1) (by simp only [Fm.nodesL_cons, Fm.nodesL_nil]; omega)).mono ?_
      rintro e W2 ⟨r, rfl, hN, hb⟩
      rw [e2.out] at hN
      go_wp2_with fail
      exact hK _ _ (fm_got (Ok := fun _ => True) hN hb (fun _ _ => trivial)) hb
    | 12, _, hS, hK =>
      rw [d12] at hK
      obtain ⟨v88, h88, f88⟩ := hS.got 7 (q := .boolF true) rfl (by kernel_rfl) d7
      obtain rfl : v88 = .bool true := f88
      have e88 := at_eval h88
      have h3 := hS.slot (by kernel_rfl) p3
      have e3 := at_eval h3
      obtain ⟨o3, c3, ⟨b0, b1, b2, b3, b4⟩, hfq⟩ := (B3.out.below hS.below).cells
      rw [hL.out, ← hL2.out]; refine wpOp_of_list' rfl ?_
      go_wp2_with fail
      exact hK _ _ hfq (Below.refl _ _)
    | 13, _, hS, hK =>
      rw [d13] at hK
      obtain ⟨v88, h88, f88⟩ := hS.got 7 (q := .boolF true) rfl (by kernel_rfl) d7
      obtain rfl : v88 = .bool true := f88
      have e88 := at_eval h88
      have h13 := hS.slot (by kernel_rfl) p13
      have e13 := at_eval h13
      obtain ⟨o13, c13, ⟨b0, b1, b2, b3, b4⟩, hfq⟩ := (B13.out.below hS.below).cells
      rw [hL.out, ← hL2.out]; refine wpOp_of_list' rfl ?_
      go_wp2_with fail
      exact hK _ _ hfq (Below.refl _ _)
    | 14, _, hS, hK =>
      rw [d14] at hK
      obtain ⟨v88, h88, f88⟩ := hS.got 7 (q := .boolF true) rfl (by kernel_rfl) d7
      obtain rfl : v88 = .bool true := f88
      have e88 := at_eval h88
      obtain ⟨v93, h93, f93⟩ := hS.got 12 (q := .fmF (f)) rfl (by kernel_rfl) d12
      have e93 := at_eval h93
      obtain ⟨v94, h94, f94⟩ := hS.got 13 (q := .fmF (gh)) rfl (by kernel_rfl) d13
      have e94 := at_eval h94
      obtain ⟨o93, c93, rfl, hf93, ha93⟩ := fq_open f93
      obtain ⟨o94, c94, rfl, hf94, ha94⟩ := fq_open f94
      rw [hL.out, ← hL2.out]; refine wpOp_of_list' rfl ?_
      go_wp2_with fail
      exact hK _ _ (fms_new2 hf93 hf94 ha93 ha94) (below_box _ _)
    | 15, _, hS, hK =>
      rw [d15] at hK
      obtain ⟨v88, h88, f88⟩ := hS.got 7 (q := .boolF true) rfl (by kernel_rfl) d7
      obtain rfl : v88 = .bool true := f88
      have e88 := at_eval h88
      obtain ⟨v95, h95, f95⟩ := hS.got 14 (q := .fmsF [f, gh]) rfl (by kernel_rfl) d14
      have e95 := at_eval h95
      rw [hL.out, ← hL2.out]; refine wpOp_of_list' rfl ?_
      go_wp2_with fail
      refine (or_any (fun b => b < W.heap.size ∧ True) [f, gh] _ W hEW f95 (fun b hb => hb.1) (by simp only [Fm.nodesL_cons, Fm.nodesL_nil]; omega)).mono ?_
      rintro e W2 ⟨r, rfl, hN, hb⟩
      rw [e3.out] at hN
      go_wp2_with fail
      exact hK _ _ (fm_got (Ok := fun _ => True) hN hb (fun _ _ => trivial)) hb
    | 16, _, hS, hK =>
      rw [d16] at hK
      obtain ⟨v88, h88, f88⟩ := hS.got 7 (q := .boolF true) rfl (by kernel_rfl) d7
      obtain rfl : v88 = .bool true := f88
      have e88 := at_eval h88
      obtain ⟨v92, h92, f92⟩ := hS.got 11 (q := .fmF (z)) rfl (by kernel_rfl) d11
      have e92 := at_eval h92
      obtain ⟨v96, h96, f96⟩ := hS.got 15 (q := .fmF (z)) rfl (by kernel_rfl) d15
      have e96 := at_eval h96
      rw [hL.out, ← hL2.out]; refine wpOp_of_list' rfl ?_
      go_wp2_with fail
      refine (compare_any (z) (z) W.heap.size _ _ W (fm_at f92) (fm_at f96) (Nat.le_refl _)).mono ?_
      rintro e W2 ⟨rfl, hb⟩
      rw [cmpF_self]
      go_wp2_with fail
      exact hK _ _ rfl hb
    | 17, _, hS, hK =>
      rw [d17] at hK
      obtain ⟨v88, h88, f88⟩ := hS.got 7 (q := .boolF true) rfl (by kernel_rfl) d7
      obtain rfl : v88 = .bool true := f88
      have e88 := at_eval h88
      obtain ⟨v97, h97, f97⟩ := hS.got 16 (q := .intF (0)) rfl (by kernel_rfl) d16
      obtain rfl : v97 = .int .i64 (0) := f97
      have e97 := at_eval h97
      rw [hL.out, ← hL2.out]; refine wpOp_of_list' rfl ?_
      go_wp2_with fail
      exact hK _ _ rfl (Below.refl _ _)
    | 18, _, hS, hK =>
      rw [d18] at hK
      obtain ⟨v88, h88, f88⟩ := hS.got 7 (q := .boolF true) rfl (by kernel_rfl) d7
      obtain rfl : v88 = .bool true := f88
      have e88 := at_eval h88
      obtain ⟨v98, h98, f98⟩ := hS.got 17 (q := .boolF true) rfl (by kernel_rfl) d17
      obtain rfl : v98 = .bool true := f98
      have e98 := at_eval h98
      rw [hL.out, ← hL2.out]; refine wpOp_of_list' rfl ?_
      go_wp2_with fail
      exact hK _ _ rfl (Below.refl _ _)
    | 19, _, hS, hK =>
      rw [d19] at hK
      obtain ⟨v99, h99, f99⟩ := hS.got 18 (q := .boolF true) rfl (by kernel_rfl) d18
      obtain rfl : v99 = .bool true := f99
      have e99 := at_eval h99
      rw [hL.out, ← hL2.out]; refine wpOp_of_list' rfl ?_
      go_wp2_with fail
      exact hK _ _ rfl (Below.refl _ _)
    | 20, _, hS, hK =>
      rw [d20] at hK
      obtain ⟨v100, h100, f100⟩ := hS.got 19 (q := .boolF true) rfl (by kernel_rfl) d19
      obtain rfl : v100 = .bool true := f100
      have e100 := at_eval h100
      have h3 := hS.slot (by kernel_rfl) p3
      have e3 := at_eval h3
      obtain ⟨o3, c3, ⟨b0, b1, b2, b3, b4⟩, hfq⟩ := (B3.out.below hS.below).cells
      rw [hL.out, ← hL2.out]; refine wpOp_of_list' rfl ?_
      go_wp2_with fail
      exact hK _ _ hfq (Below.refl _ _)
    | 21, _, hS, hK =>
      rw [d21] at hK
      obtain ⟨v100, h100, f100⟩ := hS.got 19 (q := .boolF true) rfl (by kernel_rfl) d19
      obtain rfl : v100 = .bool true := f100
      have e100 := at_eval h100
      have h4 := hS.slot (by kernel_rfl) p4
      have e4 := at_eval h4
      obtain ⟨o4, c4, ⟨b0, b1, b2, b3, b4⟩, hfq⟩ := (B4.out.below hS.below).cells
      rw [hL.out, ← hL2.out]; refine wpOp_of_list' rfl ?_
      go_wp2_with fail
      exact hK _ _ hfq (Below.refl _ _)
    | 22, _, hS, hK =>
      rw [d22] at hK
      obtain ⟨v100, h100, f100⟩ := hS.got 19 (q := .boolF true) rfl (by kernel_rfl) d19
      obtain rfl : v100 = .bool true := f100
      have e100 := at_eval h100
      have h5 := hS.slot (by kernel_rfl) p5
      have e5 := at_eval h5
      obtain ⟨o5, c5, ⟨b0, b1, b2, b3, b4⟩, hfq⟩ := (B5.out.below hS.below).cells
      rw [hL.out, ← hL2.out]; refine wpOp_of_list' rfl ?_
      go_wp2_with fail
      exact hK _ _ hfq (Below.refl _ _)
    | 23, _, hS, hK =>
      rw [d23] at hK
      obtain ⟨v100, h100, f100⟩ := hS.got 19 (q := .boolF true) rfl (by kernel_rfl) d19
      obtain rfl : v100 = .bool true := f100
      have e100 := at_eval h100
      obtain ⟨v101, h101, f101⟩ := hS.got 20 (q := .fmF (f)) rfl (by kernel_rfl) d20
      have e101 := at_eval h101
      obtain ⟨v102, h102, f102⟩ := hS.got 21 (q := .fmF (g)) rfl (by kernel_rfl) d21
      have e102 := at_eval h102
      obtain ⟨v103, h103, f103⟩ := hS.got 22 (q := .fmF (h)) rfl (by kernel_rfl) d22
      have e103 := at_eval h103
      obtain ⟨o101, c101, rfl, hf101, ha101⟩ := fq_open f101
      obtain ⟨o102, c102, rfl, hf102, ha102⟩ := fq_open f102
      obtain ⟨o103, c103, rfl, hf103, ha103⟩ := fq_open f103
      rw [hL.out, ← hL2.out]; refine wpOp_of_list' rfl ?_
      go_wp2_with fail
      exact hK _ _ (fms_new3 hf101 hf102 hf103 ha101 ha102 ha103) (below_box _ _)
    | 24, _, hS, hK =>
      rw [d24] at hK
      obtain ⟨v100, h100, f100⟩ := hS.got 19 (q := .boolF true) rfl (by kernel_rfl) d19
      obtain rfl : v100 = .bool true := f100
      have e100 := at_eval h100
      obtain ⟨v104, h104, f104⟩ := hS.got 23 (q := .fmsF [f, g, h]) rfl (by kernel_rfl) d23
      have e104 := at_eval h104
      rw [hL.out, ← hL2.out]; refine wpOp_of_list' rfl ?_
      go_wp2_with fail
      refine (or_any (fun b => b < W.heap.size ∧ True) [f, g, h] _ W hEW f104 (fun b hb => hb.1) (by simp only [Fm.nodesL_cons, Fm.nodesL_nil]; omega)).mono ?_
      rintro e W2 ⟨r, rfl, hN, hb⟩
      rw [e4.out] at hN
      go_wp2_with fail
      exact hK _ _ (fm_got (Ok := fun _ => True) hN hb (fun _ _ => trivial)) hb
    | 25, _, hS, hK =>
      rw [d25] at hK
      obtain ⟨v100, h100, f100⟩ := hS.got 19 (q := .boolF true) rfl (by kernel_rfl) d19
      obtain rfl : v100 = .bool true := f100
      have e100 := at_eval h100
      have h12 := hS.slot (by kernel_rfl) p12
      have e12 := at_eval h12
      obtain ⟨o12, c12, ⟨b0, b1, b2, b3, b4⟩, hfq⟩ := (B12.out.below hS.below).cells
      rw [hL.out, ← hL2.out]; refine wpOp_of_list' rfl ?_
      go_wp2_with fail
      exact hK _ _ hfq (Below.refl _ _)
    | 26, _, hS, hK =>
      rw [d26] at hK
      obtain ⟨v100, h100, f100⟩ := hS.got 19 (q := .boolF true) rfl (by kernel_rfl) d19
      obtain rfl : v100 = .bool true := f100
      have e100 := at_eval h100
      have h5 := hS.slot (by kernel_rfl) p5
      have e5 := at_eval h5
      obtain ⟨o5, c5, ⟨b0, b1, b2, b3, b4⟩, hfq⟩ := (B5.out.below hS.below).cells
      rw [hL.out, ← hL2.out]; refine wpOp_of_list' rfl ?_
      go_wp2_with fail
      exact hK _ _ hfq (Below.refl _ _)
    | 27, _, hS, hK =>
      rw [d27] at hK
      obtain ⟨v100, h100, f100⟩ := hS.got 19 (q := .boolF true) rfl (by kernel_rfl) d19
      obtain rfl : v100 = .bool true := f100
      have e100 := at_eval h100
      obtain ⟨v106, h106, f106⟩ := hS.got 25 (q := .fmF (fg)) rfl (by kernel_rfl) d25
      have e106 := at_eval h106
      obtain ⟨v107, h107, f107⟩ := hS.got 26 (q := .fmF (h)) rfl (by kernel_rfl) d26
      have e107 := at_eval h107
      obtain ⟨o106, c106, rfl, hf106, ha106⟩ := fq_open f106
      obtain ⟨o107, c107, rfl, hf107, ha107⟩ := fq_open f107
      rw [hL.out, ← hL2.out]; refine wpOp_of_list' rfl ?_
      go_wp2_with fail
      exact hK _ _ (fms_new2 hf106 hf107 ha106 ha107) (below_box _ _)
    | 28, _, hS, hK =>
      rw [d28] at hK
      obtain ⟨v100, h100, f100⟩ := hS.got 19 (q := .boolF true) rfl (by kernel_rfl) d19
      obtain rfl : v100 = .bool true := f100
      have e100 := at_eval h100
      obtain ⟨v108, h108, f108⟩ := hS.got 27 (q := .fmsF [fg, h]) rfl (by kernel_rfl) d27
      have e108 := at_eval h108
      rw [hL.out, ← hL2.out]; refine wpOp_of_list' rfl ?_
      go_wp2_with fail
      refine (or_any (fun b => b < W.heap.size ∧ True) [fg, h] _ W hEW f108 (fun b hb => hb.1) (by simp only [Fm.nodesL_cons, Fm.nodesL_nil]; omega)).mono ?_
      rintro e W2 ⟨r, rfl, hN, hb⟩
      rw [e2.out] at hN
      go_wp2_with fail
      exact hK _ _ (fm_got (Ok := fun _ => True) hN hb (fun _ _ => trivial)) hb
    | 29, _, hS, hK =>
      rw [d29] at hK
      obtain ⟨v100, h100, f100⟩ := hS.got 19 (q := .boolF true) rfl (by kernel_rfl) d19
      obtain rfl : v100 = .bool true := f100
      have e100 := at_eval h100
      obtain ⟨v105, h105, f105⟩ := hS.got 24 (q := .fmF (z)) rfl (by kernel_rfl) d24
      have e105 := at_eval h105
      obtain ⟨v109, h109, f109⟩ := hS.got 28 (q := .fmF (z)) rfl (by kernel_rfl) d28
      have e109 := at_eval h109
      rw [hL.out, ← hL2.out]; refine wpOp_of_list' rfl ?_
      go_wp2_with fail
      refine (compare_any (z) (z) W.heap.size _ _ W (fm_at f105) (fm_at f109) (Nat.le_refl _)).mono ?_
      rintro e W2 ⟨rfl, hb⟩
      rw [cmpF_self]
      go_wp2_with fail
      exact hK _ _ rfl hb
    | 30, _, hS, hK =>
      rw [d30] at hK
      obtain ⟨v100, h100, f100⟩ := hS.got 19 (q := .boolF true) rfl (by kernel_rfl) d19
      obtain rfl : v100 = .bool true := f100
      have e100 := at_eval h100
      obtain ⟨v110, h110, f110⟩ := hS.got 29 (q := .intF (0)) rfl (by kernel_rfl) d29
      obtain rfl : v110 = .int .i64 (0) := f110
      have e110 := at_eval h110
      rw [hL.out, ← hL2.out]; refine wpOp_of_list' rfl ?_
      go_wp2_with fail
      exact hK _ _ rfl (Below.refl _ _)
    | 31, _, hS, hK =>
      rw [d31] at hK
      obtain ⟨v100, h100, f100⟩ := hS.got 19 (q := .boolF true) rfl (by kernel_rfl) d19
      obtain rfl : v100 = .bool true := f100
      have e100 := at_eval h100
      obtain ⟨v111, h111, f111⟩ := hS.got 30 (q := .boolF true) rfl (by kernel_rfl) d30
      obtain rfl : v111 = .bool true := f111
      have e111 := at_eval h111
      rw [hL.out, ← hL2.out]; refine wpOp_of_list' rfl ?_
      go_wp2_with fail
      exact hK _ _ rfl (Below.refl _ _)
    | 32, _, hS, hK =>
      rw [d32] at hK
      obtain ⟨v112, h112, f112⟩ := hS.got 31 (q := .boolF true) rfl (by kernel_rfl) d31
      obtain rfl : v112 = .bool true := f112
      have e112 := at_eval h112
      rw [hL.out, ← hL2.out]; refine wpOp_of_list' rfl ?_
      go_wp2_with fail
      exact hK _ _ rfl (Below.refl _ _)
    | n + 33, hi, _, _ => exact absurd hi (by rw [hsz]; omega)
  · intro x W hB hx
    have y5 : x 5 = .int .i64 (0) := hx 5 86 (by rw [hsz]; omega) d5
    have y6 : x 6 = .bool true := hx 6 87 (by rw [hsz]; omega) d6
    have y7 : x 7 = .bool true := hx 7 88 (by rw [hsz]; omega) d7
    have y16 : x 16 = .int .i64 (0) := hx 16 97 (by rw [hsz]; omega) d16
    have y17 : x 17 = .bool true := hx 17 98 (by rw [hsz]; omega) d17
    have y18 : x 18 = .bool true := hx 18 99 (by rw [hsz]; omega) d18
    have y19 : x 19 = .bool true := hx 19 100 (by rw [hsz]; omega) d19
    have y29 : x 29 = .int .i64 (0) := hx 29 110 (by rw [hsz]; omega) d29
    have y30 : x 30 = .bool true := hx 30 111 (by rw [hsz]; omega) d30
    have y31 : x 31 = .bool true := hx 31 112 (by rw [hsz]; omega) d31
    have y32 : x 32 = .bool true := hx 32 14 (by rw [hsz]; omega) d32
    have hl := hend x W hB
    have hr : List.range (opsAt Tryz.f10 10).size = [0, 1, 2, 3, 4, 5, 6, 7, 8, 9, 10, 11, 12, 13, 14, 15, 16, 17, 18, 19, 20, 21, 22, 23, 24, 25, 26, 27, 28, 29, 30, 31, 32] := by rw [hsz]; rfl
    rw [hr]
    simp only [putL, d0, d1, d2, d3, d4, d5, d6, d7, d8, d9, d10, d11, d12, d13, d14, d15, d16, d17, d18, d19, d20, d21, d22, d23, d24, d25, d26, d27, d28, d29, d30, d31, d32]
    simp only [y5, y6, y7, y16, y17, y18, y19, y29, y30, y31, y32]
    exact hl
end Go.Proofs.YtlkoacopknolnaaGreatDoor
