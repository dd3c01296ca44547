/-
  The drawn region of FormulaLattice, FjL.
-/
import Derived.Test.YtlkoacopknolnaaGreatDoorFjB
import Derived.Test.YtlkoacopknolnaaGreatDoorGi
import Derived.Test.YtlkoacopknolnaaGreatDoorFiS
namespace Go.Proofs.YtlkoacopknolnaaGreatDoor
open Go.RowKit

set_option maxRecDepth 100000 in
set_option maxHeartbeats 8000000 in
theorem lata_r7 {f g h fg gh z : Fm} {k3 k4 k5 k9 k10 : Nat} (a0 : Act) (W0 : World) (Q : Exit → Act → World → Prop) (hE : Env W0) (hz : a0.tmps.size = 183) (p3 : a0.tmps[(3 : Nat)]? = some (.pointer (some ⟨k3, 0, none⟩))) (p4 : a0.tmps[(4 : Nat)]? = some (.pointer (some ⟨k4, 0, none⟩))) (p5 : a0.tmps[(5 : Nat)]? = some (.pointer (some ⟨k5, 0, none⟩))) (p9 : a0.tmps[(9 : Nat)]? = some (.pointer (some ⟨k9, 0, none⟩))) (p10 : a0.tmps[(10 : Nat)]? = some (.pointer (some ⟨k10, 0, none⟩))) (B3 : Hid (Bx W0 k3 (f))) (B4 : Hid (Bx W0 k4 (g))) (B5 : Hid (Bx W0 k5 (h))) (B9 : Hid (Bx W0 k9 (fg))) (B10 : Hid (Bx W0 k10 (gh))) (e1 : Hid (combineF 5 [g, f] = fg)) (e2 : Hid (combineF 5 [fg, h] = z)) (e3 : Hid (combineF 5 [f, gh] = z)) (e4 : Hid (combineF 5 [f, g, h] = z)) (n1 : f.nodes ≤ 1000) (n2 : g.nodes ≤ 1000) (n3 : h.nodes ≤ 1000) (n4 : fg.nodes ≤ 1000) (n5 : gh.nodes ≤ 1000)
    (hend : ∀ (x : Nat → Value) (W : World), Below W0.heap.size W0 W → Q .normal (((((((((((((((((((((((((((((((((a0.put (some 41) (x 0)).put (some 42) (x 1)).put (some 43) (x 2)).put (some 44) (x 3)).put (some 45) (x 4)).put (some 46) (.int .i64 (0))).put (some 47) (.bool true)).put (some 48) (.bool true)).put (some 49) (x 8)).put (some 50) (x 9)).put (some 51) (x 10)).put (some 52) (x 11)).put (some 53) (x 12)).put (some 54) (x 13)).put (some 55) (x 14)).put (some 56) (x 15)).put (some 57) (.int .i64 (0))).put (some 58) (.bool true)).put (some 59) (.bool true)).put (some 60) (.bool true)).put (some 61) (x 20)).put (some 62) (x 21)).put (some 63) (x 22)).put (some 64) (x 23)).put (some 65) (x 24)).put (some 66) (x 25)).put (some 67) (x 26)).put (some 68) (x 27)).put (some 69) (x 28)).put (some 70) (.int .i64 (0))).put (some 71) (.bool true)).put (some 72) (.bool true)).put (some 11) (.bool true)) W) :
    (Code.region 7 (opsAt Tryz.f10 7) true).wp Tryz.prog Q a0 W0 := by
  have d0 : dstOf (opsAt Tryz.f10 7) 0 = some 41 := by kernel_rfl
  have d1 : dstOf (opsAt Tryz.f10 7) 1 = some 42 := by kernel_rfl
  have d2 : dstOf (opsAt Tryz.f10 7) 2 = some 43 := by kernel_rfl
  have d3 : dstOf (opsAt Tryz.f10 7) 3 = some 44 := by kernel_rfl
  have d4 : dstOf (opsAt Tryz.f10 7) 4 = some 45 := by kernel_rfl
  have d5 : dstOf (opsAt Tryz.f10 7) 5 = some 46 := by kernel_rfl
  have d6 : dstOf (opsAt Tryz.f10 7) 6 = some 47 := by kernel_rfl
  have d7 : dstOf (opsAt Tryz.f10 7) 7 = some 48 := by kernel_rfl
  have d8 : dstOf (opsAt Tryz.f10 7) 8 = some 49 := by kernel_rfl
  have d9 : dstOf (opsAt Tryz.f10 7) 9 = some 50 := by kernel_rfl
  have d10 : dstOf (opsAt Tryz.f10 7) 10 = some 51 := by kernel_rfl
  have d11 : dstOf (opsAt Tryz.f10 7) 11 = some 52 := by kernel_rfl
  have d12 : dstOf (opsAt Tryz.f10 7) 12 = some 53 := by kernel_rfl
  have d13 : dstOf (opsAt Tryz.f10 7) 13 = some 54 := by kernel_rfl
  have d14 : dstOf (opsAt Tryz.f10 7) 14 = some 55 := by kernel_rfl
  have d15 : dstOf (opsAt Tryz.f10 7) 15 = some 56 := by kernel_rfl
  have d16 : dstOf (opsAt Tryz.f10 7) 16 = some 57 := by kernel_rfl
  have d17 : dstOf (opsAt Tryz.f10 7) 17 = some 58 := by kernel_rfl
  have d18 : dstOf (opsAt Tryz.f10 7) 18 = some 59 := by kernel_rfl
  have d19 : dstOf (opsAt Tryz.f10 7) 19 = some 60 := by kernel_rfl
  have d20 : dstOf (opsAt Tryz.f10 7) 20 = some 61 := by kernel_rfl
  have d21 : dstOf (opsAt Tryz.f10 7) 21 = some 62 := by kernel_rfl
  have d22 : dstOf (opsAt Tryz.f10 7) 22 = some 63 := by kernel_rfl
  have d23 : dstOf (opsAt Tryz.f10 7) 23 = some 64 := by kernel_rfl
  have d24 : dstOf (opsAt Tryz.f10 7) 24 = some 65 := by kernel_rfl
  have d25 : dstOf (opsAt Tryz.f10 7) 25 = some 66 := by kernel_rfl
  have d26 : dstOf (opsAt Tryz.f10 7) 26 = some 67 := by kernel_rfl
  have d27 : dstOf (opsAt Tryz.f10 7) 27 = some 68 := by kernel_rfl
  have d28 : dstOf (opsAt Tryz.f10 7) 28 = some 69 := by kernel_rfl
  have d29 : dstOf (opsAt Tryz.f10 7) 29 = some 70 := by kernel_rfl
  have d30 : dstOf (opsAt Tryz.f10 7) 30 = some 71 := by kernel_rfl
  have d31 : dstOf (opsAt Tryz.f10 7) 31 = some 72 := by kernel_rfl
  have d32 : dstOf (opsAt Tryz.f10 7) 32 = some 11 := by kernel_rfl
  have hsz : (opsAt Tryz.f10 7).size = 33 := by kernel_rfl
  obtain ⟨L, hL⟩ : ∃ L, Hid ((opsAt Tryz.f10 7) = L) := ⟨_, hidi rfl⟩
  have hL2 := hL.out
  unfold opsAt Tryz.f10 at hL2
  simp only [findRegion, Nat.reduceBEq, if_true, if_false, Bool.false_eq_true, Option.getD_some] at hL2
  replace hL2 := hidi hL2
  refine wp_region_facts (by kernel_rfl) (by kernel_rfl) (by kernel_rfl) (by rw [hz]; kernel_rfl) (by kernel_rfl) (fun i => match i with
      | 0 => .fmF (fg)
      | 1 => .fmF (g)
      | 2 => .fmF (f)
      | 3 => .fmsF [g, f]
      | 4 => .fmF (fg)
      | 5 => .intF (0)
      | 6 => .boolF true
      | 7 => .boolF true
      | 8 => .fmF (fg)
      | 9 => .fmF (h)
      | 10 => .fmsF [fg, h]
      | 11 => .fmF (z)
      | 12 => .fmF (f)
      | 13 => .fmF (gh)
      | 14 => .fmsF [f, gh]
      | 15 => .fmF (z)
      | 16 => .intF (0)
      | 17 => .boolF true
      | 18 => .boolF true
      | 19 => .boolF true
      | 20 => .fmF (f)
      | 21 => .fmF (g)
      | 22 => .fmF (h)
      | 23 => .fmsF [f, g, h]
      | 24 => .fmF (z)
      | 25 => .fmF (fg)
      | 26 => .fmF (h)
      | 27 => .fmsF [fg, h]
      | 28 => .fmF (z)
      | 29 => .intF (0)
      | 30 => .boolF true
      | 31 => .boolF true
      | 32 => .boolF true
      | _ => .free) ?_ ?_
  · intro i a W K hi hS hK
    have hEW := hE.below hS.below
    match i, hi, hS, hK with
    | 0, _, hS, hK =>
      rw [d0] at hK
      have h9 := hS.slot (by kernel_rfl) p9
      have e9 := at_eval h9
      obtain ⟨o9, c9, ⟨b0, b1, b2, b3, b4⟩, hfq⟩ := (B9.out.below hS.below).cells
      rw [hL.out, ← hL2.out]; refine wpOp_of_list' rfl ?_
      go_wp2_with fail
      exact hK _ _ hfq (Below.refl _ _)
    | 1, _, hS, hK =>
      rw [d1] at hK
      have h4 := hS.slot (by kernel_rfl) p4
      have e4 := at_eval h4
      obtain ⟨o4, c4, ⟨b0, b1, b2, b3, b4⟩, hfq⟩ := (B4.out.below hS.below).cells
      rw [hL.out, ← hL2.out]; refine wpOp_of_list' rfl ?_
      go_wp2_with fail
      exact hK _ _ hfq (Below.refl _ _)
    | 2, _, hS, hK =>
      rw [d2] at hK
      have h3 := hS.slot (by kernel_rfl) p3
      have e3 := at_eval h3
      obtain ⟨o3, c3, ⟨b0, b1, b2, b3, b4⟩, hfq⟩ := (B3.out.below hS.below).cells
      rw [hL.out, ← hL2.out]; refine wpOp_of_list' rfl ?_
      go_wp2_with fail
      exact hK _ _ hfq (Below.refl _ _)
    | 3, _, hS, hK =>
      rw [d3] at hK
      obtain ⟨v42, h42, f42⟩ := hS.got 1 (q := .fmF (g)) rfl (by kernel_rfl) d1
      have e42 := at_eval h42
      obtain ⟨v43, h43, f43⟩ := hS.got 2 (q := .fmF (f)) rfl (by kernel_rfl) d2
      have e43 := at_eval h43
      obtain ⟨o42, c42, rfl, hf42, ha42⟩ := fq_open f42
      obtain ⟨o43, c43, rfl, hf43, ha43⟩ := fq_open f43
      rw [hL.out, ← hL2.out]; refine wpOp_of_list' rfl ?_
      go_wp2_with fail
      exact hK _ _ (fms_new2 hf42 hf43 ha42 ha43) (below_box _ _)
    | 4, _, hS, hK =>
      rw [d4] at hK
      obtain ⟨v44, h44, f44⟩ := hS.got 3 (q := .fmsF [g, f]) rfl (by kernel_rfl) d3
      have e44 := at_eval h44
      rw [hL.out, ← hL2.out]; refine wpOp_of_list' rfl ?_
      go_wp2_with fail
      refine (and_any (fun b => b < W.heap.size ∧ True) [g, f] _ W hEW f44 (fun b hb => hb.1) (by simp only [Fm.nodesL_cons, Fm.nodesL_nil]; omega)).mono ?_
      rintro e W2 ⟨r, rfl, hN, hb⟩
      rw [e1.out] at hN
      go_wp2_with fail
      exact hK _ _ (fm_got (Ok := fun _ => True) hN hb (fun _ _ => trivial)) hb
    | 5, _, hS, hK =>
      rw [d5] at hK
      obtain ⟨v41, h41, f41⟩ := hS.got 0 (q := .fmF (fg)) rfl (by kernel_rfl) d0
      have e41 := at_eval h41
      obtain ⟨v45, h45, f45⟩ := hS.got 4 (q := .fmF (fg)) rfl (by kernel_rfl) d4
      have e45 := at_eval h45
      rw [hL.out, ← hL2.out]; refine wpOp_of_list' rfl ?_
      go_wp2_with fail
      refine (compare_any (fg) (fg) W.heap.size _ _ W (fm_at f41) (fm_at f45) (Nat.le_refl _)).mono ?_
      rintro e W2 ⟨rfl, hb⟩
      rw [cmpF_self]
      go_wp2_with fail
      exact hK _ _ rfl hb
    | 6, _, hS, hK =>
      rw [d6] at hK
      obtain ⟨v46, h46, f46⟩ := hS.got 5 (q := .intF (0)) rfl (by kernel_rfl) d5
      obtain rfl : v46 = .int .i64 (0) := f46
      have e46 := at_eval h46
      rw [hL.out, ← hL2.out]; refine wpOp_of_list' rfl ?_
      go_wp2_with fail
      exact hK _ _ rfl (Below.refl _ _)
    | 7, _, hS, hK =>
      rw [d7] at hK
      obtain ⟨v47, h47, f47⟩ := hS.got 6 (q := .boolF true) rfl (by kernel_rfl) d6
      obtain rfl : v47 = .bool true := f47
      have e47 := at_eval h47
      rw [hL.out, ← hL2.out]; refine wpOp_of_list' rfl ?_
      go_wp2_with fail
      exact hK _ _ rfl (Below.refl _ _)
    | 8, _, hS, hK =>
      rw [d8] at hK
      obtain ⟨v48, h48, f48⟩ := hS.got 7 (q := .boolF true) rfl (by kernel_rfl) d7
      obtain rfl : v48 = .bool true := f48
      have e48 := at_eval h48
      have h9 := hS.slot (by kernel_rfl) p9
      have e9 := at_eval h9
      obtain ⟨o9, c9, ⟨b0, b1, b2, b3, b4⟩, hfq⟩ := (B9.out.below hS.below).cells
      rw [hL.out, ← hL2.out]; refine wpOp_of_list' rfl ?_
      go_wp2_with fail
      exact hK _ _ hfq (Below.refl _ _)
    | 9, _, hS, hK =>
      rw [d9] at hK
      obtain ⟨v48, h48, f48⟩ := hS.got 7 (q := .boolF true) rfl (by kernel_rfl) d7
      obtain rfl : v48 = .bool true := f48
      have e48 := at_eval h48
      have h5 := hS.slot (by kernel_rfl) p5
      have e5 := at_eval h5
      obtain ⟨o5, c5, ⟨b0, b1, b2, b3, b4⟩, hfq⟩ := (B5.out.below hS.below).cells
      rw [hL.out, ← hL2.out]; refine wpOp_of_list' rfl ?_
      go_wp2_with fail
      exact hK _ _ hfq (Below.refl _ _)
    | 10, _, hS, hK =>
      rw [d10] at hK
      obtain ⟨v48, h48, f48⟩ := hS.got 7 (q := .boolF true) rfl (by kernel_rfl) d7
      obtain rfl : v48 = .bool true := f48
      have e48 := at_eval h48
      obtain ⟨v49, h49, f49⟩ := hS.got 8 (q := .fmF (fg)) rfl (by kernel_rfl) d8
      have e49 := at_eval h49
      obtain ⟨v50, h50, f50⟩ := hS.got 9 (q := .fmF (h)) rfl (by kernel_rfl) d9
      have e50 := at_eval h50
      obtain ⟨o49, c49, rfl, hf49, ha49⟩ := fq_open f49
      obtain ⟨o50, c50, rfl, hf50, ha50⟩ := fq_open f50
      rw [hL.out, ← hL2.out]; refine wpOp_of_list' rfl ?_
      go_wp2_with fail
      exact hK _ _ (fms_new2 hf49 hf50 ha49 ha50) (below_box _ _)
    | 11, _, hS, hK =>
      rw [d11] at hK
      obtain ⟨v48, h48, f48⟩ := hS.got 7 (q := .boolF true) rfl (by kernel_rfl) d7
      obtain rfl : v48 = .bool true := f48
      have e48 := at_eval h48
      obtain ⟨v51, h51, f51⟩ := hS.got 10 (q := .fmsF [fg, h]) rfl (by kernel_rfl) d10
      have e51 := at_eval h51
      rw [hL.out, ← hL2.out]; refine wpOp_of_list' rfl ?_
      go_wp2_with fail
      refine (and_any (fun b => b < W.heap.size ∧ True) [fg, h] _ W hEW f51 (fun b hb => hb.1) (by simp only [Fm.nodesL_cons, Fm.nodesL_nil]; omega)).mono ?_
      rintro e W2 ⟨r, rfl, hN, hb⟩
      rw [e2.out] at hN
      go_wp2_with fail
      exact hK _ _ (fm_got (Ok := fun _ => True) hN hb (fun _ _ => trivial)) hb
    | 12, _, hS, hK =>
      rw [d12] at hK
      obtain ⟨v48, h48, f48⟩ := hS.got 7 (q := .boolF true) rfl (by kernel_rfl) d7
      obtain rfl : v48 = .bool true := f48
      have e48 := at_eval h48
      have h3 := hS.slot (by kernel_rfl) p3
      have e3 := at_eval h3
      obtain ⟨o3, c3, ⟨b0, b1, b2, b3, b4⟩, hfq⟩ := (B3.out.below hS.below).cells
      rw [hL.out, ← hL2.out]; refine wpOp_of_list' rfl ?_
      go_wp2_with fail
      exact hK _ _ hfq (Below.refl _ _)
    | 13, _, hS, hK =>
      rw [d13] at hK
      obtain ⟨v48, h48, f48⟩ := hS.got 7 (q := .boolF true) rfl (by kernel_rfl) d7
      obtain rfl : v48 = .bool true := f48
      have e48 := at_eval h48
      have h10 := hS.slot (by kernel_rfl) p10
      have e10 := at_eval h10
      obtain ⟨o10, c10, ⟨b0, b1, b2, b3, b4⟩, hfq⟩ := (B10.out.below hS.below).cells
      rw [hL.out, ← hL2.out]; refine wpOp_of_list' rfl ?_
      go_wp2_with fail
      exact hK _ _ hfq (Below.refl _ _)
    | 14, _, hS, hK =>
      rw [d14] at hK
      obtain ⟨v48, h48, f48⟩ := hS.got 7 (q := .boolF true) rfl (by kernel_rfl) d7
      obtain rfl : v48 = .bool true := f48
      have e48 := at_eval h48
      obtain ⟨v53, h53, f53⟩ := hS.got 12 (q := .fmF (f)) rfl (by kernel_rfl) d12
      have e53 := at_eval h53
      obtain ⟨v54, h54, f54⟩ := hS.got 13 (q := .fmF (gh)) rfl (by kernel_rfl) d13
      have e54 := at_eval h54
      obtain ⟨o53, c53, rfl, hf53, ha53⟩ := fq_open f53
      obtain ⟨o54, c54, rfl, hf54, ha54⟩ := fq_open f54
      rw [hL.out, ← hL2.out]; refine wpOp_of_list' rfl ?_
      go_wp2_with fail
      exact hK _ _ (fms_new2 hf53 hf54 ha53 ha54) (below_box _ _)
    | 15, _, hS, hK =>
      rw [d15] at hK
      obtain ⟨v48, h48, f48⟩ := hS.got 7 (q := .boolF true) rfl (by kernel_rfl) d7
      obtain rfl : v48 = .bool true := f48
      have e48 := at_eval h48
      obtain ⟨v55, h55, f55⟩ := hS.got 14 (q := .fmsF [f, gh]) rfl (by kernel_rfl) d14
      have e55 := at_eval h55
      rw [hL.out, ← hL2.out]; refine wpOp_of_list' rfl ?_
      go_wp2_with fail
      refine (and_any (fun b => b < W.heap.size ∧ True) [f, gh] _ W hEW f55 (fun b hb => hb.1) (by simp only [Fm.nodesL_cons, Fm.nodesL_nil]; omega)).mono ?_
      rintro e W2 ⟨r, rfl, hN, hb⟩
      rw [e3.out] at hN
      go_wp2_with fail
      exact hK _ _ (fm_got (Ok := fun _ => True) hN hb (fun _ _ => trivial)) hb
    | 16, _, hS, hK =>
      rw [d16] at hK
      obtain ⟨v48, h48, f48⟩ := hS.got 7 (q := .boolF true) rfl (by kernel_rfl) d7
      obtain rfl : v48 = .bool true := f48
      have e48 := at_eval h48
      obtain ⟨v52, h52, f52⟩ := hS.got 11 (q := .fmF (z)) rfl (by kernel_rfl) d11
      have e52 := at_eval h52
      obtain ⟨v56, h56, f56⟩ := hS.got 15 (q := .fmF (z)) rfl (by kernel_rfl) d15
      have e56 := at_eval h56
      rw [hL.out, ← hL2.out]; refine wpOp_of_list' rfl ?_
      go_wp2_with fail
      refine (compare_any (z) (z) W.heap.size _ _ W (fm_at f52) (fm_at f56) (Nat.le_refl _)).mono ?_
      rintro e W2 ⟨rfl, hb⟩
      rw [cmpF_self]
      go_wp2_with fail
      exact hK _ _ rfl hb
    | 17, _, hS, hK =>
      rw [d17] at hK
      obtain ⟨v48, h48, f48⟩ := hS.got 7 (q := .boolF true) rfl (by kernel_rfl) d7
      obtain rfl : v48 = .bool true := f48
      have e48 := at_eval h48
      obtain ⟨v57, h57, f57⟩ := hS.got 16 (q := .intF (0)) rfl (by kernel_rfl) d16
      obtain rfl : v57 = .int .i64 (0) := f57
      have e57 := at_eval h57
      rw [hL.out, ← hL2.out]; refine wpOp_of_list' rfl ?_
      go_wp2_with fail
      exact hK _ _ rfl (Below.refl _ _)
    | 18, _, hS, hK =>
      rw [d18] at hK
      obtain ⟨v48, h48, f48⟩ := hS.got 7 (q := .boolF true) rfl (by kernel_rfl) d7
      obtain rfl : v48 = .bool true := f48
      have e48 := at_eval h48
      obtain ⟨v58, h58, f58⟩ := hS.got 17 (q := .boolF true) rfl (by kernel_rfl) d17
      obtain rfl : v58 = .bool true := f58
      have e58 := at_eval h58
      rw [hL.out, ← hL2.out]; refine wpOp_of_list' rfl ?_
      go_wp2_with fail
      exact hK _ _ rfl (Below.refl _ _)
    | 19, _, hS, hK =>
      rw [d19] at hK
      obtain ⟨v59, h59, f59⟩ := hS.got 18 (q := .boolF true) rfl (by kernel_rfl) d18
      obtain rfl : v59 = .bool true := f59
      have e59 := at_eval h59
      rw [hL.out, ← hL2.out]; refine wpOp_of_list' rfl ?_
      go_wp2_with fail
      exact hK _ _ rfl (Below.refl _ _)
    | 20, _, hS, hK =>
      rw [d20] at hK
      obtain ⟨v60, h60, f60⟩ := hS.got 19 (q := .boolF true) rfl (by kernel_rfl) d19
      obtain rfl : v60 = .bool true := f60
      have e60 := at_eval h60
      have h3 := hS.slot (by kernel_rfl) p3
      have e3 := at_eval h3
      obtain ⟨o3, c3, ⟨b0, b1, b2, b3, b4⟩, hfq⟩ := (B3.out.below hS.below).cells
      rw [hL.out, ← hL2.out]; refine wpOp_of_list' rfl ?_
      go_wp2_with fail
      exact hK _ _ hfq (Below.refl _ _)
    | 21, _, hS, hK =>
      rw [d21] at hK
      obtain ⟨v60, h60, f60⟩ := hS.got 19 (q := .boolF true) rfl (by kernel_rfl) d19
      obtain rfl : v60 = .bool true := f60
      have e60 := at_eval h60
      have h4 := hS.slot (by kernel_rfl) p4
      have e4 := at_eval h4
      obtain ⟨o4, c4, ⟨b0, b1, b2, b3, b4⟩, hfq⟩ := (B4.out.below hS.below).cells
      rw [hL.out, ← hL2.out]; refine wpOp_of_list' rfl ?_
      go_wp2_with fail
      exact hK _ _ hfq (Below.refl _ _)
    | 22, _, hS, hK =>
      rw [d22] at hK
      obtain ⟨v60, h60, f60⟩ := hS.got 19 (q := .boolF true) rfl (by kernel_rfl) d19
      obtain rfl : v60 = .bool true := f60
      have e60 := at_eval h60
      have h5 := hS.slot (by kernel_rfl) p5
      have e5 := at_eval h5
      obtain ⟨o5, c5, ⟨b0, b1, b2, b3, b4⟩, hfq⟩ := (B5.out.below hS.below).cells
      rw [hL.out, ← hL2.out]; refine wpOp_of_list' rfl ?_
      go_wp2_with fail
      exact hK _ _ hfq (Below.refl _ _)
    | 23, _, hS, hK =>
      rw [d23] at hK
      obtain ⟨v60, h60, f60⟩ := hS.got 19 (q := .boolF true) rfl (by kernel_rfl) d19
      obtain rfl : v60 = .bool true := f60
      have e60 := at_eval h60
      obtain ⟨v61, h61, f61⟩ := hS.got 20 (q := .fmF (f)) rfl (by kernel_rfl) d20
      have e61 := at_eval h61
      obtain ⟨v62, h62, f62⟩ := hS.got 21 (q := .fmF (g)) rfl (by kernel_rfl) d21
      have e62 := at_eval h62
      obtain ⟨v63, h63, f63⟩ := hS.got 22 (q := .fmF (h)) rfl (by kernel_rfl) d22
      have e63 := at_eval h63
      obtain ⟨o61, c61, rfl, hf61, ha61⟩ := fq_open f61
      obtain ⟨o62, c62, rfl, hf62, ha62⟩ := fq_open f62
      obtain ⟨o63, c63, rfl, hf63, ha63⟩ := fq_open f63
      rw [hL.out, ← hL2.out]; refine wpOp_of_list' rfl ?_
      go_wp2_with fail
      exact hK _ _ (fms_new3 hf61 hf62 hf63 ha61 ha62 ha63) (below_box _ _)
    | 24, _, hS, hK =>
      rw [d24] at hK
      obtain ⟨v60, h60, f60⟩ := hS.got 19 (q := .boolF true) rfl (by kernel_rfl) d19
      obtain rfl : v60 = .bool true := f60
      have e60 := at_eval h60
      obtain ⟨v64, h64, f64⟩ := hS.got 23 (q := .fmsF [f, g, h]) rfl (by kernel_rfl) d23
      have e64 := at_eval h64
      rw [hL.out, ← hL2.out]; refine wpOp_of_list' rfl ?_
      go_wp2_with fail
      refine (and_any (fun b => b < W.heap.size ∧ True) [f, g, h] _ W hEW f64 (fun b hb => hb.1) (by simp only [Fm.nodesL_cons, Fm.nodesL_nil]; omega)).mono ?_
      rintro e W2 ⟨r, rfl, hN, hb⟩
      rw [e4.out] at hN
      go_wp2_with fail
      exact hK _ _ (fm_got (Ok := fun _ => True) hN hb (fun _ _ => trivial)) hb
    | 25, _, hS, hK =>
      rw [d25] at hK
      obtain ⟨v60, h60, f60⟩ := hS.got 19 (q := .boolF true) rfl (by kernel_rfl) d19
      obtain rfl : v60 = .bool true := f60
      have e60 := at_eval h60
      have h9 := hS.slot (by kernel_rfl) p9
      have e9 := at_eval h9
      obtain ⟨o9, c9, ⟨b0, b1, b2, b3, b4⟩, hfq⟩ := (B9.out.below hS.below).cells
      rw [hL.out, ← hL2.out]; refine wpOp_of_list' rfl ?_
      go_wp2_with fail
      exact hK _ _ hfq (Below.refl _ _)
    | 26, _, hS, hK =>
      rw [d26] at hK
      obtain ⟨v60, h60, f60⟩ := hS.got 19 (q := .boolF true) rfl (by kernel_rfl) d19
      obtain rfl : v60 = .bool true := f60
      have e60 := at_eval h60
      have h5 := hS.slot (by kernel_rfl) p5
      have e5 := at_eval h5
      obtain ⟨o5, c5, ⟨b0, b1, b2, b3, b4⟩, hfq⟩ := (B5.out.below hS.below).cells
      rw [hL.out, ← hL2.out]; refine wpOp_of_list' rfl ?_
      go_wp2_with fail
      exact hK _ _ hfq (Below.refl _ _)
    | 27, _, hS, hK =>
      rw [d27] at hK
      obtain ⟨v60, h60, f60⟩ := hS.got 19 (q := .boolF true) rfl (by kernel_rfl) d19
      obtain rfl : v60 = .bool true := f60
      have e60 := at_eval h60
      obtain ⟨v66, h66, f66⟩ := hS.got 25 (q := .fmF (fg)) rfl (by kernel_rfl) d25
      have e66 := at_eval h66
      obtain ⟨v67, h67, f67⟩ := hS.got 26 (q := .fmF (h)) rfl (by kernel_rfl) d26
      have e67 := at_eval h67
      obtain ⟨o66, c66, rfl, hf66, ha66⟩ := fq_open f66
      obtain ⟨o67, c67, rfl, hf67, ha67⟩ := fq_open f67
      rw [hL.out, ← hL2.out]; refine wpOp_of_list' rfl ?_
      go_wp2_with fail
      exact hK _ _ (fms_new2 hf66 hf67 ha66 ha67) (below_box _ _)
    | 28, _, hS, hK =>
      rw [d28] at hK
      obtain ⟨v60, h60, f60⟩ := hS.got 19 (q := .boolF true) rfl (by kernel_rfl) d19
      obtain rfl : v60 = .bool true := f60
      have e60 := at_eval h60
      obtain ⟨v68, h68, f68⟩ := hS.got 27 (q := .fmsF [fg, h]) rfl (by kernel_rfl) d27
      have e68 := at_eval h68
      rw [hL.out, ← hL2.out]; refine wpOp_of_list' rfl ?_
      go_wp2_with fail
      refine (and_any (fun b => b < W.heap.size ∧ True) [fg, h] _ W hEW f68 (fun b hb => hb.1) (by simp only [Fm.nodesL_cons, Fm.nodesL_nil]; omega)).mono ?_
      rintro e W2 ⟨r, rfl, hN, hb⟩
      rw [e2.out] at hN
      go_wp2_with fail
      exact hK _ _ (fm_got (Ok := fun _ => True) hN hb (fun _ _ => trivial)) hb
    | 29, _, hS, hK =>
      rw [d29] at hK
      obtain ⟨v60, h60, f60⟩ := hS.got 19 (q := .boolF true) rfl (by kernel_rfl) d19
      obtain rfl : v60 = .bool true := f60
      have e60 := at_eval h60
      obtain ⟨v65, h65, f65⟩ := hS.got 24 (q := .fmF (z)) rfl (by kernel_rfl) d24
      have e65 := at_eval h65
      obtain ⟨v69, h69, f69⟩ := hS.got 28 (q := .fmF (z)) rfl (by kernel_rfl) d28
      have e69 := at_eval h69
      rw [hL.out, ← hL2.out]; refine wpOp_of_list' rfl ?_
      go_wp2_with fail
      refine (compare_any (z) (z) W.heap.size _ _ W (fm_at f65) (fm_at f69) (Nat.le_refl _)).mono ?_
      rintro e W2 ⟨rfl, hb⟩
      rw [cmpF_self]
      go_wp2_with fail
      exact hK _ _ rfl hb
    | 30, _, hS, hK =>
      rw [d30] at hK
      obtain ⟨v60, h60, f60⟩ := hS.got 19 (q := .boolF true) rfl (by kernel_rfl) d19
      obtain rfl : v60 = .bool true := f60
      have e60 := at_eval h60
      obtain ⟨v70, h70, f70⟩ := hS.got 29 (q := .intF (0)) rfl (by kernel_rfl) d29
      obtain rfl : v70 = .int .i64 (0) := f70
      have e70 := at_eval h70
      rw [hL.out, ← hL2.out]; refine wpOp_of_list' rfl ?_
      go_wp2_with fail
      exact hK _ _ rfl (Below.refl _ _)
    | 31, _, hS, hK =>
      rw [d31] at hK
      obtain ⟨v60, h60, f60⟩ := hS.got 19 (q := .boolF true) rfl (by kernel_rfl) d19
      obtain rfl : v60 = .bool true := f60
      have e60 := at_eval h60
      obtain ⟨v71, h71, f71⟩ := hS.got 30 (q := .boolF true) rfl (by kernel_rfl) d30
      obtain rfl : v71 = .bool true := f71
      have e71 := at_eval h71
      rw [hL.out, ← hL2.out]; refine wpOp_of_list' rfl ?_
      go_wp2_with fail
      exact hK _ _ rfl (Below.refl _ _)
    | 32, _, hS, hK =>
      rw [d32] at hK
      obtain ⟨v72, h72, f72⟩ := hS.got 31 (q := .boolF true) rfl (by kernel_rfl) d31
      obtain rfl : v72 = .bool true := f72
      have e72 := at_eval h72
      rw [hL.out, ← hL2.out]; refine wpOp_of_list' rfl ?_
      go_wp2_with fail
      exact hK _ _ rfl (Below.refl _ _)
    | n + 33, hi, _, _ => exact absurd hi (by rw [hsz]; omega)
  · intro x W hB hx
    have y5 : x 5 = .int .i64 (0) := hx 5 46 (by rw [hsz]; omega) d5
    have y6 : x 6 = .bool true := hx 6 47 (by rw [hsz]; omega) d6
    have y7 : x 7 = .bool true := hx 7 48 (by rw [hsz]; omega) d7
    have y16 : x 16 = .int .i64 (0) := hx 16 57 (by rw [hsz]; omega) d16
    have y17 : x 17 = .bool true := hx 17 58 (by rw [hsz]; omega) d17
    have y18 : x 18 = .bool true := hx 18 59 (by rw [hsz]; omega) d18
    have y19 : x 19 = .bool true := hx 19 60 (by rw [hsz]; omega) d19
    have y29 : x 29 = .int .i64 (0) := hx 29 70 (by rw [hsz]; omega) d29
    have y30 : x 30 = .bool true := hx 30 71 (by rw [hsz]; omega) d30
    have y31 : x 31 = .bool true := hx 31 72 (by rw [hsz]; omega) d31
    have y32 : x 32 = .bool true := hx 32 11 (by rw [hsz]; omega) d32
    have hl := hend x W hB
    have hr : List.range (opsAt Tryz.f10 7).size = [0, 1, 2, 3, 4, 5, 6, 7, 8, 9, 10, 11, 12, 13, 14, 15, 16, 17, 18, 19, 20, 21, 22, 23, 24, 25, 26, 27, 28, 29, 30, 31, 32] := by rw [hsz]; rfl
    rw [hr]
    simp only [putL, d0, d1, d2, d3, d4, d5, d6, d7, d8, d9, d10, d11, d12, d13, d14, d15, d16, d17, d18, d19, d20, d21, d22, d23, d24, d25, d26, d27, d28, d29, d30, d31, d32]
    simp only [y5, y6, y7, y16, y17, y18, y19, y29, y30, y31, y32]
    exact hl
end Go.Proofs.YtlkoacopknolnaaGreatDoor
