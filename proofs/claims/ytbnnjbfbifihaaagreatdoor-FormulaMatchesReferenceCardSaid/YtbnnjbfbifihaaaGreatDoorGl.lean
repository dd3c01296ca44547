/-
  Contracts that the formula laws stand on, part Gl.
-/
import Derived.Test.YtbnnjbfbifihaaaGreatDoorFjB
import Derived.Test.YtbnnjbfbifihaaaGreatDoorGk

/-
  The law's head: its drawn region 7.
-/
namespace Go.Proofs.YtbnnjbfbifihaaaGreatDoor
open Go.RowKit

theorem BoxF.bx {W : World} {k : Nat} {f : Fm} {o : Option Addr} {c : Nat} (h : BoxF W.heap.size W k f o c) : Bx W k f := ⟨h.1, o, c, h.2.1, h.2.2.1, h.2.2.2⟩

set_option maxRecDepth 100000 in
set_option maxHeartbeats 8000000 in
theorem hdx_r7 {k1 k3 k5 : Nat} (a0 : Act) (W0 : World) (Q : Exit → Act → World → Prop) (hE : Env W0) (hz : a0.tmps.size = 184) (p1 : a0.tmps[(1 : Nat)]? = some (.pointer (some ⟨k1, 0, none⟩))) (p3 : a0.tmps[(3 : Nat)]? = some (.pointer (some ⟨k3, 0, none⟩))) (p4 : a0.tmps[(4 : Nat)]? = some (.int .i64 (0))) (p5 : a0.tmps[(5 : Nat)]? = some (.pointer (some ⟨k5, 0, none⟩))) (p6 : a0.tmps[(6 : Nat)]? = some (.int .i64 (0))) (p8 : a0.tmps[(8 : Nat)]? = some (.int .i64 (30))) (p10 : a0.tmps[(10 : Nat)]? = some (.int .i64 (2))) (B1 : Hid (Bx W0 k1 (hA))) (B3 : Hid (Bx W0 k3 (hX))) (B5 : Hid (Bx W0 k5 (hY))) 
    (hend : ∀ (x : Nat → Value) (W : World), Below W0.heap.size W0 W → Q .normal ((((((((((((((((((((((((((((((((((a0.put (some 50) (.int .i64 (0))).put (some 51) (.bool true)).put (some 52) (.bool true)).put (some 53) (x 3)).put (some 54) (x 4)).put (some 55) (x 5)).put (some 56) (x 6)).put (some 57) (x 7)).put (some 58) (.bool true)).put (some 59) (.bool true)).put (some 60) (.bool true)).put (some 61) (.int .i64 (0))).put (some 62) (.bool true)).put (some 63) (.bool true)).put (some 64) (.bool true)).put (some 65) (x 15)).put (some 66) (x 16)).put (some 67) (x 17)).put (some 68) (x 18)).put (some 69) (x 19)).put (some 70) (x 20)).put (some 71) (x 21)).put (some 72) (x 22)).put (some 73) (.bool true)).put (some 74) (.bool true)).put (some 75) (.bool true)).put (some 76) (.int .i64 (30))).put (some 77) (.bool true)).put (some 78) (.bool true)).put (some 79) (.bool true)).put (some 80) (.int .i64 (2))).put (some 81) (.bool true)).put (some 82) (.bool true)).put (some 11) (.bool true)) W) :
    (Code.region 7 (opsAt Tryz.f12 7) true).wp Tryz.prog Q a0 W0 := by
  have d0 : dstOf (opsAt Tryz.f12 7) 0 = some 50 := by kernel_rfl
  have d1 : dstOf (opsAt Tryz.f12 7) 1 = some 51 := by kernel_rfl
  have d2 : dstOf (opsAt Tryz.f12 7) 2 = some 52 := by kernel_rfl
  have d3 : dstOf (opsAt Tryz.f12 7) 3 = some 53 := by kernel_rfl
  have d4 : dstOf (opsAt Tryz.f12 7) 4 = some 54 := by kernel_rfl
  have d5 : dstOf (opsAt Tryz.f12 7) 5 = some 55 := by kernel_rfl
  have d6 : dstOf (opsAt Tryz.f12 7) 6 = some 56 := by kernel_rfl
  have d7 : dstOf (opsAt Tryz.f12 7) 7 = some 57 := by kernel_rfl
  have d8 : dstOf (opsAt Tryz.f12 7) 8 = some 58 := by kernel_rfl
  have d9 : dstOf (opsAt Tryz.f12 7) 9 = some 59 := by kernel_rfl
  have d10 : dstOf (opsAt Tryz.f12 7) 10 = some 60 := by kernel_rfl
  have d11 : dstOf (opsAt Tryz.f12 7) 11 = some 61 := by kernel_rfl
  have d12 : dstOf (opsAt Tryz.f12 7) 12 = some 62 := by kernel_rfl
  have d13 : dstOf (opsAt Tryz.f12 7) 13 = some 63 := by kernel_rfl
  have d14 : dstOf (opsAt Tryz.f12 7) 14 = some 64 := by kernel_rfl
  have d15 : dstOf (opsAt Tryz.f12 7) 15 = some 65 := by kernel_rfl
  have d16 : dstOf (opsAt Tryz.f12 7) 16 = some 66 := by kernel_rfl
  have d17 : dstOf (opsAt Tryz.f12 7) 17 = some 67 := by kernel_rfl
  have d18 : dstOf (opsAt Tryz.f12 7) 18 = some 68 := by kernel_rfl
  have d19 : dstOf (opsAt Tryz.f12 7) 19 = some 69 := by kernel_rfl
  have d20 : dstOf (opsAt Tryz.f12 7) 20 = some 70 := by kernel_rfl
  have d21 : dstOf (opsAt Tryz.f12 7) 21 = some 71 := by kernel_rfl
  have d22 : dstOf (opsAt Tryz.f12 7) 22 = some 72 := by kernel_rfl
  have d23 : dstOf (opsAt Tryz.f12 7) 23 = some 73 := by kernel_rfl
  have d24 : dstOf (opsAt Tryz.f12 7) 24 = some 74 := by kernel_rfl
  have d25 : dstOf (opsAt Tryz.f12 7) 25 = some 75 := by kernel_rfl
  have d26 : dstOf (opsAt Tryz.f12 7) 26 = some 76 := by kernel_rfl
  have d27 : dstOf (opsAt Tryz.f12 7) 27 = some 77 := by kernel_rfl
  have d28 : dstOf (opsAt Tryz.f12 7) 28 = some 78 := by kernel_rfl
  have d29 : dstOf (opsAt Tryz.f12 7) 29 = some 79 := by kernel_rfl
  have d30 : dstOf (opsAt Tryz.f12 7) 30 = some 80 := by kernel_rfl
  have d31 : dstOf (opsAt Tryz.f12 7) 31 = some 81 := by kernel_rfl
  have d32 : dstOf (opsAt Tryz.f12 7) 32 = some 82 := by kernel_rfl
  have d33 : dstOf (opsAt Tryz.f12 7) 33 = some 11 := by kernel_rfl
  have hsz : (opsAt Tryz.f12 7).size = 34 := by kernel_rfl
  obtain ⟨L, hL⟩ : ∃ L, Hid ((opsAt Tryz.f12 7) = L) := ⟨_, hidi rfl⟩
  have hL2 := hL.out
  unfold opsAt Tryz.f12 at hL2
  simp only [findRegion, Nat.reduceBEq, if_true, if_false, Bool.false_eq_true, Option.getD_some] at hL2
  replace hL2 := hidi hL2
  refine wp_region_facts (by kernel_rfl) (by kernel_rfl) (by kernel_rfl) (by rw [hz]; kernel_rfl) (by kernel_rfl) (fun i => match i with
      | 0 => .intF (0)
      | 1 => .boolF true
      | 2 => .boolF true
      | 3 => .fmF (hX)
      | 4 => .fmF (fTrue)
      | 5 => .fmF (hA)
      | 6 => .fmF (hNA)
      | 7 => .fmF (hX)
      | 8 => .boolF true
      | 9 => .boolF true
      | 10 => .boolF true
      | 11 => .intF (0)
      | 12 => .boolF true
      | 13 => .boolF true
      | 14 => .boolF true
      | 15 => .fmF (hY)
      | 16 => .fmF (hA)
      | 17 => .fmF (hA)
      | 18 => .fmF (hA)
      | 19 => .fmF (hXA)
      | 20 => .fmF (hO1)
      | 21 => .fmF (hX1)
      | 22 => .fmF (hY)
      | 23 => .boolF true
      | 24 => .boolF true
      | 25 => .boolF true
      | 26 => .intF (30)
      | 27 => .boolF true
      | 28 => .boolF true
      | 29 => .boolF true
      | 30 => .intF (2)
      | 31 => .boolF true
      | 32 => .boolF true
      | 33 => .boolF true
      | _ => .free) ?_ ?_
  · intro i a W K hi hS hK
    have hEW := hE.below hS.below
    match i, hi, hS, hK with
    | 0, _, hS, hK =>
      rw [d0] at hK
      have h4 := hS.slot (by kernel_rfl) p4
      have e4 := at_eval h4
      rw [hL.out, ← hL2.out]; refine wpOp_of_list' rfl ?_
      go_wp2_with fail
      exact hK _ _ rfl (Below.refl _ _)
    | 1, _, hS, hK =>
      rw [d1] at hK
      obtain ⟨v50, h50, f50⟩ := hS.got 0 (q := .intF (0)) rfl (by kernel_rfl) d0
      obtain rfl : v50 = .int .i64 (0) := f50
      have e50 := at_eval h50
      rw [hL.out, ← hL2.out]; refine wpOp_of_list' rfl ?_
      go_wp2_with fail
      exact hK _ _ rfl (Below.refl _ _)
    | 2, _, hS, hK =>
      rw [d2] at hK
      obtain ⟨v51, h51, f51⟩ := hS.got 1 (q := .boolF true) rfl (by kernel_rfl) d1
      obtain rfl : v51 = .bool true := f51
      have e51 := at_eval h51
      rw [hL.out, ← hL2.out]; refine wpOp_of_list' rfl ?_
      go_wp2_with fail
      exact hK _ _ rfl (Below.refl _ _)
    | 3, _, hS, hK =>
      rw [d3] at hK
      obtain ⟨v52, h52, f52⟩ := hS.got 2 (q := .boolF true) rfl (by kernel_rfl) d2
      obtain rfl : v52 = .bool true := f52
      have e52 := at_eval h52
      have h3 := hS.slot (by kernel_rfl) p3
      have e3 := at_eval h3
      obtain ⟨o3, c3, ⟨b0, b1, b2, b3, b4⟩, hfq⟩ := (B3.out.below hS.below).cells
      rw [hL.out, ← hL2.out]; refine wpOp_of_list' rfl ?_
      go_wp2_with fail
      exact hK _ _ hfq (Below.refl _ _)
    | 4, _, hS, hK =>
      rw [d4] at hK
      obtain ⟨v52, h52, f52⟩ := hS.got 2 (q := .boolF true) rfl (by kernel_rfl) d2
      obtain rfl : v52 = .bool true := f52
      have e52 := at_eval h52
      rw [hL.out, ← hL2.out]; refine wpOp_of_list' rfl ?_
      go_wp2_with fail
      refine (reftrue_any (fun b => b < W.heap.size ∧ True) W).mono ?_
      rintro e W2 ⟨r, rfl, hN, hb⟩
      go_wp2_with fail
      exact hK _ _ (fm_got (Ok := fun _ => True) hN hb (fun _ _ => trivial)) hb
    | 5, _, hS, hK =>
      rw [d5] at hK
      obtain ⟨v52, h52, f52⟩ := hS.got 2 (q := .boolF true) rfl (by kernel_rfl) d2
      obtain rfl : v52 = .bool true := f52
      have e52 := at_eval h52
      have h1 := hS.slot (by kernel_rfl) p1
      have e1 := at_eval h1
      obtain ⟨o1, c1, ⟨b0, b1, b2, b3, b4⟩, hfq⟩ := (B1.out.below hS.below).cells
      rw [hL.out, ← hL2.out]; refine wpOp_of_list' rfl ?_
      go_wp2_with fail
      exact hK _ _ hfq (Below.refl _ _)
    | 6, _, hS, hK =>
      rw [d6] at hK
      obtain ⟨v52, h52, f52⟩ := hS.got 2 (q := .boolF true) rfl (by kernel_rfl) d2
      obtain rfl : v52 = .bool true := f52
      have e52 := at_eval h52
      obtain ⟨v55, h55, f55⟩ := hS.got 5 (q := .fmF (hA)) rfl (by kernel_rfl) d5
      have e55 := at_eval h55
      rw [hL.out, ← hL2.out]; refine wpOp_of_list' rfl ?_
      go_wp2_with fail
      refine (refone_any (fun b => b < W.heap.size ∧ True) 4 _ hA W f55 (fun b hb => hb.1) ⟨by decide, by decide⟩).mono ?_
      rintro e W2 ⟨r, rfl, hN, hb⟩
      go_wp2_with fail
      exact hK _ _ (fm_got (Ok := fun _ => True) hN hb (fun _ _ => trivial)) hb
    | 7, _, hS, hK =>
      rw [d7] at hK
      obtain ⟨v52, h52, f52⟩ := hS.got 2 (q := .boolF true) rfl (by kernel_rfl) d2
      obtain rfl : v52 = .bool true := f52
      have e52 := at_eval h52
      obtain ⟨v54, h54, f54⟩ := hS.got 4 (q := .fmF (fTrue)) rfl (by kernel_rfl) d4
      have e54 := at_eval h54
      obtain ⟨v56, h56, f56⟩ := hS.got 6 (q := .fmF (hNA)) rfl (by kernel_rfl) d6
      have e56 := at_eval h56
      rw [hL.out, ← hL2.out]; refine wpOp_of_list' rfl ?_
      go_wp2_with fail
      refine (reftwo_any (fun b => b < W.heap.size ∧ True) 9 _ _ fTrue hNA W f54 f56 (fun b hb => hb.1) ⟨by decide, by decide⟩).mono ?_
      rintro e W2 ⟨r, rfl, hN, hb⟩
      go_wp2_with fail
      exact hK _ _ (fm_got (Ok := fun _ => True) hN hb (fun _ _ => trivial)) hb
    | 8, _, hS, hK =>
      rw [d8] at hK
      obtain ⟨v52, h52, f52⟩ := hS.got 2 (q := .boolF true) rfl (by kernel_rfl) d2
      obtain rfl : v52 = .bool true := f52
      have e52 := at_eval h52
      obtain ⟨v53, h53, f53⟩ := hS.got 3 (q := .fmF (hX)) rfl (by kernel_rfl) d3
      have e53 := at_eval h53
      obtain ⟨v57, h57, f57⟩ := hS.got 7 (q := .fmF (hX)) rfl (by kernel_rfl) d7
      have e57 := at_eval h57
      rw [hL.out, ← hL2.out]; refine wpOp_of_list' rfl ?_
      go_wp2_with fail
      refine (refsame_any (hX) (hX) W.heap.size _ _ W (fm_at f53) (fm_at f57) (Nat.le_refl _)).mono ?_
      rintro e W2 ⟨rfl, hb⟩
      rw [sameF_self]
      go_wp2_with fail
      exact hK _ _ rfl hb
    | 9, _, hS, hK =>
      rw [d9] at hK
      obtain ⟨v52, h52, f52⟩ := hS.got 2 (q := .boolF true) rfl (by kernel_rfl) d2
      obtain rfl : v52 = .bool true := f52
      have e52 := at_eval h52
      obtain ⟨v58, h58, f58⟩ := hS.got 8 (q := .boolF true) rfl (by kernel_rfl) d8
      obtain rfl : v58 = .bool true := f58
      have e58 := at_eval h58
      rw [hL.out, ← hL2.out]; refine wpOp_of_list' rfl ?_
      go_wp2_with fail
      exact hK _ _ rfl (Below.refl _ _)
    | 10, _, hS, hK =>
      rw [d10] at hK
      obtain ⟨v59, h59, f59⟩ := hS.got 9 (q := .boolF true) rfl (by kernel_rfl) d9
      obtain rfl : v59 = .bool true := f59
      have e59 := at_eval h59
      rw [hL.out, ← hL2.out]; refine wpOp_of_list' rfl ?_
      go_wp2_with fail
      exact hK _ _ rfl (Below.refl _ _)
    | 11, _, hS, hK =>
      rw [d11] at hK
      obtain ⟨v60, h60, f60⟩ := hS.got 10 (q := .boolF true) rfl (by kernel_rfl) d10
      obtain rfl : v60 = .bool true := f60
      have e60 := at_eval h60
      have h6 := hS.slot (by kernel_rfl) p6
      have e6 := at_eval h6
      rw [hL.out, ← hL2.out]; refine wpOp_of_list' rfl ?_
      go_wp2_with fail
      exact hK _ _ rfl (Below.refl _ _)
    | 12, _, hS, hK =>
      rw [d12] at hK
      obtain ⟨v60, h60, f60⟩ := hS.got 10 (q := .boolF true) rfl (by kernel_rfl) d10
      obtain rfl : v60 = .bool true := f60
      have e60 := at_eval h60
      obtain ⟨v61, h61, f61⟩ := hS.got 11 (q := .intF (0)) rfl (by kernel_rfl) d11
      obtain rfl : v61 = .int .i64 (0) := f61
      have e61 := at_eval h61
      rw [hL.out, ← hL2.out]; refine wpOp_of_list' rfl ?_
      go_wp2_with fail
      exact hK _ _ rfl (Below.refl _ _)
    | 13, _, hS, hK =>
      rw [d13] at hK
      obtain ⟨v60, h60, f60⟩ := hS.got 10 (q := .boolF true) rfl (by kernel_rfl) d10
      obtain rfl : v60 = .bool true := f60
      have e60 := at_eval h60
      obtain ⟨v62, h62, f62⟩ := hS.got 12 (q := .boolF true) rfl (by kernel_rfl) d12
      obtain rfl : v62 = .bool true := f62
      have e62 := at_eval h62
      rw [hL.out, ← hL2.out]; refine wpOp_of_list' rfl ?_
      go_wp2_with fail
      exact hK _ _ rfl (Below.refl _ _)
    | 14, _, hS, hK =>
      rw [d14] at hK
      obtain ⟨v63, h63, f63⟩ := hS.got 13 (q := .boolF true) rfl (by kernel_rfl) d13
      obtain rfl : v63 = .bool true := f63
      have e63 := at_eval h63
      rw [hL.out, ← hL2.out]; refine wpOp_of_list' rfl ?_
      go_wp2_with fail
      exact hK _ _ rfl (Below.refl _ _)
    | 15, _, hS, hK =>
      rw [d15] at hK
      obtain ⟨v64, h64, f64⟩ := hS.got 14 (q := .boolF true) rfl (by kernel_rfl) d14
      obtain rfl : v64 = .bool true := f64
      have e64 := at_eval h64
      have h5 := hS.slot (by kernel_rfl) p5
      have e5 := at_eval h5
      obtain ⟨o5, c5, ⟨b0, b1, b2, b3, b4⟩, hfq⟩ := (B5.out.below hS.below).cells
      rw [hL.out, ← hL2.out]; refine wpOp_of_list' rfl ?_
      go_wp2_with fail
      exact hK _ _ hfq (Below.refl _ _)
    | 16, _, hS, hK =>
      rw [d16] at hK
      obtain ⟨v64, h64, f64⟩ := hS.got 14 (q := .boolF true) rfl (by kernel_rfl) d14
      obtain rfl : v64 = .bool true := f64
      have e64 := at_eval h64
      have h1 := hS.slot (by kernel_rfl) p1
      have e1 := at_eval h1
      obtain ⟨o1, c1, ⟨b0, b1, b2, b3, b4⟩, hfq⟩ := (B1.out.below hS.below).cells
      rw [hL.out, ← hL2.out]; refine wpOp_of_list' rfl ?_
      go_wp2_with fail
      exact hK _ _ hfq (Below.refl _ _)
    | 17, _, hS, hK =>
      rw [d17] at hK
      obtain ⟨v64, h64, f64⟩ := hS.got 14 (q := .boolF true) rfl (by kernel_rfl) d14
      obtain rfl : v64 = .bool true := f64
      have e64 := at_eval h64
      have h1 := hS.slot (by kernel_rfl) p1
      have e1 := at_eval h1
      obtain ⟨o1, c1, ⟨b0, b1, b2, b3, b4⟩, hfq⟩ := (B1.out.below hS.below).cells
      rw [hL.out, ← hL2.out]; refine wpOp_of_list' rfl ?_
      go_wp2_with fail
      exact hK _ _ hfq (Below.refl _ _)
    | 18, _, hS, hK =>
      rw [d18] at hK
      obtain ⟨v64, h64, f64⟩ := hS.got 14 (q := .boolF true) rfl (by kernel_rfl) d14
      obtain rfl : v64 = .bool true := f64
      have e64 := at_eval h64
      have h1 := hS.slot (by kernel_rfl) p1
      have e1 := at_eval h1
      obtain ⟨o1, c1, ⟨b0, b1, b2, b3, b4⟩, hfq⟩ := (B1.out.below hS.below).cells
      rw [hL.out, ← hL2.out]; refine wpOp_of_list' rfl ?_
      go_wp2_with fail
      exact hK _ _ hfq (Below.refl _ _)
    | 19, _, hS, hK =>
      rw [d19] at hK
      obtain ⟨v64, h64, f64⟩ := hS.got 14 (q := .boolF true) rfl (by kernel_rfl) d14
      obtain rfl : v64 = .bool true := f64
      have e64 := at_eval h64
      obtain ⟨v68, h68, f68⟩ := hS.got 18 (q := .fmF (hA)) rfl (by kernel_rfl) d18
      have e68 := at_eval h68
      rw [hL.out, ← hL2.out]; refine wpOp_of_list' rfl ?_
      go_wp2_with fail
      refine (refone_any (fun b => b < W.heap.size ∧ True) 8 _ hA W f68 (fun b hb => hb.1) ⟨by decide, by decide⟩).mono ?_
      rintro e W2 ⟨r, rfl, hN, hb⟩
      go_wp2_with fail
      exact hK _ _ (fm_got (Ok := fun _ => True) hN hb (fun _ _ => trivial)) hb
    | 20, _, hS, hK =>
      rw [d20] at hK
      obtain ⟨v64, h64, f64⟩ := hS.got 14 (q := .boolF true) rfl (by kernel_rfl) d14
      obtain rfl : v64 = .bool true := f64
      have e64 := at_eval h64
      obtain ⟨v67, h67, f67⟩ := hS.got 17 (q := .fmF (hA)) rfl (by kernel_rfl) d17
      have e67 := at_eval h67
      obtain ⟨v69, h69, f69⟩ := hS.got 19 (q := .fmF (hXA)) rfl (by kernel_rfl) d19
      have e69 := at_eval h69
      rw [hL.out, ← hL2.out]; refine wpOp_of_list' rfl ?_
      go_wp2_with fail
      refine (reftwo_any (fun b => b < W.heap.size ∧ True) 6 _ _ hA hXA W f67 f69 (fun b hb => hb.1) ⟨by decide, by decide⟩).mono ?_
      rintro e W2 ⟨r, rfl, hN, hb⟩
      go_wp2_with fail
      exact hK _ _ (fm_got (Ok := fun _ => True) hN hb (fun _ _ => trivial)) hb
    | 21, _, hS, hK =>
      rw [d21] at hK
      obtain ⟨v64, h64, f64⟩ := hS.got 14 (q := .boolF true) rfl (by kernel_rfl) d14
      obtain rfl : v64 = .bool true := f64
      have e64 := at_eval h64
      obtain ⟨v70, h70, f70⟩ := hS.got 20 (q := .fmF (hO1)) rfl (by kernel_rfl) d20
      have e70 := at_eval h70
      rw [hL.out, ← hL2.out]; refine wpOp_of_list' rfl ?_
      go_wp2_with fail
      refine (refone_any (fun b => b < W.heap.size ∧ True) 8 _ hO1 W f70 (fun b hb => hb.1) ⟨by decide, by decide⟩).mono ?_
      rintro e W2 ⟨r, rfl, hN, hb⟩
      go_wp2_with fail
      exact hK _ _ (fm_got (Ok := fun _ => True) hN hb (fun _ _ => trivial)) hb
    | 22, _, hS, hK =>
      rw [d22] at hK
      obtain ⟨v64, h64, f64⟩ := hS.got 14 (q := .boolF true) rfl (by kernel_rfl) d14
      obtain rfl : v64 = .bool true := f64
      have e64 := at_eval h64
      obtain ⟨v66, h66, f66⟩ := hS.got 16 (q := .fmF (hA)) rfl (by kernel_rfl) d16
      have e66 := at_eval h66
      obtain ⟨v71, h71, f71⟩ := hS.got 21 (q := .fmF (hX1)) rfl (by kernel_rfl) d21
      have e71 := at_eval h71
      rw [hL.out, ← hL2.out]; refine wpOp_of_list' rfl ?_
      go_wp2_with fail
      refine (reftwo_any (fun b => b < W.heap.size ∧ True) 6 _ _ hA hX1 W f66 f71 (fun b hb => hb.1) ⟨by decide, by decide⟩).mono ?_
      rintro e W2 ⟨r, rfl, hN, hb⟩
      go_wp2_with fail
      exact hK _ _ (fm_got (Ok := fun _ => True) hN hb (fun _ _ => trivial)) hb
    | 23, _, hS, hK =>
      rw [d23] at hK
      obtain ⟨v64, h64, f64⟩ := hS.got 14 (q := .boolF true) rfl (by kernel_rfl) d14
      obtain rfl : v64 = .bool true := f64
      have e64 := at_eval h64
      obtain ⟨v65, h65, f65⟩ := hS.got 15 (q := .fmF (hY)) rfl (by kernel_rfl) d15
      have e65 := at_eval h65
      obtain ⟨v72, h72, f72⟩ := hS.got 22 (q := .fmF (hY)) rfl (by kernel_rfl) d22
      have e72 := at_eval h72
      rw [hL.out, ← hL2.out]; refine wpOp_of_list' rfl ?_
      go_wp2_with fail
      refine (refsame_any (hY) (hY) W.heap.size _ _ W (fm_at f65) (fm_at f72) (Nat.le_refl _)).mono ?_
      rintro e W2 ⟨rfl, hb⟩
      rw [sameF_self]
      go_wp2_with fail
      exact hK _ _ rfl hb
    | 24, _, hS, hK =>
      rw [d24] at hK
      obtain ⟨v64, h64, f64⟩ := hS.got 14 (q := .boolF true) rfl (by kernel_rfl) d14
      obtain rfl : v64 = .bool true := f64
      have e64 := at_eval h64
      obtain ⟨v73, h73, f73⟩ := hS.got 23 (q := .boolF true) rfl (by kernel_rfl) d23
      obtain rfl : v73 = .bool true := f73
      have e73 := at_eval h73
      rw [hL.out, ← hL2.out]; refine wpOp_of_list' rfl ?_
      go_wp2_with fail
      exact hK _ _ rfl (Below.refl _ _)
    | 25, _, hS, hK =>
      rw [d25] at hK
      obtain ⟨v74, h74, f74⟩ := hS.got 24 (q := .boolF true) rfl (by kernel_rfl) d24
      obtain rfl : v74 = .bool true := f74
      have e74 := at_eval h74
      rw [hL.out, ← hL2.out]; refine wpOp_of_list' rfl ?_
      go_wp2_with fail
      exact hK _ _ rfl (Below.refl _ _)
    | 26, _, hS, hK =>
      rw [d26] at hK
      obtain ⟨v75, h75, f75⟩ := hS.got 25 (q := .boolF true) rfl (by kernel_rfl) d25
      obtain rfl : v75 = .bool true := f75
      have e75 := at_eval h75
      have h8 := hS.slot (by kernel_rfl) p8
      have e8 := at_eval h8
      rw [hL.out, ← hL2.out]; refine wpOp_of_list' rfl ?_
      go_wp2_with fail
      exact hK _ _ rfl (Below.refl _ _)
    | 27, _, hS, hK =>
      rw [d27] at hK
      obtain ⟨v75, h75, f75⟩ := hS.got 25 (q := .boolF true) rfl (by kernel_rfl) d25
      obtain rfl : v75 = .bool true := f75
      have e75 := at_eval h75
      obtain ⟨v76, h76, f76⟩ := hS.got 26 (q := .intF (30)) rfl (by kernel_rfl) d26
      obtain rfl : v76 = .int .i64 (30) := f76
      have e76 := at_eval h76
      rw [hL.out, ← hL2.out]; refine wpOp_of_list' rfl ?_
      go_wp2_with fail
      exact hK _ _ rfl (Below.refl _ _)
    | 28, _, hS, hK =>
      rw [d28] at hK
      obtain ⟨v75, h75, f75⟩ := hS.got 25 (q := .boolF true) rfl (by kernel_rfl) d25
      obtain rfl : v75 = .bool true := f75
      have e75 := at_eval h75
      obtain ⟨v77, h77, f77⟩ := hS.got 27 (q := .boolF true) rfl (by kernel_rfl) d27
      obtain rfl : v77 = .bool true := f77
      have e77 := at_eval h77
      rw [hL.out, ← hL2.out]; refine wpOp_of_list' rfl ?_
      go_wp2_with fail
      exact hK _ _ rfl (Below.refl _ _)
    | 29, _, hS, hK =>
      rw [d29] at hK
      obtain ⟨v78, h78, f78⟩ := hS.got 28 (q := .boolF true) rfl (by kernel_rfl) d28
      obtain rfl : v78 = .bool true := f78
      have e78 := at_eval h78
      rw [hL.out, ← hL2.out]; refine wpOp_of_list' rfl ?_
      go_wp2_with fail
      exact hK _ _ rfl (Below.refl _ _)
    | 30, _, hS, hK =>
      rw [d30] at hK
      obtain ⟨v79, h79, f79⟩ := hS.got 29 (q := .boolF true) rfl (by kernel_rfl) d29
      obtain rfl : v79 = .bool true := f79
      have e79 := at_eval h79
      have h10 := hS.slot (by kernel_rfl) p10
      have e10 := at_eval h10
      rw [hL.out, ← hL2.out]; refine wpOp_of_list' rfl ?_
      go_wp2_with fail
      exact hK _ _ rfl (Below.refl _ _)
    | 31, _, hS, hK =>
      rw [d31] at hK
      obtain ⟨v79, h79, f79⟩ := hS.got 29 (q := .boolF true) rfl (by kernel_rfl) d29
      obtain rfl : v79 = .bool true := f79
      have e79 := at_eval h79
      obtain ⟨v80, h80, f80⟩ := hS.got 30 (q := .intF (2)) rfl (by kernel_rfl) d30
      obtain rfl : v80 = .int .i64 (2) := f80
      have e80 := at_eval h80
      rw [hL.out, ← hL2.out]; refine wpOp_of_list' rfl ?_
      go_wp2_with fail
      exact hK _ _ rfl (Below.refl _ _)
    | 32, _, hS, hK =>
      rw [d32] at hK
      obtain ⟨v79, h79, f79⟩ := hS.got 29 (q := .boolF true) rfl (by kernel_rfl) d29
      obtain rfl : v79 = .bool true := f79
      have e79 := at_eval h79
      obtain ⟨v81, h81, f81⟩ := hS.got 31 (q := .boolF true) rfl (by kernel_rfl) d31
      obtain rfl : v81 = .bool true := f81
      have e81 := at_eval h81
      rw [hL.out, ← hL2.out]; refine wpOp_of_list' rfl ?_
      go_wp2_with fail
      exact hK _ _ rfl (Below.refl _ _)
    | 33, _, hS, hK =>
      rw [d33] at hK
      obtain ⟨v82, h82, f82⟩ := hS.got 32 (q := .boolF true) rfl (by kernel_rfl) d32
      obtain rfl : v82 = .bool true := f82
      have e82 := at_eval h82
      rw [hL.out, ← hL2.out]; refine wpOp_of_list' rfl ?_
      go_wp2_with fail
      exact hK _ _ rfl (Below.refl _ _)
    | n + 34, hi, _, _ => exact absurd hi (by rw [hsz]; omega)
  · intro x W hB hx
    have y0 : x 0 = .int .i64 (0) := hx 0 50 (by rw [hsz]; omega) d0
    have y1 : x 1 = .bool true := hx 1 51 (by rw [hsz]; omega) d1
    have y2 : x 2 = .bool true := hx 2 52 (by rw [hsz]; omega) d2
    have y8 : x 8 = .bool true := hx 8 58 (by rw [hsz]; omega) d8
    have y9 : x 9 = .bool true := hx 9 59 (by rw [hsz]; omega) d9
    have y10 : x 10 = .bool true := hx 10 60 (by rw [hsz]; omega) d10
    have y11 : x 11 = .int .i64 (0) := hx 11 61 (by rw [hsz]; omega) d11
    have y12 : x 12 = .bool true := hx 12 62 (by rw [hsz]; omega) d12
    have y13 : x 13 = .bool true := hx 13 63 (by rw [hsz]; omega) d13
    have y14 : x 14 = .bool true := hx 14 64 (by rw [hsz]; omega) d14
    have y23 : x 23 = .bool true := hx 23 73 (by rw [hsz]; omega) d23
    have y24 : x 24 = .bool true := hx 24 74 (by rw [hsz]; omega) d24
    have y25 : x 25 = .bool true := hx 25 75 (by rw [hsz]; omega) d25
    have y26 : x 26 = .int .i64 (30) := hx 26 76 (by rw [hsz]; omega) d26
    have y27 : x 27 = .bool true := hx 27 77 (by rw [hsz]; omega) d27
    have y28 : x 28 = .bool true := hx 28 78 (by rw [hsz]; omega) d28
    have y29 : x 29 = .bool true := hx 29 79 (by rw [hsz]; omega) d29
    have y30 : x 30 = .int .i64 (2) := hx 30 80 (by rw [hsz]; omega) d30
    have y31 : x 31 = .bool true := hx 31 81 (by rw [hsz]; omega) d31
    have y32 : x 32 = .bool true := hx 32 82 (by rw [hsz]; omega) d32
    have y33 : x 33 = .bool true := hx 33 11 (by rw [hsz]; omega) d33
    have hl := hend x W hB
    have hr : List.range (opsAt Tryz.f12 7).size = [0, 1, 2, 3, 4, 5, 6, 7, 8, 9, 10, 11, 12, 13, 14, 15, 16, 17, 18, 19, 20, 21, 22, 23, 24, 25, 26, 27, 28, 29, 30, 31, 32, 33] := by rw [hsz]; rfl
    rw [hr]
    simp only [putL, d0, d1, d2, d3, d4, d5, d6, d7, d8, d9, d10, d11, d12, d13, d14, d15, d16, d17, d18, d19, d20, d21, d22, d23, d24, d25, d26, d27, d28, d29, d30, d31, d32, d33]
    simp only [y0, y1, y2, y8, y9, y10, y11, y12, y13, y14, y23, y24, y25, y26, y27, y28, y29, y30, y31, y32, y33]
    exact hl
end Go.Proofs.YtbnnjbfbifihaaaGreatDoor

/-
  The law's head: its drawn region 11.
-/
namespace Go.Proofs.YtbnnjbfbifihaaaGreatDoor
open Go.RowKit

set_option maxRecDepth 100000 in
set_option maxHeartbeats 8000000 in
theorem hdy_r11 {k1 k2 k12 k13 k14 : Nat} (a0 : Act) (W0 : World) (Q : Exit → Act → World → Prop) (hE : Env W0) (hz : a0.tmps.size = 184) (p1 : a0.tmps[(1 : Nat)]? = some (.pointer (some ⟨k1, 0, none⟩))) (p2 : a0.tmps[(2 : Nat)]? = some (.pointer (some ⟨k2, 0, none⟩))) (p12 : a0.tmps[(12 : Nat)]? = some (.pointer (some ⟨k12, 0, none⟩))) (p13 : a0.tmps[(13 : Nat)]? = some (.pointer (some ⟨k13, 0, none⟩))) (p14 : a0.tmps[(14 : Nat)]? = some (.pointer (some ⟨k14, 0, none⟩))) (B1 : Hid (Bx W0 k1 (hA))) (B2 : Hid (Bx W0 k2 (hB))) (B12 : Hid (Bx W0 k12 (hAB))) (B13 : Hid (Bx W0 k13 (fTrue))) (B14 : Hid (Bx W0 k14 (hN))) 
    (hend : ∀ (x : Nat → Value) (W : World), Below W0.heap.size W0 W → Q .normal (((((((((((((((((((((((((((((((a0.put (some 100) (x 0)).put (some 101) (x 1)).put (some 102) (x 2)).put (some 103) (x 3)).put (some 104) (.bool true)).put (some 105) (.bool true)).put (some 106) (x 6)).put (some 107) (.int .i64 (1))).put (some 108) (.bool true)).put (some 109) (.bool true)).put (some 110) (.bool true)).put (some 111) (x 11)).put (some 112) (x 12)).put (some 113) (x 13)).put (some 114) (x 14)).put (some 115) (x 15)).put (some 116) (.bool true)).put (some 117) (.bool true)).put (some 118) (.bool true)).put (some 119) (x 19)).put (some 120) (x 20)).put (some 121) (.int .i64 (-1))).put (some 122) (.bool true)).put (some 123) (.bool true)).put (some 124) (.bool true)).put (some 125) (x 25)).put (some 126) (x 26)).put (some 127) (.int .i64 (0))).put (some 128) (.bool true)).put (some 129) (.bool true)).put (some 15) (.bool true)) W) :
    (Code.region 11 (opsAt Tryz.f12 11) true).wp Tryz.prog Q a0 W0 := by
  have d0 : dstOf (opsAt Tryz.f12 11) 0 = some 100 := by kernel_rfl
  have d1 : dstOf (opsAt Tryz.f12 11) 1 = some 101 := by kernel_rfl
  have d2 : dstOf (opsAt Tryz.f12 11) 2 = some 102 := by kernel_rfl
  have d3 : dstOf (opsAt Tryz.f12 11) 3 = some 103 := by kernel_rfl
  have d4 : dstOf (opsAt Tryz.f12 11) 4 = some 104 := by kernel_rfl
  have d5 : dstOf (opsAt Tryz.f12 11) 5 = some 105 := by kernel_rfl
  have d6 : dstOf (opsAt Tryz.f12 11) 6 = some 106 := by kernel_rfl
  have d7 : dstOf (opsAt Tryz.f12 11) 7 = some 107 := by kernel_rfl
  have d8 : dstOf (opsAt Tryz.f12 11) 8 = some 108 := by kernel_rfl
  have d9 : dstOf (opsAt Tryz.f12 11) 9 = some 109 := by kernel_rfl
  have d10 : dstOf (opsAt Tryz.f12 11) 10 = some 110 := by kernel_rfl
  have d11 : dstOf (opsAt Tryz.f12 11) 11 = some 111 := by kernel_rfl
  have d12 : dstOf (opsAt Tryz.f12 11) 12 = some 112 := by kernel_rfl
  have d13 : dstOf (opsAt Tryz.f12 11) 13 = some 113 := by kernel_rfl
  have d14 : dstOf (opsAt Tryz.f12 11) 14 = some 114 := by kernel_rfl
  have d15 : dstOf (opsAt Tryz.f12 11) 15 = some 115 := by kernel_rfl
  have d16 : dstOf (opsAt Tryz.f12 11) 16 = some 116 := by kernel_rfl
  have d17 : dstOf (opsAt Tryz.f12 11) 17 = some 117 := by kernel_rfl
  have d18 : dstOf (opsAt Tryz.f12 11) 18 = some 118 := by kernel_rfl
  have d19 : dstOf (opsAt Tryz.f12 11) 19 = some 119 := by kernel_rfl
  have d20 : dstOf (opsAt Tryz.f12 11) 20 = some 120 := by kernel_rfl
  have d21 : dstOf (opsAt Tryz.f12 11) 21 = some 121 := by kernel_rfl
  have d22 : dstOf (opsAt Tryz.f12 11) 22 = some 122 := by kernel_rfl
  have d23 : dstOf (opsAt Tryz.f12 11) 23 = some 123 := by kernel_rfl
  have d24 : dstOf (opsAt Tryz.f12 11) 24 = some 124 := by kernel_rfl
  have d25 : dstOf (opsAt Tryz.f12 11) 25 = some 125 := by kernel_rfl
  have d26 : dstOf (opsAt Tryz.f12 11) 26 = some 126 := by kernel_rfl
  have d27 : dstOf (opsAt Tryz.f12 11) 27 = some 127 := by kernel_rfl
  have d28 : dstOf (opsAt Tryz.f12 11) 28 = some 128 := by kernel_rfl
  have d29 : dstOf (opsAt Tryz.f12 11) 29 = some 129 := by kernel_rfl
  have d30 : dstOf (opsAt Tryz.f12 11) 30 = some 15 := by kernel_rfl
  have hsz : (opsAt Tryz.f12 11).size = 31 := by kernel_rfl
  obtain ⟨L, hL⟩ : ∃ L, Hid ((opsAt Tryz.f12 11) = L) := ⟨_, hidi rfl⟩
  have hL2 := hL.out
  unfold opsAt Tryz.f12 at hL2
  simp only [findRegion, Nat.reduceBEq, if_true, if_false, Bool.false_eq_true, Option.getD_some] at hL2
  replace hL2 := hidi hL2
  refine wp_region_facts (by kernel_rfl) (by kernel_rfl) (by kernel_rfl) (by rw [hz]; kernel_rfl) (by kernel_rfl) (fun i => match i with
      | 0 => .fmF (hAB)
      | 1 => .fmF (hA)
      | 2 => .fmF (hB)
      | 3 => .fmF (hAB)
      | 4 => .boolF true
      | 5 => .boolF true
      | 6 => .valF (.pointer (some ⟨k13, 0, none⟩))
      | 7 => .intF (1)
      | 8 => .boolF true
      | 9 => .boolF true
      | 10 => .boolF true
      | 11 => .fmF (hN)
      | 12 => .fmF (hA)
      | 13 => .fmF (hNA)
      | 14 => .fmsF [hNA]
      | 15 => .fmF (hN)
      | 16 => .boolF true
      | 17 => .boolF true
      | 18 => .boolF true
      | 19 => .fmF (hA)
      | 20 => .fmF (hB)
      | 21 => .intF (-1)
      | 22 => .boolF true
      | 23 => .boolF true
      | 24 => .boolF true
      | 25 => .fmF (hB)
      | 26 => .fmF (hB)
      | 27 => .intF (0)
      | 28 => .boolF true
      | 29 => .boolF true
      | 30 => .boolF true
      | _ => .free) ?_ ?_
  · intro i a W K hi hS hK
    have hEW := hE.below hS.below
    match i, hi, hS, hK with
    | 0, _, hS, hK =>
      rw [d0] at hK
      have h12 := hS.slot (by kernel_rfl) p12
      have e12 := at_eval h12
      obtain ⟨o12, c12, ⟨b0, b1, b2, b3, b4⟩, hfq⟩ := (B12.out.below hS.below).cells
      rw [hL.out, ← hL2.out]; refine wpOp_of_list' rfl ?_
      go_wp2_with fail
      exact hK _ _ hfq (Below.refl _ _)
    | 1, _, hS, hK =>
      rw [d1] at hK
      have h1 := hS.slot (by kernel_rfl) p1
      have e1 := at_eval h1
      obtain ⟨o1, c1, ⟨b0, b1, b2, b3, b4⟩, hfq⟩ := (B1.out.below hS.below).cells
      rw [hL.out, ← hL2.out]; refine wpOp_of_list' rfl ?_
      go_wp2_with fail
      exact hK _ _ hfq (Below.refl _ _)
    | 2, _, hS, hK =>
      rw [d2] at hK
      have h2 := hS.slot (by kernel_rfl) p2
      have e2 := at_eval h2
      obtain ⟨o2, c2, ⟨b0, b1, b2, b3, b4⟩, hfq⟩ := (B2.out.below hS.below).cells
      rw [hL.out, ← hL2.out]; refine wpOp_of_list' rfl ?_
      go_wp2_with fail
      exact hK _ _ hfq (Below.refl _ _)
    | 3, _, hS, hK =>
      rw [d3] at hK
      obtain ⟨v101, h101, f101⟩ := hS.got 1 (q := .fmF (hA)) rfl (by kernel_rfl) d1
      have e101 := at_eval h101
      obtain ⟨v102, h102, f102⟩ := hS.got 2 (q := .fmF (hB)) rfl (by kernel_rfl) d2
      have e102 := at_eval h102
      rw [hL.out, ← hL2.out]; refine wpOp_of_list' rfl ?_
      go_wp2_with fail
      refine (reftwo_any (fun b => b < W.heap.size ∧ True) 5 _ _ hA hB W f101 f102 (fun b hb => hb.1) ⟨by decide, by decide⟩).mono ?_
      rintro e W2 ⟨r, rfl, hN, hb⟩
      go_wp2_with fail
      exact hK _ _ (fm_got (Ok := fun _ => True) hN hb (fun _ _ => trivial)) hb
    | 4, _, hS, hK =>
      rw [d4] at hK
      obtain ⟨v100, h100, f100⟩ := hS.got 0 (q := .fmF (hAB)) rfl (by kernel_rfl) d0
      have e100 := at_eval h100
      obtain ⟨v103, h103, f103⟩ := hS.got 3 (q := .fmF (hAB)) rfl (by kernel_rfl) d3
      have e103 := at_eval h103
      rw [hL.out, ← hL2.out]; refine wpOp_of_list' rfl ?_
      go_wp2_with fail
      refine (refsame_any (hAB) (hAB) W.heap.size _ _ W (fm_at f100) (fm_at f103) (Nat.le_refl _)).mono ?_
      rintro e W2 ⟨rfl, hb⟩
      rw [sameF_self]
      go_wp2_with fail
      exact hK _ _ rfl hb
    | 5, _, hS, hK =>
      rw [d5] at hK
      obtain ⟨v104, h104, f104⟩ := hS.got 4 (q := .boolF true) rfl (by kernel_rfl) d4
      obtain rfl : v104 = .bool true := f104
      have e104 := at_eval h104
      rw [hL.out, ← hL2.out]; refine wpOp_of_list' rfl ?_
      go_wp2_with fail
      exact hK _ _ rfl (Below.refl _ _)
    | 6, _, hS, hK =>
      rw [d6] at hK
      obtain ⟨v105, h105, f105⟩ := hS.got 5 (q := .boolF true) rfl (by kernel_rfl) d5
      obtain rfl : v105 = .bool true := f105
      have e105 := at_eval h105
      have h13 := hS.slot (by kernel_rfl) p13
      have e13 := at_eval h13
      rw [hL.out, ← hL2.out]; refine wpOp_of_list' rfl ?_
      go_wp2_with fail
      exact hK _ _ rfl (Below.refl _ _)
    | 7, _, hS, hK =>
      rw [d7] at hK
      obtain ⟨v105, h105, f105⟩ := hS.got 5 (q := .boolF true) rfl (by kernel_rfl) d5
      obtain rfl : v105 = .bool true := f105
      have e105 := at_eval h105
      obtain ⟨v106, h106, f106⟩ := hS.got 6 (q := .valF (.pointer (some ⟨k13, 0, none⟩))) rfl (by kernel_rfl) d6
      obtain rfl : v106 = .pointer (some ⟨k13, 0, none⟩) := f106
      have e106 := at_eval h106
      obtain ⟨o13, c13, ⟨b0, b1, b2, b3, b4⟩, hfq⟩ := (B13.out.below hS.below).cells
      rw [show fTrue.op = 1 from rfl] at b0
      rw [hL.out, ← hL2.out]; refine wpOp_of_list' rfl ?_
      go_wp2_with fail
      exact hK _ _ rfl (Below.refl _ _)
    | 8, _, hS, hK =>
      rw [d8] at hK
      obtain ⟨v105, h105, f105⟩ := hS.got 5 (q := .boolF true) rfl (by kernel_rfl) d5
      obtain rfl : v105 = .bool true := f105
      have e105 := at_eval h105
      obtain ⟨v107, h107, f107⟩ := hS.got 7 (q := .intF (1)) rfl (by kernel_rfl) d7
      obtain rfl : v107 = .int .i64 (1) := f107
      have e107 := at_eval h107
      rw [hL.out, ← hL2.out]; refine wpOp_of_list' rfl ?_
      go_wp2_with fail
      exact hK _ _ rfl (Below.refl _ _)
    | 9, _, hS, hK =>
      rw [d9] at hK
      obtain ⟨v105, h105, f105⟩ := hS.got 5 (q := .boolF true) rfl (by kernel_rfl) d5
      obtain rfl : v105 = .bool true := f105
      have e105 := at_eval h105
      obtain ⟨v108, h108, f108⟩ := hS.got 8 (q := .boolF true) rfl (by kernel_rfl) d8
      obtain rfl : v108 = .bool true := f108
      have e108 := at_eval h108
      rw [hL.out, ← hL2.out]; refine wpOp_of_list' rfl ?_
      go_wp2_with fail
      exact hK _ _ rfl (Below.refl _ _)
    | 10, _, hS, hK =>
      rw [d10] at hK
      obtain ⟨v109, h109, f109⟩ := hS.got 9 (q := .boolF true) rfl (by kernel_rfl) d9
      obtain rfl : v109 = .bool true := f109
      have e109 := at_eval h109
      rw [hL.out, ← hL2.out]; refine wpOp_of_list' rfl ?_
      go_wp2_with fail
      exact hK _ _ rfl (Below.refl _ _)
    | 11, _, hS, hK =>
      rw [d11] at hK
      obtain ⟨v110, h110, f110⟩ := hS.got 10 (q := .boolF true) rfl (by kernel_rfl) d10
      obtain rfl : v110 = .bool true := f110
      have e110 := at_eval h110
      have h14 := hS.slot (by kernel_rfl) p14
      have e14 := at_eval h14
      obtain ⟨o14, c14, ⟨b0, b1, b2, b3, b4⟩, hfq⟩ := (B14.out.below hS.below).cells
      rw [hL.out, ← hL2.out]; refine wpOp_of_list' rfl ?_
      go_wp2_with fail
      exact hK _ _ hfq (Below.refl _ _)
    | 12, _, hS, hK =>
      rw [d12] at hK
      obtain ⟨v110, h110, f110⟩ := hS.got 10 (q := .boolF true) rfl (by kernel_rfl) d10
      obtain rfl : v110 = .bool true := f110
      have e110 := at_eval h110
      have h1 := hS.slot (by kernel_rfl) p1
      have e1 := at_eval h1
      obtain ⟨o1, c1, ⟨b0, b1, b2, b3, b4⟩, hfq⟩ := (B1.out.below hS.below).cells
      rw [hL.out, ← hL2.out]; refine wpOp_of_list' rfl ?_
      go_wp2_with fail
      exact hK _ _ hfq (Below.refl _ _)
    | 13, _, hS, hK =>
      rw [d13] at hK
      obtain ⟨v110, h110, f110⟩ := hS.got 10 (q := .boolF true) rfl (by kernel_rfl) d10
      obtain rfl : v110 = .bool true := f110
      have e110 := at_eval h110
      obtain ⟨v112, h112, f112⟩ := hS.got 12 (q := .fmF (hA)) rfl (by kernel_rfl) d12
      have e112 := at_eval h112
      rw [hL.out, ← hL2.out]; refine wpOp_of_list' rfl ?_
      go_wp2_with fail
      refine (refone_any (fun b => b < W.heap.size ∧ True) 4 _ hA W f112 (fun b hb => hb.1) ⟨by decide, by decide⟩).mono ?_
      rintro e W2 ⟨r, rfl, hN, hb⟩
      go_wp2_with fail
      exact hK _ _ (fm_got (Ok := fun _ => True) hN hb (fun _ _ => trivial)) hb
    | 14, _, hS, hK =>
      rw [d14] at hK
      obtain ⟨v110, h110, f110⟩ := hS.got 10 (q := .boolF true) rfl (by kernel_rfl) d10
      obtain rfl : v110 = .bool true := f110
      have e110 := at_eval h110
      obtain ⟨v113, h113, f113⟩ := hS.got 13 (q := .fmF (hNA)) rfl (by kernel_rfl) d13
      have e113 := at_eval h113
      obtain ⟨o113, c113, rfl, hf113, ha113⟩ := fq_open f113
      rw [hL.out, ← hL2.out]; refine wpOp_of_list' rfl ?_
      go_wp2_with fail
      exact hK _ _ (fms_new1 hf113 ha113) (below_box _ _)
    | 15, _, hS, hK =>
      rw [d15] at hK
      obtain ⟨v110, h110, f110⟩ := hS.got 10 (q := .boolF true) rfl (by kernel_rfl) d10
      obtain rfl : v110 = .bool true := f110
      have e110 := at_eval h110
      obtain ⟨v114, h114, f114⟩ := hS.got 14 (q := .fmsF [hNA]) rfl (by kernel_rfl) d14
      have e114 := at_eval h114
      rw [hL.out, ← hL2.out]; refine wpOp_of_list' rfl ?_
      go_wp2_with fail
      refine (reflate_any (fun b => b < W.heap.size ∧ True) 15 1 _ [hNA] W f114 (fun b hb => hb.1) ⟨by decide, by decide⟩ ⟨by decide, by decide⟩).mono ?_
      rintro e W2 ⟨r, rfl, hN, hb⟩
      go_wp2_with fail
      exact hK _ _ (fm_got (Ok := fun _ => True) hN hb (fun _ _ => trivial)) hb
    | 16, _, hS, hK =>
      rw [d16] at hK
      obtain ⟨v110, h110, f110⟩ := hS.got 10 (q := .boolF true) rfl (by kernel_rfl) d10
      obtain rfl : v110 = .bool true := f110
      have e110 := at_eval h110
      obtain ⟨v111, h111, f111⟩ := hS.got 11 (q := .fmF (hN)) rfl (by kernel_rfl) d11
      have e111 := at_eval h111
      obtain ⟨v115, h115, f115⟩ := hS.got 15 (q := .fmF (hN)) rfl (by kernel_rfl) d15
      have e115 := at_eval h115
      rw [hL.out, ← hL2.out]; refine wpOp_of_list' rfl ?_
      go_wp2_with fail
      refine (refsame_any (hN) (hN) W.heap.size _ _ W (fm_at f111) (fm_at f115) (Nat.le_refl _)).mono ?_
      rintro e W2 ⟨rfl, hb⟩
      rw [sameF_self]
      go_wp2_with fail
      exact hK _ _ rfl hb
    | 17, _, hS, hK =>
      rw [d17] at hK
      obtain ⟨v110, h110, f110⟩ := hS.got 10 (q := .boolF true) rfl (by kernel_rfl) d10
      obtain rfl : v110 = .bool true := f110
      have e110 := at_eval h110
      obtain ⟨v116, h116, f116⟩ := hS.got 16 (q := .boolF true) rfl (by kernel_rfl) d16
      obtain rfl : v116 = .bool true := f116
      have e116 := at_eval h116
      rw [hL.out, ← hL2.out]; refine wpOp_of_list' rfl ?_
      go_wp2_with fail
      exact hK _ _ rfl (Below.refl _ _)
    | 18, _, hS, hK =>
      rw [d18] at hK
      obtain ⟨v117, h117, f117⟩ := hS.got 17 (q := .boolF true) rfl (by kernel_rfl) d17
      obtain rfl : v117 = .bool true := f117
      have e117 := at_eval h117
      rw [hL.out, ← hL2.out]; refine wpOp_of_list' rfl ?_
      go_wp2_with fail
      exact hK _ _ rfl (Below.refl _ _)
    | 19, _, hS, hK =>
      rw [d19] at hK
      obtain ⟨v118, h118, f118⟩ := hS.got 18 (q := .boolF true) rfl (by kernel_rfl) d18
      obtain rfl : v118 = .bool true := f118
      have e118 := at_eval h118
      have h1 := hS.slot (by kernel_rfl) p1
      have e1 := at_eval h1
      obtain ⟨o1, c1, ⟨b0, b1, b2, b3, b4⟩, hfq⟩ := (B1.out.below hS.below).cells
      rw [hL.out, ← hL2.out]; refine wpOp_of_list' rfl ?_
      go_wp2_with fail
      exact hK _ _ hfq (Below.refl _ _)
    | 20, _, hS, hK =>
      rw [d20] at hK
      obtain ⟨v118, h118, f118⟩ := hS.got 18 (q := .boolF true) rfl (by kernel_rfl) d18
      obtain rfl : v118 = .bool true := f118
      have e118 := at_eval h118
      have h2 := hS.slot (by kernel_rfl) p2
      have e2 := at_eval h2
      obtain ⟨o2, c2, ⟨b0, b1, b2, b3, b4⟩, hfq⟩ := (B2.out.below hS.below).cells
      rw [hL.out, ← hL2.out]; refine wpOp_of_list' rfl ?_
      go_wp2_with fail
      exact hK _ _ hfq (Below.refl _ _)
    | 21, _, hS, hK =>
      rw [d21] at hK
      obtain ⟨v118, h118, f118⟩ := hS.got 18 (q := .boolF true) rfl (by kernel_rfl) d18
      obtain rfl : v118 = .bool true := f118
      have e118 := at_eval h118
      obtain ⟨v119, h119, f119⟩ := hS.got 19 (q := .fmF (hA)) rfl (by kernel_rfl) d19
      have e119 := at_eval h119
      obtain ⟨v120, h120, f120⟩ := hS.got 20 (q := .fmF (hB)) rfl (by kernel_rfl) d20
      have e120 := at_eval h120
      rw [hL.out, ← hL2.out]; refine wpOp_of_list' rfl ?_
      go_wp2_with fail
      refine (compare_any (hA) (hB) W.heap.size _ _ W (fm_at f119) (fm_at f120) (Nat.le_refl _)).mono ?_
      rintro e W2 ⟨rfl, hb⟩
      rw [hd_cmp]
      go_wp2_with fail
      exact hK _ _ rfl hb
    | 22, _, hS, hK =>
      rw [d22] at hK
      obtain ⟨v118, h118, f118⟩ := hS.got 18 (q := .boolF true) rfl (by kernel_rfl) d18
      obtain rfl : v118 = .bool true := f118
      have e118 := at_eval h118
      obtain ⟨v121, h121, f121⟩ := hS.got 21 (q := .intF (-1)) rfl (by kernel_rfl) d21
      obtain rfl : v121 = .int .i64 (-1) := f121
      have e121 := at_eval h121
      rw [hL.out, ← hL2.out]; refine wpOp_of_list' rfl ?_
      go_wp2_with fail
      exact hK _ _ rfl (Below.refl _ _)
    | 23, _, hS, hK =>
      rw [d23] at hK
      obtain ⟨v118, h118, f118⟩ := hS.got 18 (q := .boolF true) rfl (by kernel_rfl) d18
      obtain rfl : v118 = .bool true := f118
      have e118 := at_eval h118
      obtain ⟨v122, h122, f122⟩ := hS.got 22 (q := .boolF true) rfl (by kernel_rfl) d22
      obtain rfl : v122 = .bool true := f122
      have e122 := at_eval h122
      rw [hL.out, ← hL2.out]; refine wpOp_of_list' rfl ?_
      go_wp2_with fail
      exact hK _ _ rfl (Below.refl _ _)
    | 24, _, hS, hK =>
      rw [d24] at hK
      obtain ⟨v123, h123, f123⟩ := hS.got 23 (q := .boolF true) rfl (by kernel_rfl) d23
      obtain rfl : v123 = .bool true := f123
      have e123 := at_eval h123
      rw [hL.out, ← hL2.out]; refine wpOp_of_list' rfl ?_
      go_wp2_with fail
      exact hK _ _ rfl (Below.refl _ _)
    | 25, _, hS, hK =>
      rw [d25] at hK
      obtain ⟨v124, h124, f124⟩ := hS.got 24 (q := .boolF true) rfl (by kernel_rfl) d24
      obtain rfl : v124 = .bool true := f124
      have e124 := at_eval h124
      have h2 := hS.slot (by kernel_rfl) p2
      have e2 := at_eval h2
      obtain ⟨o2, c2, ⟨b0, b1, b2, b3, b4⟩, hfq⟩ := (B2.out.below hS.below).cells
      rw [hL.out, ← hL2.out]; refine wpOp_of_list' rfl ?_
      go_wp2_with fail
      exact hK _ _ hfq (Below.refl _ _)
    | 26, _, hS, hK =>
      rw [d26] at hK
      obtain ⟨v124, h124, f124⟩ := hS.got 24 (q := .boolF true) rfl (by kernel_rfl) d24
      obtain rfl : v124 = .bool true := f124
      have e124 := at_eval h124
      have h2 := hS.slot (by kernel_rfl) p2
      have e2 := at_eval h2
      obtain ⟨o2, c2, ⟨b0, b1, b2, b3, b4⟩, hfq⟩ := (B2.out.below hS.below).cells
      rw [hL.out, ← hL2.out]; refine wpOp_of_list' rfl ?_
      go_wp2_with fail
      exact hK _ _ hfq (Below.refl _ _)
    | 27, _, hS, hK =>
      rw [d27] at hK
      obtain ⟨v124, h124, f124⟩ := hS.got 24 (q := .boolF true) rfl (by kernel_rfl) d24
      obtain rfl : v124 = .bool true := f124
      have e124 := at_eval h124
      obtain ⟨v125, h125, f125⟩ := hS.got 25 (q := .fmF (hB)) rfl (by kernel_rfl) d25
      have e125 := at_eval h125
      obtain ⟨v126, h126, f126⟩ := hS.got 26 (q := .fmF (hB)) rfl (by kernel_rfl) d26
      have e126 := at_eval h126
      rw [hL.out, ← hL2.out]; refine wpOp_of_list' rfl ?_
      go_wp2_with fail
      refine (compare_any (hB) (hB) W.heap.size _ _ W (fm_at f125) (fm_at f126) (Nat.le_refl _)).mono ?_
      rintro e W2 ⟨rfl, hb⟩
      rw [cmpF_self]
      go_wp2_with fail
      exact hK _ _ rfl hb
    | 28, _, hS, hK =>
      rw [d28] at hK
      obtain ⟨v124, h124, f124⟩ := hS.got 24 (q := .boolF true) rfl (by kernel_rfl) d24
      obtain rfl : v124 = .bool true := f124
      have e124 := at_eval h124
      obtain ⟨v127, h127, f127⟩ := hS.got 27 (q := .intF (0)) rfl (by kernel_rfl) d27
      obtain rfl : v127 = .int .i64 (0) := f127
      have e127 := at_eval h127
      rw [hL.out, ← hL2.out]; refine wpOp_of_list' rfl ?_
      go_wp2_with fail
      exact hK _ _ rfl (Below.refl _ _)
    | 29, _, hS, hK =>
      rw [d29] at hK
      obtain ⟨v124, h124, f124⟩ := hS.got 24 (q := .boolF true) rfl (by kernel_rfl) d24
      obtain rfl : v124 = .bool true := f124
      have e124 := at_eval h124
      obtain ⟨v128, h128, f128⟩ := hS.got 28 (q := .boolF true) rfl (by kernel_rfl) d28
      obtain rfl : v128 = .bool true := f128
      have e128 := at_eval h128
      rw [hL.out, ← hL2.out]; refine wpOp_of_list' rfl ?_
      go_wp2_with fail
      exact hK _ _ rfl (Below.refl _ _)
    | 30, _, hS, hK =>
      rw [d30] at hK
      obtain ⟨v129, h129, f129⟩ := hS.got 29 (q := .boolF true) rfl (by kernel_rfl) d29
      obtain rfl : v129 = .bool true := f129
      have e129 := at_eval h129
      rw [hL.out, ← hL2.out]; refine wpOp_of_list' rfl ?_
      go_wp2_with fail
      exact hK _ _ rfl (Below.refl _ _)
    | n + 31, hi, _, _ => exact absurd hi (by rw [hsz]; omega)
  · intro x W hB hx
    have y4 : x 4 = .bool true := hx 4 104 (by rw [hsz]; omega) d4
    have y5 : x 5 = .bool true := hx 5 105 (by rw [hsz]; omega) d5
    have y7 : x 7 = .int .i64 (1) := hx 7 107 (by rw [hsz]; omega) d7
    have y8 : x 8 = .bool true := hx 8 108 (by rw [hsz]; omega) d8
    have y9 : x 9 = .bool true := hx 9 109 (by rw [hsz]; omega) d9
    have y10 : x 10 = .bool true := hx 10 110 (by rw [hsz]; omega) d10
    have y16 : x 16 = .bool true := hx 16 116 (by rw [hsz]; omega) d16
    have y17 : x 17 = .bool true := hx 17 117 (by rw [hsz]; omega) d17
    have y18 : x 18 = .bool true := hx 18 118 (by rw [hsz]; omega) d18
    have y21 : x 21 = .int .i64 (-1) := hx 21 121 (by rw [hsz]; omega) d21
    have y22 : x 22 = .bool true := hx 22 122 (by rw [hsz]; omega) d22
    have y23 : x 23 = .bool true := hx 23 123 (by rw [hsz]; omega) d23
    have y24 : x 24 = .bool true := hx 24 124 (by rw [hsz]; omega) d24
    have y27 : x 27 = .int .i64 (0) := hx 27 127 (by rw [hsz]; omega) d27
    have y28 : x 28 = .bool true := hx 28 128 (by rw [hsz]; omega) d28
    have y29 : x 29 = .bool true := hx 29 129 (by rw [hsz]; omega) d29
    have y30 : x 30 = .bool true := hx 30 15 (by rw [hsz]; omega) d30
    have hl := hend x W hB
    have hr : List.range (opsAt Tryz.f12 11).size = [0, 1, 2, 3, 4, 5, 6, 7, 8, 9, 10, 11, 12, 13, 14, 15, 16, 17, 18, 19, 20, 21, 22, 23, 24, 25, 26, 27, 28, 29, 30] := by rw [hsz]; rfl
    rw [hr]
    simp only [putL, d0, d1, d2, d3, d4, d5, d6, d7, d8, d9, d10, d11, d12, d13, d14, d15, d16, d17, d18, d19, d20, d21, d22, d23, d24, d25, d26, d27, d28, d29, d30]
    simp only [y4, y5, y7, y8, y9, y10, y16, y17, y18, y21, y22, y23, y24, y27, y28, y29, y30]
    exact hl
end Go.Proofs.YtbnnjbfbifihaaaGreatDoor
