/-
  The last case of FormulaKernels' walk: a formula that is no kernel but has one.
-/
import Derived.Test.YtlkoacopknolnaaGreatDoorFiK
import Derived.Test.YtlkoacopknolnaaGreatDoorFjB
import Derived.Test.YtlkoacopknolnaaGreatDoorGj
import Derived.Test.YtlkoacopknolnaaGreatDoorGd
namespace Go.Proofs.YtlkoacopknolnaaGreatDoor
open Go.RowKit

set_option maxRecDepth 100000 in
set_option maxHeartbeats 8000000 in
theorem kerno_r10 {f k : Fm} {nm : List ByteArray} {k1 k4 : Nat} (a0 : Act) (W0 : World) (Q : Exit → Act → World → Prop) (hE : Env W0) (hz : a0.tmps.size = 77) (p1 : a0.tmps[(1 : Nat)]? = some (.pointer (some ⟨k1, 0, none⟩))) (p3 : a0.tmps[(3 : Nat)]? = some (.bool true)) (p4 : a0.tmps[(4 : Nat)]? = some (.pointer (some ⟨k4, 0, none⟩))) (B1 : Hid (Bx W0 k1 (f))) (B4 : Hid (Bx W0 k4 (k))) (m1 : Hid (namesF f = nm)) (m2 : Hid (namesF k = nm)) (hkf : Hid (kernelB f = false)) (n1 : f.nodes ≤ 1000) (n2 : k.nodes ≤ 1000)
    (hend : ∀ (x : Nat → Value) (W : World), Below W0.heap.size W0 W → Q .normal ((((((((((((((((((((a0.put (some 58) (.bool true)).put (some 59) (.bool true)).put (some 60) (x 2)).put (some 61) (x 3)).put (some 62) (x 4)).put (some 63) (x 5)).put (some 64) (.bool true)).put (some 65) (.bool true)).put (some 66) (.bool true)).put (some 67) (x 9)).put (some 68) (.bool false)).put (some 69) (.bool true)).put (some 70) (.bool true)).put (some 71) (x 13)).put (some 72) (x 14)).put (some 73) (x 15)).put (some 74) (x 16)).put (some 75) (.bool true)).put (some 76) (.bool true)).put (some 2) (.bool true)) W) :
    (Code.region 10 (opsAt Tryz.f6 10) true).wp Tryz.prog Q a0 W0 := by
  have d0 : dstOf (opsAt Tryz.f6 10) 0 = some 58 := by kernel_rfl
  have d1 : dstOf (opsAt Tryz.f6 10) 1 = some 59 := by kernel_rfl
  have d2 : dstOf (opsAt Tryz.f6 10) 2 = some 60 := by kernel_rfl
  have d3 : dstOf (opsAt Tryz.f6 10) 3 = some 61 := by kernel_rfl
  have d4 : dstOf (opsAt Tryz.f6 10) 4 = some 62 := by kernel_rfl
  have d5 : dstOf (opsAt Tryz.f6 10) 5 = some 63 := by kernel_rfl
  have d6 : dstOf (opsAt Tryz.f6 10) 6 = some 64 := by kernel_rfl
  have d7 : dstOf (opsAt Tryz.f6 10) 7 = some 65 := by kernel_rfl
  have d8 : dstOf (opsAt Tryz.f6 10) 8 = some 66 := by kernel_rfl
  have d9 : dstOf (opsAt Tryz.f6 10) 9 = some 67 := by kernel_rfl
  have d10 : dstOf (opsAt Tryz.f6 10) 10 = some 68 := by kernel_rfl
  have d11 : dstOf (opsAt Tryz.f6 10) 11 = some 69 := by kernel_rfl
  have d12 : dstOf (opsAt Tryz.f6 10) 12 = some 70 := by kernel_rfl
  have d13 : dstOf (opsAt Tryz.f6 10) 13 = some 71 := by kernel_rfl
  have d14 : dstOf (opsAt Tryz.f6 10) 14 = some 72 := by kernel_rfl
  have d15 : dstOf (opsAt Tryz.f6 10) 15 = some 73 := by kernel_rfl
  have d16 : dstOf (opsAt Tryz.f6 10) 16 = some 74 := by kernel_rfl
  have d17 : dstOf (opsAt Tryz.f6 10) 17 = some 75 := by kernel_rfl
  have d18 : dstOf (opsAt Tryz.f6 10) 18 = some 76 := by kernel_rfl
  have d19 : dstOf (opsAt Tryz.f6 10) 19 = some 2 := by kernel_rfl
  have hsz : (opsAt Tryz.f6 10).size = 20 := by kernel_rfl
  obtain ⟨L, hL⟩ : ∃ L, Hid ((opsAt Tryz.f6 10) = L) := ⟨_, hidi rfl⟩
  have hL2 := hL.out
  unfold opsAt Tryz.f6 at hL2
  simp only [findRegion, Nat.reduceBEq, if_true, if_false, Bool.false_eq_true, Option.getD_some] at hL2
  replace hL2 := hidi hL2
  refine wp_region_facts (by kernel_rfl) (by kernel_rfl) (by kernel_rfl) (by rw [hz]; kernel_rfl) (by kernel_rfl) (fun i => match i with
      | 0 => .boolF true
      | 1 => .boolF true
      | 2 => .fmF (f)
      | 3 => .strsF (nm)
      | 4 => .fmF (k)
      | 5 => .strsF (nm)
      | 6 => .boolF true
      | 7 => .boolF true
      | 8 => .boolF true
      | 9 => .fmF (f)
      | 10 => .boolF false
      | 11 => .boolF true
      | 12 => .boolF true
      | 13 => .valF undef
      | 14 => .valF undef
      | 15 => .valF undef
      | 16 => .valF undef
      | 17 => .boolF true
      | 18 => .boolF true
      | 19 => .boolF true
      | _ => .free) ?_ ?_
  · intro i a W K hi hS hK
    have hEW := hE.below hS.below
    match i, hi, hS, hK with
    | 0, _, hS, hK =>
      rw [d0] at hK
      have h3 := hS.slot (by kernel_rfl) p3
      have e3 := at_eval h3
      rw [hL.out, ← hL2.out]; refine wpOp_of_list' rfl ?_
      go_wp2_with fail
      exact hK _ _ rfl (Below.refl _ _)
    | 1, _, hS, hK =>
      rw [d1] at hK
      obtain ⟨v58, h58, f58⟩ := hS.got 0 (q := .boolF true) rfl (by kernel_rfl) d0
      obtain rfl : v58 = .bool true := f58
      have e58 := at_eval h58
      rw [hL.out, ← hL2.out]; refine wpOp_of_list' rfl ?_
      go_wp2_with fail
      exact hK _ _ rfl (Below.refl _ _)
    | 2, _, hS, hK =>
      rw [d2] at hK
      obtain ⟨v59, h59, f59⟩ := hS.got 1 (q := .boolF true) rfl (by kernel_rfl) d1
      obtain rfl : v59 = .bool true := f59
      have e59 := at_eval h59
      have h1 := hS.slot (by kernel_rfl) p1
      have e1 := at_eval h1
      obtain ⟨o1, c1, ⟨b0, b1, b2, b3, b4⟩, hfq⟩ := (B1.out.below hS.below).cells
      rw [hL.out, ← hL2.out]; refine wpOp_of_list' rfl ?_
      go_wp2_with fail
      exact hK _ _ hfq (Below.refl _ _)
    | 3, _, hS, hK =>
      rw [d3] at hK
      obtain ⟨v59, h59, f59⟩ := hS.got 1 (q := .boolF true) rfl (by kernel_rfl) d1
      obtain rfl : v59 = .bool true := f59
      have e59 := at_eval h59
      obtain ⟨v60, h60, f60⟩ := hS.got 2 (q := .fmF (f)) rfl (by kernel_rfl) d2
      have e60 := at_eval h60
      rw [hL.out, ← hL2.out]; refine wpOp_of_list' rfl ?_
      go_wp2_with fail
      refine (names_any f W.heap.size _ W (fm_at f60) (Nat.le_refl _) hEW (by omega)).mono ?_
      rintro e W2 ⟨r, rfl, hN, hb⟩
      rw [m1.out] at hN
      go_wp2_with fail
      exact hK _ _ (strs_got hN) hb
    | 4, _, hS, hK =>
      rw [d4] at hK
      obtain ⟨v59, h59, f59⟩ := hS.got 1 (q := .boolF true) rfl (by kernel_rfl) d1
      obtain rfl : v59 = .bool true := f59
      have e59 := at_eval h59
      have h4 := hS.slot (by kernel_rfl) p4
      have e4 := at_eval h4
      obtain ⟨o4, c4, ⟨b0, b1, b2, b3, b4⟩, hfq⟩ := (B4.out.below hS.below).cells
      rw [hL.out, ← hL2.out]; refine wpOp_of_list' rfl ?_
      go_wp2_with fail
      exact hK _ _ hfq (Below.refl _ _)
    | 5, _, hS, hK =>
      rw [d5] at hK
      obtain ⟨v59, h59, f59⟩ := hS.got 1 (q := .boolF true) rfl (by kernel_rfl) d1
      obtain rfl : v59 = .bool true := f59
      have e59 := at_eval h59
      obtain ⟨v62, h62, f62⟩ := hS.got 4 (q := .fmF (k)) rfl (by kernel_rfl) d4
      have e62 := at_eval h62
      rw [hL.out, ← hL2.out]; refine wpOp_of_list' rfl ?_
      go_wp2_with fail
      refine (names_any k W.heap.size _ W (fm_at f62) (Nat.le_refl _) hEW (by omega)).mono ?_
      rintro e W2 ⟨r, rfl, hN, hb⟩
      rw [m2.out] at hN
      go_wp2_with fail
      exact hK _ _ (strs_got hN) hb
    | 6, _, hS, hK =>
      rw [d6] at hK
      obtain ⟨v59, h59, f59⟩ := hS.got 1 (q := .boolF true) rfl (by kernel_rfl) d1
      obtain rfl : v59 = .bool true := f59
      have e59 := at_eval h59
      obtain ⟨v61, h61, f61⟩ := hS.got 3 (q := .strsF (nm)) rfl (by kernel_rfl) d3
      have e61 := at_eval h61
      obtain ⟨v63, h63, f63⟩ := hS.got 5 (q := .strsF (nm)) rfl (by kernel_rfl) d5
      have e63 := at_eval h63
      rw [hL.out, ← hL2.out]; refine wpOp_of_list' rfl ?_
      go_wp2_with fail
      refine (strings_any W.heap.size _ _ nm nm W (StrsP.mono f61 fun _ hb => hb.1) (StrsP.mono f63 fun _ hb => hb.1) (Nat.le_refl _)).mono ?_
      rintro e W2 ⟨rfl, hb⟩
      rw [strsB_self]
      go_wp2_with fail
      exact hK _ _ rfl hb
    | 7, _, hS, hK =>
      rw [d7] at hK
      obtain ⟨v59, h59, f59⟩ := hS.got 1 (q := .boolF true) rfl (by kernel_rfl) d1
      obtain rfl : v59 = .bool true := f59
      have e59 := at_eval h59
      obtain ⟨v64, h64, f64⟩ := hS.got 6 (q := .boolF true) rfl (by kernel_rfl) d6
      obtain rfl : v64 = .bool true := f64
      have e64 := at_eval h64
      rw [hL.out, ← hL2.out]; refine wpOp_of_list' rfl ?_
      go_wp2_with fail
      exact hK _ _ rfl (Below.refl _ _)
    | 8, _, hS, hK =>
      rw [d8] at hK
      obtain ⟨v65, h65, f65⟩ := hS.got 7 (q := .boolF true) rfl (by kernel_rfl) d7
      obtain rfl : v65 = .bool true := f65
      have e65 := at_eval h65
      rw [hL.out, ← hL2.out]; refine wpOp_of_list' rfl ?_
      go_wp2_with fail
      exact hK _ _ rfl (Below.refl _ _)
    | 9, _, hS, hK =>
      rw [d9] at hK
      obtain ⟨v66, h66, f66⟩ := hS.got 8 (q := .boolF true) rfl (by kernel_rfl) d8
      obtain rfl : v66 = .bool true := f66
      have e66 := at_eval h66
      have h1 := hS.slot (by kernel_rfl) p1
      have e1 := at_eval h1
      obtain ⟨o1, c1, ⟨b0, b1, b2, b3, b4⟩, hfq⟩ := (B1.out.below hS.below).cells
      rw [hL.out, ← hL2.out]; refine wpOp_of_list' rfl ?_
      go_wp2_with fail
      exact hK _ _ hfq (Below.refl _ _)
    | 10, _, hS, hK =>
      rw [d10] at hK
      obtain ⟨v66, h66, f66⟩ := hS.got 8 (q := .boolF true) rfl (by kernel_rfl) d8
      obtain rfl : v66 = .bool true := f66
      have e66 := at_eval h66
      obtain ⟨v67, h67, f67⟩ := hS.got 9 (q := .fmF (f)) rfl (by kernel_rfl) d9
      have e67 := at_eval h67
      rw [hL.out, ← hL2.out]; refine wpOp_of_list' rfl ?_
      go_wp2_with fail
      refine (iskernel_any f W.heap.size _ W (fm_at f67) (Nat.le_refl _) hEW (by omega)).mono ?_
      rintro e W2 ⟨rfl, hb⟩
      rw [hkf.out]
      go_wp2_with fail
      exact hK _ _ rfl hb
    | 11, _, hS, hK =>
      rw [d11] at hK
      obtain ⟨v66, h66, f66⟩ := hS.got 8 (q := .boolF true) rfl (by kernel_rfl) d8
      obtain rfl : v66 = .bool true := f66
      have e66 := at_eval h66
      obtain ⟨v68, h68, f68⟩ := hS.got 10 (q := .boolF false) rfl (by kernel_rfl) d10
      obtain rfl : v68 = .bool false := f68
      have e68 := at_eval h68
      rw [hL.out, ← hL2.out]; refine wpOp_of_list' rfl ?_
      go_wp2_with fail
      exact hK _ _ rfl (Below.refl _ _)
    | 12, _, hS, hK =>
      rw [d12] at hK
      obtain ⟨v66, h66, f66⟩ := hS.got 8 (q := .boolF true) rfl (by kernel_rfl) d8
      obtain rfl : v66 = .bool true := f66
      have e66 := at_eval h66
      obtain ⟨v69, h69, f69⟩ := hS.got 11 (q := .boolF true) rfl (by kernel_rfl) d11
      obtain rfl : v69 = .bool true := f69
      have e69 := at_eval h69
      rw [hL.out, ← hL2.out]; refine wpOp_of_list' rfl ?_
      go_wp2_with fail
      exact hK _ _ rfl (Below.refl _ _)
    | 13, _, hS, hK =>
      rw [d13] at hK
      obtain ⟨v70, h70, f70⟩ := hS.got 12 (q := .boolF true) rfl (by kernel_rfl) d12
      obtain rfl : v70 = .bool true := f70
      have e70 := at_eval h70
      rw [hL.out, ← hL2.out]; refine wpOp_of_list' rfl ?_
      go_wp2_with fail
      exact hK _ _ (rfl : undef = undef) (Below.refl _ _)
    | 14, _, hS, hK =>
      rw [d14] at hK
      obtain ⟨v70, h70, f70⟩ := hS.got 12 (q := .boolF true) rfl (by kernel_rfl) d12
      obtain rfl : v70 = .bool true := f70
      have e70 := at_eval h70
      rw [hL.out, ← hL2.out]; refine wpOp_of_list' rfl ?_
      go_wp2_with fail
      exact hK _ _ (rfl : undef = undef) (Below.refl _ _)
    | 15, _, hS, hK =>
      rw [d15] at hK
      obtain ⟨v70, h70, f70⟩ := hS.got 12 (q := .boolF true) rfl (by kernel_rfl) d12
      obtain rfl : v70 = .bool true := f70
      have e70 := at_eval h70
      rw [hL.out, ← hL2.out]; refine wpOp_of_list' rfl ?_
      go_wp2_with fail
      exact hK _ _ (rfl : undef = undef) (Below.refl _ _)
    | 16, _, hS, hK =>
      rw [d16] at hK
      obtain ⟨v70, h70, f70⟩ := hS.got 12 (q := .boolF true) rfl (by kernel_rfl) d12
      obtain rfl : v70 = .bool true := f70
      have e70 := at_eval h70
      rw [hL.out, ← hL2.out]; refine wpOp_of_list' rfl ?_
      go_wp2_with fail
      exact hK _ _ (rfl : undef = undef) (Below.refl _ _)
    | 17, _, hS, hK =>
      rw [d17] at hK
      obtain ⟨v66, h66, f66⟩ := hS.got 8 (q := .boolF true) rfl (by kernel_rfl) d8
      obtain rfl : v66 = .bool true := f66
      have e66 := at_eval h66
      obtain ⟨v70, h70, f70⟩ := hS.got 12 (q := .boolF true) rfl (by kernel_rfl) d12
      obtain rfl : v70 = .bool true := f70
      have e70 := at_eval h70
      rw [hL.out, ← hL2.out]; refine wpOp_of_list' rfl ?_
      go_wp2_with fail
      exact hK _ _ rfl (Below.refl _ _)
    | 18, _, hS, hK =>
      rw [d18] at hK
      obtain ⟨v66, h66, f66⟩ := hS.got 8 (q := .boolF true) rfl (by kernel_rfl) d8
      obtain rfl : v66 = .bool true := f66
      have e66 := at_eval h66
      obtain ⟨v75, h75, f75⟩ := hS.got 17 (q := .boolF true) rfl (by kernel_rfl) d17
      obtain rfl : v75 = .bool true := f75
      have e75 := at_eval h75
      rw [hL.out, ← hL2.out]; refine wpOp_of_list' rfl ?_
      go_wp2_with fail
      exact hK _ _ rfl (Below.refl _ _)
    | 19, _, hS, hK =>
      rw [d19] at hK
      obtain ⟨v76, h76, f76⟩ := hS.got 18 (q := .boolF true) rfl (by kernel_rfl) d18
      obtain rfl : v76 = .bool true := f76
      have e76 := at_eval h76
      rw [hL.out, ← hL2.out]; refine wpOp_of_list' rfl ?_
      go_wp2_with fail
      exact hK _ _ rfl (Below.refl _ _)
    | n + 20, hi, _, _ => exact absurd hi (by rw [hsz]; omega)
  · intro x W hB hx
    have y0 : x 0 = .bool true := hx 0 58 (by rw [hsz]; omega) d0
    have y1 : x 1 = .bool true := hx 1 59 (by rw [hsz]; omega) d1
    have y6 : x 6 = .bool true := hx 6 64 (by rw [hsz]; omega) d6
    have y7 : x 7 = .bool true := hx 7 65 (by rw [hsz]; omega) d7
    have y8 : x 8 = .bool true := hx 8 66 (by rw [hsz]; omega) d8
    have y10 : x 10 = .bool false := hx 10 68 (by rw [hsz]; omega) d10
    have y11 : x 11 = .bool true := hx 11 69 (by rw [hsz]; omega) d11
    have y12 : x 12 = .bool true := hx 12 70 (by rw [hsz]; omega) d12
    have y17 : x 17 = .bool true := hx 17 75 (by rw [hsz]; omega) d17
    have y18 : x 18 = .bool true := hx 18 76 (by rw [hsz]; omega) d18
    have y19 : x 19 = .bool true := hx 19 2 (by rw [hsz]; omega) d19
    have hl := hend x W hB
    have hr : List.range (opsAt Tryz.f6 10).size = [0, 1, 2, 3, 4, 5, 6, 7, 8, 9, 10, 11, 12, 13, 14, 15, 16, 17, 18, 19] := by rw [hsz]; rfl
    rw [hr]
    simp only [putL, d0, d1, d2, d3, d4, d5, d6, d7, d8, d9, d10, d11, d12, d13, d14, d15, d16, d17, d18, d19]
    simp only [y0, y1, y6, y7, y8, y10, y11, y12, y17, y18, y19]
    exact hl

set_option maxRecDepth 100000 in
set_option maxHeartbeats 8000000 in
theorem ker_no (hd : HeadOk) (f : Fm) (v1 : Value) (w : World) (hE : Env w) (h1 : FAt w.heap.size w v1 f) (s1 : Hid (f.nodes ≤ 420)) (s2 : Hid (fvalidB f = true)) (s3 : Hid (layB f = true)) (k : Fm) (hke : Hid (kernelF f = (k, 0))) (hkk : Hid (kernelF k = (k, 0))) (hkb : Hid (kernelB k = true)) (hkn : Hid (k.nodes ≤ 60)) (hkm : Hid (namesF k = namesF f)) (hkf : Hid (kernelB f = false)) :
    Calls Tryz.prog 6 #[v1] w fun e w' => e = .returned (.bool true) ∧ Below w.heap.size w w' := by
  obtain ⟨o1, c1, rfl, -, hA1⟩ := h1.open
  obtain ⟨W0, hW0, hB0, hc, hlt⟩ := fm_open w (.int .i64 f.op) (.string f.name) (.int .i64 f.val) (.int .i64 f.bound) (.slice o1 f.args.length c1)
  have hE0 : Env W0 := hE.below hB0
  go_enter Tryz.func6, Tryz.ntmps6
  go_wp2_with fail
  rw [hW0.out]
  refine (hd _ hE0).mono ?_
  rintro e w1 ⟨rfl, hb1⟩
  obtain ⟨d0, d1, d2, d3, d4⟩ := hc.out.later hb1 hlt
  rw [Nat.zero_add] at d1 d2 d3 d4
  have hB1 := hB0.trans (hb1.mono hB0.size)
  go_wp2_with fail
  refine (small420 f w.heap.size _ _ (h1.kept hB1 (Nat.le_refl _)) hB1.size s1).mono ?_
  rintro e w2 ⟨rfl, hb2⟩
  have hB2 := hB1.trans (hb2.mono hB1.size)
  have hx2 := hb1.trans (hb2.mono hb1.size)
  clear d0 d1 d2 d3 d4
  obtain ⟨d0, d1, d2, d3, d4⟩ := hc.out.later hx2 hlt
  rw [Nat.zero_add] at d1 d2 d3 d4
  go_wp2_with fail
  refine (refvalid_any f w.heap.size _ _ (h1.kept hB2 (Nat.le_refl _)) hB2.size).mono ?_
  rintro e w3 ⟨rfl, hb3⟩
  rw [s2.out]
  have hB3 := hB2.trans (hb3.mono hB2.size)
  have hx3 := hx2.trans (hb3.mono hx2.size)
  clear d0 d1 d2 d3 d4
  obtain ⟨d0, d1, d2, d3, d4⟩ := hc.out.later hx3 hlt
  rw [Nat.zero_add] at d1 d2 d3 d4
  go_wp2_with fail
  refine (reflayered_any f w.heap.size _ _ (h1.kept hB3 (Nat.le_refl _)) hB3.size).mono ?_
  rintro e w4 ⟨rfl, hb4⟩
  rw [s3.out]
  have hB4 := hB3.trans (hb4.mono hB3.size)
  have hx4 := hx3.trans (hb4.mono hx3.size)
  clear d0 d1 d2 d3 d4
  obtain ⟨d0, d1, d2, d3, d4⟩ := hc.out.later hx4 hlt
  rw [Nat.zero_add] at d1 d2 d3 d4
  go_wp2_with fail
  have hP0 : ∀ b, b < w.heap.size → b < w4.heap.size := fun b hb => Nat.lt_of_lt_of_le hb hB4.size
  refine (kernel_any (· < w.heap.size) f _ w4 (hE.below hB4) (h1.kept hB4 (Nat.le_refl _)) hP0 (by have := s1.out; omega)).mono ?_
  rintro e wk ⟨rk, rfl, hK, hbk⟩
  rw [hke.out] at hK ⊢
  obtain ⟨ok, ck, rfl, hfk, hAk⟩ := hK.open
  have hBk := hB4.trans (hbk.mono hB4.size)
  have hb0k := hx4.trans (hbk.mono hx4.size)
  obtain ⟨WK, hWK, hBK, hzK, hcK⟩ := box_new wk k ok ck
  have hBK' := hBk.trans (hBK.mono hBk.size)
  have hb0K := hb0k.trans (hBK.mono hb0k.size)
  have hKk : FAtP (· < WK.heap.size) WK (.agg #[.int .i64 k.op, .string k.name, .int .i64 k.val, .int .i64 k.bound, .slice ok k.args.length ck]) k :=
    FAtP.mono (hK.kept hBK (fun b hb => hb.elim (fun h => Nat.lt_of_lt_of_le h hBk.size) (fun h => h.2))) (fun b hb => hb.elim (fun h => Nat.lt_of_lt_of_le h hBK'.size) (fun h => Nat.lt_of_lt_of_le h.2 hBK.size))
  obtain ⟨k0, k1, k2, k3, k4⟩ := hcK.out
  rw [Nat.zero_add] at k1 k2 k3 k4
  rw [← hWK.out] at k0 k1 k2 k3 k4
  clear d0 d1 d2 d3 d4
  go_wp2_with fail
  rw [hWK.out]
  refine (kernel_any (· < WK.heap.size) k _ WK (hE.below hBK') hKk (fun b hb => hb) (by have := hkn.out; omega)).mono ?_
  rintro e wm ⟨rm, rfl, hM, hbm⟩
  rw [hkk.out] at hM ⊢
  obtain ⟨om, cm, rfl, hfm, hAm⟩ := hM.open
  have hBm := hBK'.trans (hbm.mono hBK'.size)
  obtain ⟨WM, hWM, hBM, hzM, hcM⟩ := box_new wm k om cm
  have hKM : Below WK.heap.size WK WM := hbm.trans (hBM.mono hbm.size)
  have hBM' := hBK'.trans (hKM.mono hBK'.size)
  have hb0M := hb0K.trans (hKM.mono hb0K.size)
  have hKkM := hKk.kept hKM fun b hb => hb
  have hMM : FAtP (· < WM.heap.size) WM (.agg #[.int .i64 k.op, .string k.name, .int .i64 k.val, .int .i64 k.bound, .slice om k.args.length cm]) k :=
    FAtP.mono (hM.kept hBM (fun b hb => hb.elim (fun h => Nat.lt_of_lt_of_le h hbm.size) (fun h => h.2))) (fun b hb => hb.elim (fun h => Nat.lt_of_lt_of_le h hKM.size) (fun h => Nat.lt_of_lt_of_le h.2 hBM.size))
  clear k0 k1 k2 k3 k4
  obtain ⟨k0, k1, k2, k3, k4⟩ := hcK.out.below hKM (by omega)
  obtain ⟨m0, m1, m2, m3, m4⟩ := hcM.out
  rw [Nat.zero_add] at k1 k2 k3 k4 m1 m2 m3 m4
  rw [← hWM.out] at k0 k1 k2 k3 k4 m0 m1 m2 m3 m4
  go_wp2_with fail
  rw [hWM.out]
  refine (iskernel_any k WM.heap.size _ WM (hKkM.mono fun b hb => Nat.lt_of_lt_of_le hb hKM.size) (Nat.le_refl _) (hE.below hBM') (by have := hkn.out; omega)).mono ?_
  rintro e w6 ⟨rfl, hb6⟩
  rw [hkb.out]
  have hKM6 := hKM.trans (hb6.mono hKM.size)
  clear k0 k1 k2 k3 k4 m0 m1 m2 m3 m4
  obtain ⟨k0, k1, k2, k3, k4⟩ := hcK.out.below hKM6 (by omega)
  obtain ⟨m0, m1, m2, m3, m4⟩ := hcM.out.below hb6 (by omega)
  rw [Nat.zero_add] at k1 k2 k3 k4 m1 m2 m3 m4
  go_wp2_with fail
  have hcmp := compare_any k k WM.heap.size _ _ w6 ((hKkM.mono fun b hb => Nat.lt_of_lt_of_le hb hKM.size).kept hb6 fun b hb => hb) (hMM.kept hb6 fun b hb => hb) hb6.size
  rw [(good_fm k).refl] at hcmp
  refine hcmp.mono ?_
  rintro e w7 ⟨rfl, hb7⟩
  have hb67 := hb6.trans (hb7.mono hb6.size)
  have hKM7 := hKM.trans (hb67.mono hKM.size)
  have hB7 := hBM'.trans (hb67.mono hBM'.size)
  have hb07 := hb0M.trans (hb67.mono hb0M.size)
  have hKk7 := hKk.kept hKM7 fun b hb => hb
  have hz7 := hKM7.size
  clear k0 k1 k2 k3 k4 m0 m1 m2 m3 m4
  have hD : Below w7.heap.size w7 w7.drew := (Below.refl _ w7).drew
  have hSB : Hid (∀ W, Below w7.heap.size w7 W → W.cell? ⟨w.heap.size, 0, none⟩ = some (.int .i64 f.op) ∧ W.cell? ⟨w.heap.size, 1, none⟩ = some (.string f.name) ∧ W.cell? ⟨w.heap.size, 2, none⟩ = some (.int .i64 f.val) ∧ W.cell? ⟨w.heap.size, 3, none⟩ = some (.int .i64 f.bound) ∧ W.cell? ⟨w.heap.size, 4, none⟩ = some (.slice o1 f.args.length c1) ∧ W.cell? ⟨wk.heap.size, 0, none⟩ = some (.int .i64 k.op) ∧ W.cell? ⟨wk.heap.size, 1, none⟩ = some (.string k.name) ∧ W.cell? ⟨wk.heap.size, 2, none⟩ = some (.int .i64 k.val) ∧ W.cell? ⟨wk.heap.size, 3, none⟩ = some (.int .i64 k.bound) ∧ W.cell? ⟨wk.heap.size, 4, none⟩ = some (.slice ok k.args.length ck)) := by
    intro W hB
    obtain ⟨a0, a1, a2, a3, a4⟩ := hc.out.later (hb07.trans (hB.mono hb07.size)) hlt
    obtain ⟨b0, b1, b2, b3, b4⟩ := hcK.out.below (hKM7.trans (hB.mono hKM7.size)) (by omega)
    rw [Nat.zero_add] at a1 a2 a3 a4 b1 b2 b3 b4
    exact ⟨a0, a1, a2, a3, a4, b0, b1, b2, b3, b4⟩
  have hk0 : Hid (w7.drew.cell? ⟨w.heap.size, 0, none⟩ = some (.int .i64 f.op) ∧ w7.drew.cell? ⟨w.heap.size, 1, none⟩ = some (.string f.name) ∧ w7.drew.cell? ⟨w.heap.size, 2, none⟩ = some (.int .i64 f.val) ∧ w7.drew.cell? ⟨w.heap.size, 3, none⟩ = some (.int .i64 f.bound) ∧ w7.drew.cell? ⟨w.heap.size, 4, none⟩ = some (.slice o1 f.args.length c1) ∧ w7.drew.cell? ⟨wk.heap.size, 0, none⟩ = some (.int .i64 k.op) ∧ w7.drew.cell? ⟨wk.heap.size, 1, none⟩ = some (.string k.name) ∧ w7.drew.cell? ⟨wk.heap.size, 2, none⟩ = some (.int .i64 k.val) ∧ w7.drew.cell? ⟨wk.heap.size, 3, none⟩ = some (.int .i64 k.bound) ∧ w7.drew.cell? ⟨wk.heap.size, 4, none⟩ = some (.slice ok k.args.length ck)) := hSB.out _ hD
  have hk1 : Hid (∀ W, Below w7.drew.heap.size w7.drew W → W.cell? ⟨w.heap.size, 0, none⟩ = some (.int .i64 f.op) ∧ W.cell? ⟨w.heap.size, 1, none⟩ = some (.string f.name) ∧ W.cell? ⟨w.heap.size, 2, none⟩ = some (.int .i64 f.val) ∧ W.cell? ⟨w.heap.size, 3, none⟩ = some (.int .i64 f.bound) ∧ W.cell? ⟨w.heap.size, 4, none⟩ = some (.slice o1 f.args.length c1) ∧ W.cell? ⟨wk.heap.size, 0, none⟩ = some (.int .i64 k.op) ∧ W.cell? ⟨wk.heap.size, 1, none⟩ = some (.string k.name) ∧ W.cell? ⟨wk.heap.size, 2, none⟩ = some (.int .i64 k.val) ∧ W.cell? ⟨wk.heap.size, 3, none⟩ = some (.int .i64 k.bound) ∧ W.cell? ⟨wk.heap.size, 4, none⟩ = some (.slice ok k.args.length ck)) := fun W hB => hSB.out _ (hD.trans hB)
  have hFW : Hid (∀ W, Below w7.heap.size w7 W → FAt W.heap.size W (.agg #[.int .i64 f.op, .string f.name, .int .i64 f.val, .int .i64 f.bound, .slice o1 f.args.length c1]) f) := fun W hB => by
    have h5 := hB7.trans (hB.mono hB7.size)
    exact (h1.kept h5 (Nat.le_refl _)).mono h5.size
  have hKW : Hid (∀ W, Below w7.heap.size w7 W → FAt W.heap.size W (.agg #[.int .i64 k.op, .string k.name, .int .i64 k.val, .int .i64 k.bound, .slice ok k.args.length ck]) k) := fun W hB => by
    have h5 := hKM7.trans (hB.mono hKM7.size)
    exact FAtP.mono (hKk7.kept hB fun b hb => Nat.lt_of_lt_of_le hb hz7) fun b hb => Nat.lt_of_lt_of_le hb h5.size
  have hEW : Hid (∀ W, Below w7.heap.size w7 W → Env W) := fun W hB => hE.below (hB7.trans (hB.mono hB7.size))
  have hBf : Hid (Bx w7 w.heap.size f) := by
    have h5 := hFW.out _ (Below.refl _ _)
    obtain ⟨o', c', e, hf', ha'⟩ := h5.open
    cases e
    obtain ⟨a0, a1, a2, a3, a4⟩ := hc.out.later hb07 hlt
    exact ⟨Nat.lt_of_lt_of_le hlt hb07.size, _, _, ⟨a0, a1, a2, a3, a4⟩, hf', ha'⟩
  have hBk2 : Hid (Bx w7 wk.heap.size k) := by
    have h5 := hKW.out _ (Below.refl _ _)
    obtain ⟨o', c', e, hf', ha'⟩ := h5.open
    cases e
    have h6 := hcK.out.below hKM7 (by omega)
    exact ⟨by omega, _, _, h6, hf', ha'⟩
  go_wp2_with fail
  refine kerno_r10 _ w7 _ (hEW.out _ (Below.refl _ _)) (by rfl) (by rfl) (by rfl) (by rfl) hBf hBk2 (hidi rfl) hkm hkf (by have := s1.out; omega) (by have := hkn.out; omega) ?_
  intro x8 W8 hs8
  simp only [Act.put, List.setIfInBounds_toArray, List.set_cons_zero, List.set_cons_succ]
  go_wp2_with fail
  go_ret
  exact ⟨rfl, hB7.trans (hs8.mono hB7.size)⟩

theorem ker_any (hd : HeadOk) (f : Fm) (v1 : Value) (w : World) (hE : Env w) (h1 : FAt w.heap.size w v1 f) :
    Calls Tryz.prog 6 #[v1] w fun e w' => e = .returned (.bool true) ∧ Below w.heap.size w w' := by
  by_cases s1 : f.nodes ≤ 420
  · cases s2 : fvalidB f
    · exact ker_bad hd f v1 w hE h1 (hidi s1) (hidi s2)
    · cases s3 : layB f
      · exact ker_flat hd f v1 w hE h1 (hidi s1) (hidi s2) (hidi s3)
      · obtain ⟨g1, g2, g3, g4⟩ := kernel_facts s2 s3
        by_cases hs : (formP f false).nodes ≤ 60 ∧ (formP f false).depth ≤ 20
        · obtain ⟨k1, k2, k3⟩ := g1 hs
          cases hf : kernelB f
          · exact ker_no hd f v1 w hE h1 (hidi s1) (hidi s2) (hidi s3) _ (hidi k1) (hidi k2) (hidi k3) (hidi hs.1) (hidi g3) (hidi hf)
          · exact ker_yes hd f v1 w hE h1 (hidi s1) (hidi s2) (hidi s3) _ (hidi k1) (hidi k2) (hidi k3) (hidi hs.1) (hidi g3) _ (hidi hf) (hidi rfl) (hidi (by rw [g4 hf]; exact (good_fm f).refl))
        · obtain ⟨k1, k2⟩ := g2 hs
          exact ker_limit hd f v1 w hE h1 (hidi s1) (hidi s2) (hidi s3) _ (hidi k1) (hidi k2)
  · exact ker_big hd f v1 w hE h1 (hidi s1)

end Go.Proofs.YtlkoacopknolnaaGreatDoor
