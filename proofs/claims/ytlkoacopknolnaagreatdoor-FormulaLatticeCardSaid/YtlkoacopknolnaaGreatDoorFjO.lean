/-
  The drawn region of FormulaLattice, FjO.
-/
import Derived.Test.YtlkoacopknolnaaGreatDoorFjB
import Derived.Test.YtlkoacopknolnaaGreatDoorGi
import Derived.Test.YtlkoacopknolnaaGreatDoorFiS
namespace Go.Proofs.YtlkoacopknolnaaGreatDoor
open Go.RowKit

set_option maxRecDepth 100000 in
set_option maxHeartbeats 8000000 in
theorem latd_r12 {f u1 u2 u3 u4 : Fm} {k3 : Nat} (a0 : Act) (W0 : World) (Q : Exit → Act → World → Prop) (hE : Env W0) (hz : a0.tmps.size = 183) (p3 : a0.tmps[(3 : Nat)]? = some (.pointer (some ⟨k3, 0, none⟩))) (p7 : a0.tmps[(7 : Nat)]? = some (.bool true)) (p11 : a0.tmps[(11 : Nat)]? = some (.bool true)) (p14 : a0.tmps[(14 : Nat)]? = some (.bool true)) (p15 : a0.tmps[(15 : Nat)]? = some (.bool true)) (B3 : Hid (Bx W0 k3 (f))) (e1 : Hid (combineF 5 [f, fFalse] = u1)) (e2 : Hid (combineF 6 [fTrue, f] = u2)) (e3 : Hid (combineF 5 [] = u3)) (e4 : Hid (combineF 6 [] = u4)) (q1 : Hid (u1.op = 2)) (q2 : Hid (u2.op = 1)) (q3 : Hid (u3.op = 1)) (q4 : Hid (u4.op = 2)) (n1 : f.nodes ≤ 1000) (n2 : fTrue.nodes ≤ 1000) (n3 : fFalse.nodes ≤ 1000)
    (hend : ∀ (x : Nat → Value) (W : World), Below W0.heap.size W0 W → Q .normal (((((((((((((((((((((((((((((((((((((a0.put (some 147) (.bool true)).put (some 148) (.bool true)).put (some 149) (.bool true)).put (some 150) (.bool true)).put (some 151) (.bool true)).put (some 152) (.bool true)).put (some 153) (.bool true)).put (some 154) (.bool true)).put (some 155) (.bool true)).put (some 156) (.bool true)).put (some 157) (.bool true)).put (some 158) (x 11)).put (some 159) (x 12)).put (some 160) (x 13)).put (some 161) (x 14)).put (some 162) (.int .i64 (2))).put (some 163) (.bool true)).put (some 164) (.bool true)).put (some 165) (.bool true)).put (some 166) (x 19)).put (some 167) (x 20)).put (some 168) (x 21)).put (some 169) (x 22)).put (some 170) (.int .i64 (1))).put (some 171) (.bool true)).put (some 172) (.bool true)).put (some 173) (.bool true)).put (some 174) (x 27)).put (some 175) (.int .i64 (1))).put (some 176) (.bool true)).put (some 177) (.bool true)).put (some 178) (.bool true)).put (some 179) (x 32)).put (some 180) (.int .i64 (2))).put (some 181) (.bool true)).put (some 182) (.bool true)).put (some 6) (.bool true)) W) :
    (Code.region 12 (opsAt Tryz.f10 12) true).wp Tryz.prog Q a0 W0 := by
  have d0 : dstOf (opsAt Tryz.f10 12) 0 = some 147 := by kernel_rfl
  have d1 : dstOf (opsAt Tryz.f10 12) 1 = some 148 := by kernel_rfl
  have d2 : dstOf (opsAt Tryz.f10 12) 2 = some 149 := by kernel_rfl
  have d3 : dstOf (opsAt Tryz.f10 12) 3 = some 150 := by kernel_rfl
  have d4 : dstOf (opsAt Tryz.f10 12) 4 = some 151 := by kernel_rfl
  have d5 : dstOf (opsAt Tryz.f10 12) 5 = some 152 := by kernel_rfl
  have d6 : dstOf (opsAt Tryz.f10 12) 6 = some 153 := by kernel_rfl
  have d7 : dstOf (opsAt Tryz.f10 12) 7 = some 154 := by kernel_rfl
  have d8 : dstOf (opsAt Tryz.f10 12) 8 = some 155 := by kernel_rfl
  have d9 : dstOf (opsAt Tryz.f10 12) 9 = some 156 := by kernel_rfl
  have d10 : dstOf (opsAt Tryz.f10 12) 10 = some 157 := by kernel_rfl
  have d11 : dstOf (opsAt Tryz.f10 12) 11 = some 158 := by kernel_rfl
  have d12 : dstOf (opsAt Tryz.f10 12) 12 = some 159 := by kernel_rfl
  have d13 : dstOf (opsAt Tryz.f10 12) 13 = some 160 := by kernel_rfl
  have d14 : dstOf (opsAt Tryz.f10 12) 14 = some 161 := by kernel_rfl
  have d15 : dstOf (opsAt Tryz.f10 12) 15 = some 162 := by kernel_rfl
  have d16 : dstOf (opsAt Tryz.f10 12) 16 = some 163 := by kernel_rfl
  have d17 : dstOf (opsAt Tryz.f10 12) 17 = some 164 := by kernel_rfl
  have d18 : dstOf (opsAt Tryz.f10 12) 18 = some 165 := by kernel_rfl
  have d19 : dstOf (opsAt Tryz.f10 12) 19 = some 166 := by kernel_rfl
  have d20 : dstOf (opsAt Tryz.f10 12) 20 = some 167 := by kernel_rfl
  have d21 : dstOf (opsAt Tryz.f10 12) 21 = some 168 := by kernel_rfl
  have d22 : dstOf (opsAt Tryz.f10 12) 22 = some 169 := by kernel_rfl
  have d23 : dstOf (opsAt Tryz.f10 12) 23 = some 170 := by kernel_rfl
  have d24 : dstOf (opsAt Tryz.f10 12) 24 = some 171 := by kernel_rfl
  have d25 : dstOf (opsAt Tryz.f10 12) 25 = some 172 := by kernel_rfl
  have d26 : dstOf (opsAt Tryz.f10 12) 26 = some 173 := by kernel_rfl
  have d27 : dstOf (opsAt Tryz.f10 12) 27 = some 174 := by kernel_rfl
  have d28 : dstOf (opsAt Tryz.f10 12) 28 = some 175 := by kernel_rfl
  have d29 : dstOf (opsAt Tryz.f10 12) 29 = some 176 := by kernel_rfl
  have d30 : dstOf (opsAt Tryz.f10 12) 30 = some 177 := by kernel_rfl
  have d31 : dstOf (opsAt Tryz.f10 12) 31 = some 178 := by kernel_rfl
  have d32 : dstOf (opsAt Tryz.f10 12) 32 = some 179 := by kernel_rfl
  have d33 : dstOf (opsAt Tryz.f10 12) 33 = some 180 := by kernel_rfl
  have d34 : dstOf (opsAt Tryz.f10 12) 34 = some 181 := by kernel_rfl
  have d35 : dstOf (opsAt Tryz.f10 12) 35 = some 182 := by kernel_rfl
  have d36 : dstOf (opsAt Tryz.f10 12) 36 = some 6 := by kernel_rfl
  have hsz : (opsAt Tryz.f10 12).size = 37 := by kernel_rfl
  obtain ⟨L, hL⟩ : ∃ L, Hid ((opsAt Tryz.f10 12) = L) := ⟨_, hidi rfl⟩
  have hL2 := hL.out
  unfold opsAt Tryz.f10 at hL2
  simp only [findRegion, Nat.reduceBEq, if_true, if_false, Bool.false_eq_true, Option.getD_some] at hL2
  replace hL2 := hidi hL2
  refine wp_region_facts (by kernel_rfl) (by kernel_rfl) (by kernel_rfl) (by rw [hz]; kernel_rfl) (by kernel_rfl) (fun i => match i with
      | 0 => .boolF true
      | 1 => .boolF true
      | 2 => .boolF true
      | 3 => .boolF true
      | 4 => .boolF true
      | 5 => .boolF true
      | 6 => .boolF true
      | 7 => .boolF true
      | 8 => .boolF true
      | 9 => .boolF true
      | 10 => .boolF true
      | 11 => .fmF (f)
      | 12 => .fmF (fFalse)
      | 13 => .fmsF [f, fFalse]
      | 14 => .fmF (u1)
      | 15 => .intF (2)
      | 16 => .boolF true
      | 17 => .boolF true
      | 18 => .boolF true
      | 19 => .fmF (fTrue)
      | 20 => .fmF (f)
      | 21 => .fmsF [fTrue, f]
      | 22 => .fmF (u2)
      | 23 => .intF (1)
      | 24 => .boolF true
      | 25 => .boolF true
      | 26 => .boolF true
      | 27 => .fmF (u3)
      | 28 => .intF (1)
      | 29 => .boolF true
      | 30 => .boolF true
      | 31 => .boolF true
      | 32 => .fmF (u4)
      | 33 => .intF (2)
      | 34 => .boolF true
      | 35 => .boolF true
      | 36 => .boolF true
      | _ => .free) ?_ ?_
  · intro i a W K hi hS hK
    have hEW := hE.below hS.below
    match i, hi, hS, hK with
    | 0, _, hS, hK =>
      rw [d0] at hK
      have h7 := hS.slot (by kernel_rfl) p7
      have e7 := at_eval h7
      rw [hL.out, ← hL2.out]; refine wpOp_of_list' rfl ?_
      go_wp2_with fail
      exact hK _ _ rfl (Below.refl _ _)
    | 1, _, hS, hK =>
      rw [d1] at hK
      obtain ⟨v147, h147, f147⟩ := hS.got 0 (q := .boolF true) rfl (by kernel_rfl) d0
      obtain rfl : v147 = .bool true := f147
      have e147 := at_eval h147
      rw [hL.out, ← hL2.out]; refine wpOp_of_list' rfl ?_
      go_wp2_with fail
      exact hK _ _ rfl (Below.refl _ _)
    | 2, _, hS, hK =>
      rw [d2] at hK
      obtain ⟨v148, h148, f148⟩ := hS.got 1 (q := .boolF true) rfl (by kernel_rfl) d1
      obtain rfl : v148 = .bool true := f148
      have e148 := at_eval h148
      have h11 := hS.slot (by kernel_rfl) p11
      have e11 := at_eval h11
      rw [hL.out, ← hL2.out]; refine wpOp_of_list' rfl ?_
      go_wp2_with fail
      exact hK _ _ rfl (Below.refl _ _)
    | 3, _, hS, hK =>
      rw [d3] at hK
      obtain ⟨v148, h148, f148⟩ := hS.got 1 (q := .boolF true) rfl (by kernel_rfl) d1
      obtain rfl : v148 = .bool true := f148
      have e148 := at_eval h148
      obtain ⟨v149, h149, f149⟩ := hS.got 2 (q := .boolF true) rfl (by kernel_rfl) d2
      obtain rfl : v149 = .bool true := f149
      have e149 := at_eval h149
      rw [hL.out, ← hL2.out]; refine wpOp_of_list' rfl ?_
      go_wp2_with fail
      exact hK _ _ rfl (Below.refl _ _)
    | 4, _, hS, hK =>
      rw [d4] at hK
      obtain ⟨v150, h150, f150⟩ := hS.got 3 (q := .boolF true) rfl (by kernel_rfl) d3
      obtain rfl : v150 = .bool true := f150
      have e150 := at_eval h150
      rw [hL.out, ← hL2.out]; refine wpOp_of_list' rfl ?_
      go_wp2_with fail
      exact hK _ _ rfl (Below.refl _ _)
    | 5, _, hS, hK =>
      rw [d5] at hK
      obtain ⟨v151, h151, f151⟩ := hS.got 4 (q := .boolF true) rfl (by kernel_rfl) d4
      obtain rfl : v151 = .bool true := f151
      have e151 := at_eval h151
      have h14 := hS.slot (by kernel_rfl) p14
      have e14 := at_eval h14
      rw [hL.out, ← hL2.out]; refine wpOp_of_list' rfl ?_
      go_wp2_with fail
      exact hK _ _ rfl (Below.refl _ _)
    | 6, _, hS, hK =>
      rw [d6] at hK
      obtain ⟨v151, h151, f151⟩ := hS.got 4 (q := .boolF true) rfl (by kernel_rfl) d4
      obtain rfl : v151 = .bool true := f151
      have e151 := at_eval h151
      obtain ⟨v152, h152, f152⟩ := hS.got 5 (q := .boolF true) rfl (by kernel_rfl) d5
      obtain rfl : v152 = .bool true := f152
      have e152 := at_eval h152
      rw [hL.out, ← hL2.out]; refine wpOp_of_list' rfl ?_
      go_wp2_with fail
      exact hK _ _ rfl (Below.refl _ _)
    | 7, _, hS, hK =>
      rw [d7] at hK
      obtain ⟨v153, h153, f153⟩ := hS.got 6 (q := .boolF true) rfl (by kernel_rfl) d6
      obtain rfl : v153 = .bool true := f153
      have e153 := at_eval h153
      rw [hL.out, ← hL2.out]; refine wpOp_of_list' rfl ?_
      go_wp2_with fail
      exact hK _ _ rfl (Below.refl _ _)
    | 8, _, hS, hK =>
      rw [d8] at hK
      obtain ⟨v154, h154, f154⟩ := hS.got 7 (q := .boolF true) rfl (by kernel_rfl) d7
      obtain rfl : v154 = .bool true := f154
      have e154 := at_eval h154
      have h15 := hS.slot (by kernel_rfl) p15
      have e15 := at_eval h15
      rw [hL.out, ← hL2.out]; refine wpOp_of_list' rfl ?_
      go_wp2_with fail
      exact hK _ _ rfl (Below.refl _ _)
    | 9, _, hS, hK =>
      rw [d9] at hK
      obtain ⟨v154, h154, f154⟩ := hS.got 7 (q := .boolF true) rfl (by kernel_rfl) d7
      obtain rfl : v154 = .bool true := f154
      have e154 := at_eval h154
      obtain ⟨v155, h155, f155⟩ := hS.got 8 (q := .boolF true) rfl (by kernel_rfl) d8
      obtain rfl : v155 = .bool true := f155
      have e155 := at_eval h155
      rw [hL.out, ← hL2.out]; refine wpOp_of_list' rfl ?_
      go_wp2_with fail
      exact hK _ _ rfl (Below.refl _ _)
    | 10, _, hS, hK =>
      rw [d10] at hK
      obtain ⟨v156, h156, f156⟩ := hS.got 9 (q := .boolF true) rfl (by kernel_rfl) d9
      obtain rfl : v156 = .bool true := f156
      have e156 := at_eval h156
      rw [hL.out, ← hL2.out]; refine wpOp_of_list' rfl ?_
      go_wp2_with fail
      exact hK _ _ rfl (Below.refl _ _)
    | 11, _, hS, hK =>
      rw [d11] at hK
      obtain ⟨v157, h157, f157⟩ := hS.got 10 (q := .boolF true) rfl (by kernel_rfl) d10
      obtain rfl : v157 = .bool true := f157
      have e157 := at_eval h157
      have h3 := hS.slot (by kernel_rfl) p3
      have e3 := at_eval h3
      obtain ⟨o3, c3, ⟨b0, b1, b2, b3, b4⟩, hfq⟩ := (B3.out.below hS.below).cells
      rw [hL.out, ← hL2.out]; refine wpOp_of_list' rfl ?_
      go_wp2_with fail
      exact hK _ _ hfq (Below.refl _ _)
    | 12, _, hS, hK =>
      rw [d12] at hK
      obtain ⟨v157, h157, f157⟩ := hS.got 10 (q := .boolF true) rfl (by kernel_rfl) d10
      obtain rfl : v157 = .bool true := f157
      have e157 := at_eval h157
      rw [hL.out, ← hL2.out]; refine wpOp_of_list' rfl ?_
      go_wp2_with fail
      refine (reffalse_any (fun b => b < W.heap.size ∧ True) W).mono ?_
      rintro e W2 ⟨r, rfl, hN, hb⟩
      go_wp2_with fail
      exact hK _ _ (fm_got (Ok := fun _ => True) hN hb (fun _ _ => trivial)) hb
    | 13, _, hS, hK =>
      rw [d13] at hK
      obtain ⟨v157, h157, f157⟩ := hS.got 10 (q := .boolF true) rfl (by kernel_rfl) d10
      obtain rfl : v157 = .bool true := f157
      have e157 := at_eval h157
      obtain ⟨v158, h158, f158⟩ := hS.got 11 (q := .fmF (f)) rfl (by kernel_rfl) d11
      have e158 := at_eval h158
      obtain ⟨v159, h159, f159⟩ := hS.got 12 (q := .fmF (fFalse)) rfl (by kernel_rfl) d12
      have e159 := at_eval h159
      obtain ⟨o158, c158, rfl, hf158, ha158⟩ := fq_open f158
      obtain ⟨o159, c159, rfl, hf159, ha159⟩ := fq_open f159
      rw [hL.out, ← hL2.out]; refine wpOp_of_list' rfl ?_
      go_wp2_with fail
      exact hK _ _ (fms_new2 hf158 hf159 ha158 ha159) (below_box _ _)
    | 14, _, hS, hK =>
      rw [d14] at hK
      obtain ⟨v157, h157, f157⟩ := hS.got 10 (q := .boolF true) rfl (by kernel_rfl) d10
      obtain rfl : v157 = .bool true := f157
      have e157 := at_eval h157
      obtain ⟨v160, h160, f160⟩ := hS.got 13 (q := .fmsF [f, fFalse]) rfl (by kernel_rfl) d13
      have e160 := at_eval h160
      rw [hL.out, ← hL2.out]; refine wpOp_of_list' rfl ?_
      go_wp2_with fail
      refine (and_any (fun b => b < W.heap.size ∧ True) [f, fFalse] _ W hEW f160 (fun b hb => hb.1) (by simp only [Fm.nodesL_cons, Fm.nodesL_nil]; omega)).mono ?_
      rintro e W2 ⟨r, rfl, hN, hb⟩
      rw [e1.out] at hN
      go_wp2_with fail
      exact hK _ _ (fm_got (Ok := fun _ => True) hN hb (fun _ _ => trivial)) hb
    | 15, _, hS, hK =>
      rw [d15] at hK
      obtain ⟨v157, h157, f157⟩ := hS.got 10 (q := .boolF true) rfl (by kernel_rfl) d10
      obtain rfl : v157 = .bool true := f157
      have e157 := at_eval h157
      obtain ⟨v161, h161, f161⟩ := hS.got 14 (q := .fmF (u1)) rfl (by kernel_rfl) d14
      have e161 := at_eval h161
      obtain ⟨oo, cc, rfl, -, -⟩ := fq_open f161
      have hfl := fm_field0 W (u1).op (u1).val (u1).bound (u1).name (.slice oo (u1).args.length cc)
      rw [hL.out, ← hL2.out]; refine wpOp_of_list' rfl ?_
      go_wp2_with fail
      refine hK _ _ ?_ (Below.refl _ _)
      show Value.int .i64 _ = Value.int .i64 _
      rw [q1.out]
    | 16, _, hS, hK =>
      rw [d16] at hK
      obtain ⟨v157, h157, f157⟩ := hS.got 10 (q := .boolF true) rfl (by kernel_rfl) d10
      obtain rfl : v157 = .bool true := f157
      have e157 := at_eval h157
      obtain ⟨v162, h162, f162⟩ := hS.got 15 (q := .intF (2)) rfl (by kernel_rfl) d15
      obtain rfl : v162 = .int .i64 (2) := f162
      have e162 := at_eval h162
      rw [hL.out, ← hL2.out]; refine wpOp_of_list' rfl ?_
      go_wp2_with fail
      exact hK _ _ rfl (Below.refl _ _)
    | 17, _, hS, hK =>
      rw [d17] at hK
      obtain ⟨v157, h157, f157⟩ := hS.got 10 (q := .boolF true) rfl (by kernel_rfl) d10
      obtain rfl : v157 = .bool true := f157
      have e157 := at_eval h157
      obtain ⟨v163, h163, f163⟩ := hS.got 16 (q := .boolF true) rfl (by kernel_rfl) d16
      obtain rfl : v163 = .bool true := f163
      have e163 := at_eval h163
      rw [hL.out, ← hL2.out]; refine wpOp_of_list' rfl ?_
      go_wp2_with fail
      exact hK _ _ rfl (Below.refl _ _)
    | 18, _, hS, hK =>
      rw [d18] at hK
      obtain ⟨v164, h164, f164⟩ := hS.got 17 (q := .boolF true) rfl (by kernel_rfl) d17
      obtain rfl : v164 = .bool true := f164
      have e164 := at_eval h164
      rw [hL.out, ← hL2.out]; refine wpOp_of_list' rfl ?_
      go_wp2_with fail
      exact hK _ _ rfl (Below.refl _ _)
    | 19, _, hS, hK =>
      rw [d19] at hK
      obtain ⟨v165, h165, f165⟩ := hS.got 18 (q := .boolF true) rfl (by kernel_rfl) d18
      obtain rfl : v165 = .bool true := f165
      have e165 := at_eval h165
      rw [hL.out, ← hL2.out]; refine wpOp_of_list' rfl ?_
      go_wp2_with fail
      refine (reftrue_any (fun b => b < W.heap.size ∧ True) W).mono ?_
      rintro e W2 ⟨r, rfl, hN, hb⟩
      go_wp2_with fail
      exact hK _ _ (fm_got (Ok := fun _ => True) hN hb (fun _ _ => trivial)) hb
    | 20, _, hS, hK =>
      rw [d20] at hK
      obtain ⟨v165, h165, f165⟩ := hS.got 18 (q := .boolF true) rfl (by kernel_rfl) d18
      obtain rfl : v165 = .bool true := f165
      have e165 := at_eval h165
      have h3 := hS.slot (by kernel_rfl) p3
      have e3 := at_eval h3
      obtain ⟨o3, c3, ⟨b0, b1, b2, b3, b4⟩, hfq⟩ := (B3.out.below hS.below).cells
      rw [hL.out, ← hL2.out]; refine wpOp_of_list' rfl ?_
      go_wp2_with fail
      exact hK _ _ hfq (Below.refl _ _)
    | 21, _, hS, hK =>
      rw [d21] at hK
      obtain ⟨v165, h165, f165⟩ := hS.got 18 (q := .boolF true) rfl (by kernel_rfl) d18
      obtain rfl : v165 = .bool true := f165
      have e165 := at_eval h165
      obtain ⟨v166, h166, f166⟩ := hS.got 19 (q := .fmF (fTrue)) rfl (by kernel_rfl) d19
      have e166 := at_eval h166
      obtain ⟨v167, h167, f167⟩ := hS.got 20 (q := .fmF (f)) rfl (by kernel_rfl) d20
      have e167 := at_eval h167
      obtain ⟨o166, c166, rfl, hf166, ha166⟩ := fq_open f166
      obtain ⟨o167, c167, rfl, hf167, ha167⟩ := fq_open f167
      rw [hL.out, ← hL2.out]; refine wpOp_of_list' rfl ?_
      go_wp2_with fail
      exact hK _ _ (fms_new2 hf166 hf167 ha166 ha167) (below_box _ _)
    | 22, _, hS, hK =>
      rw [d22] at hK
      obtain ⟨v165, h165, f165⟩ := hS.got 18 (q := .boolF true) rfl (by kernel_rfl) d18
      obtain rfl : v165 = .bool true := f165
      have e165 := at_eval h165
      obtain ⟨v168, h168, f168⟩ := hS.got 21 (q := .fmsF [fTrue, f]) rfl (by kernel_rfl) d21
      have e168 := at_eval h168
      rw [hL.out, ← hL2.out]; refine wpOp_of_list' rfl ?_
      go_wp2_with fail
      refine (or_any (fun b => b < W.heap.size ∧ True) [fTrue, f] _ W hEW f168 (fun b hb => hb.1) (by simp only [Fm.nodesL_cons, Fm.nodesL_nil]; omega)).mono ?_
      rintro e W2 ⟨r, rfl, hN, hb⟩
      rw [e2.out] at hN
      go_wp2_with fail
      exact hK _ _ (fm_got (Ok := fun _ => True) hN hb (fun _ _ => trivial)) hb
    | 23, _, hS, hK =>
      rw [d23] at hK
      obtain ⟨v165, h165, f165⟩ := hS.got 18 (q := .boolF true) rfl (by kernel_rfl) d18
      obtain rfl : v165 = .bool true := f165
      have e165 := at_eval h165
      obtain ⟨v169, h169, f169⟩ := hS.got 22 (q := .fmF (u2)) rfl (by kernel_rfl) d22
      have e169 := at_eval h169
      obtain ⟨oo, cc, rfl, -, -⟩ := fq_open f169
      have hfl := fm_field0 W (u2).op (u2).val (u2).bound (u2).name (.slice oo (u2).args.length cc)
      rw [hL.out, ← hL2.out]; refine wpOp_of_list' rfl ?_
      go_wp2_with fail
      refine hK _ _ ?_ (Below.refl _ _)
      show Value.int .i64 _ = Value.int .i64 _
      rw [q2.out]
    | 24, _, hS, hK =>
      rw [d24] at hK
      obtain ⟨v165, h165, f165⟩ := hS.got 18 (q := .boolF true) rfl (by kernel_rfl) d18
      obtain rfl : v165 = .bool true := f165
      have e165 := at_eval h165
      obtain ⟨v170, h170, f170⟩ := hS.got 23 (q := .intF (1)) rfl (by kernel_rfl) d23
      obtain rfl : v170 = .int .i64 (1) := f170
      have e170 := at_eval h170
      rw [hL.out, ← hL2.out]; refine wpOp_of_list' rfl ?_
      go_wp2_with fail
      exact hK _ _ rfl (Below.refl _ _)
    | 25, _, hS, hK =>
      rw [d25] at hK
      obtain ⟨v165, h165, f165⟩ := hS.got 18 (q := .boolF true) rfl (by kernel_rfl) d18
      obtain rfl : v165 = .bool true := f165
      have e165 := at_eval h165
      obtain ⟨v171, h171, f171⟩ := hS.got 24 (q := .boolF true) rfl (by kernel_rfl) d24
      obtain rfl : v171 = .bool true := f171
      have e171 := at_eval h171
      rw [hL.out, ← hL2.out]; refine wpOp_of_list' rfl ?_
      go_wp2_with fail
      exact hK _ _ rfl (Below.refl _ _)
    | 26, _, hS, hK =>
      rw [d26] at hK
      obtain ⟨v172, h172, f172⟩ := hS.got 25 (q := .boolF true) rfl (by kernel_rfl) d25
      obtain rfl : v172 = .bool true := f172
      have e172 := at_eval h172
      rw [hL.out, ← hL2.out]; refine wpOp_of_list' rfl ?_
      go_wp2_with fail
      exact hK _ _ rfl (Below.refl _ _)
    | 27, _, hS, hK =>
      rw [d27] at hK
      obtain ⟨v173, h173, f173⟩ := hS.got 26 (q := .boolF true) rfl (by kernel_rfl) d26
      obtain rfl : v173 = .bool true := f173
      have e173 := at_eval h173
      rw [hL.out, ← hL2.out]; refine wpOp_of_list' rfl ?_
      go_wp2_with fail
      refine (and_any (fun b => b < W.heap.size ∧ True) [] _ W hEW (.nil _ _) (fun b hb => hb.1) (by simp only [Fm.nodesL_nil]; omega)).mono ?_
      rintro e W2 ⟨r, rfl, hN, hb⟩
      rw [e3.out] at hN
      go_wp2_with fail
      exact hK _ _ (fm_got (Ok := fun _ => True) hN hb (fun _ _ => trivial)) hb
    | 28, _, hS, hK =>
      rw [d28] at hK
      obtain ⟨v173, h173, f173⟩ := hS.got 26 (q := .boolF true) rfl (by kernel_rfl) d26
      obtain rfl : v173 = .bool true := f173
      have e173 := at_eval h173
      obtain ⟨v174, h174, f174⟩ := hS.got 27 (q := .fmF (u3)) rfl (by kernel_rfl) d27
      have e174 := at_eval h174
      obtain ⟨oo, cc, rfl, -, -⟩ := fq_open f174
      have hfl := fm_field0 W (u3).op (u3).val (u3).bound (u3).name (.slice oo (u3).args.length cc)
      rw [hL.out, ← hL2.out]; refine wpOp_of_list' rfl ?_
      go_wp2_with fail
      refine hK _ _ ?_ (Below.refl _ _)
      show Value.int .i64 _ = Value.int .i64 _
      rw [q3.out]
    | 29, _, hS, hK =>
      rw [d29] at hK
      obtain ⟨v173, h173, f173⟩ := hS.got 26 (q := .boolF true) rfl (by kernel_rfl) d26
      obtain rfl : v173 = .bool true := f173
      have e173 := at_eval h173
      obtain ⟨v175, h175, f175⟩ := hS.got 28 (q := .intF (1)) rfl (by kernel_rfl) d28
      obtain rfl : v175 = .int .i64 (1) := f175
      have e175 := at_eval h175
      rw [hL.out, ← hL2.out]; refine wpOp_of_list' rfl ?_
      go_wp2_with fail
      exact hK _ _ rfl (Below.refl _ _)
    | 30, _, hS, hK =>
      rw [d30] at hK
      obtain ⟨v173, h173, f173⟩ := hS.got 26 (q := .boolF true) rfl (by kernel_rfl) d26
      obtain rfl : v173 = .bool true := f173
      have e173 := at_eval h173
      obtain ⟨v176, h176, f176⟩ := hS.got 29 (q := .boolF true) rfl (by kernel_rfl) d29
      obtain rfl : v176 = .bool true := f176
      have e176 := at_eval h176
      rw [hL.out, ← hL2.out]; refine wpOp_of_list' rfl ?_
      go_wp2_with fail
      exact hK _ _ rfl (Below.refl _ _)
    | 31, _, hS, hK =>
      rw [d31] at hK
      obtain ⟨v177, h177, f177⟩ := hS.got 30 (q := .boolF true) rfl (by kernel_rfl) d30
      obtain rfl : v177 = .bool true := f177
      have e177 := at_eval h177
      rw [hL.out, ← hL2.out]; refine wpOp_of_list' rfl ?_
      go_wp2_with fail
      exact hK _ _ rfl (Below.refl _ _)
    | 32, _, hS, hK =>
      rw [d32] at hK
      obtain ⟨v178, h178, f178⟩ := hS.got 31 (q := .boolF true) rfl (by kernel_rfl) d31
      obtain rfl : v178 = .bool true := f178
      have e178 := at_eval h178
      rw [hL.out, ← hL2.out]; refine wpOp_of_list' rfl ?_
      go_wp2_with fail
      refine (or_any (fun b => b < W.heap.size ∧ True) [] _ W hEW (.nil _ _) (fun b hb => hb.1) (by simp only [Fm.nodesL_nil]; omega)).mono ?_
      rintro e W2 ⟨r, rfl, hN, hb⟩
      rw [e4.out] at hN
      go_wp2_with fail
      exact hK _ _ (fm_got (Ok := fun _ => True) hN hb (fun _ _ => trivial)) hb
    | 33, _, hS, hK =>
      rw [d33] at hK
      obtain ⟨v178, h178, f178⟩ := hS.got 31 (q := .boolF true) rfl (by kernel_rfl) d31
      obtain rfl : v178 = .bool true := f178
      have e178 := at_eval h178
      obtain ⟨v179, h179, f179⟩ := hS.got 32 (q := .fmF (u4)) rfl (by kernel_rfl) d32
      have e179 := at_eval h179
      obtain ⟨oo, cc, rfl, -, -⟩ := fq_open f179
      have hfl := fm_field0 W (u4).op (u4).val (u4).bound (u4).name (.slice oo (u4).args.length cc)
      rw [hL.out, ← hL2.out]; refine wpOp_of_list' rfl ?_
      go_wp2_with fail
      refine hK _ _ ?_ (Below.refl _ _)
      show Value.int .i64 _ = Value.int .i64 _
      rw [q4.out]
    | 34, _, hS, hK =>
      rw [d34] at hK
      obtain ⟨v178, h178, f178⟩ := hS.got 31 (q := .boolF true) rfl (by kernel_rfl) d31
      obtain rfl : v178 = .bool true := f178
      have e178 := at_eval h178
      obtain ⟨v180, h180, f180⟩ := hS.got 33 (q := .intF (2)) rfl (by kernel_rfl) d33
      obtain rfl : v180 = .int .i64 (2) := f180
      have e180 := at_eval h180
      rw [hL.out, ← hL2.out]; refine wpOp_of_list' rfl ?_
      go_wp2_with fail
      exact hK _ _ rfl (Below.refl _ _)
    | 35, _, hS, hK =>
      rw [d35] at hK
      obtain ⟨v178, h178, f178⟩ := hS.got 31 (q := .boolF true) rfl (by kernel_rfl) d31
      obtain rfl : v178 = .bool true := f178
      have e178 := at_eval h178
      obtain ⟨v181, h181, f181⟩ := hS.got 34 (q := .boolF true) rfl (by kernel_rfl) d34
      obtain rfl : v181 = .bool true := f181
      have e181 := at_eval h181
      rw [hL.out, ← hL2.out]; refine wpOp_of_list' rfl ?_
      go_wp2_with fail
      exact hK _ _ rfl (Below.refl _ _)
    | 36, _, hS, hK =>
      rw [d36] at hK
      obtain ⟨v182, h182, f182⟩ := hS.got 35 (q := .boolF true) rfl (by kernel_rfl) d35
      obtain rfl : v182 = .bool true := f182
      have e182 := at_eval h182
      rw [hL.out, ← hL2.out]; refine wpOp_of_list' rfl ?_
      go_wp2_with fail
      exact hK _ _ rfl (Below.refl _ _)
    | n + 37, hi, _, _ => exact absurd hi (by rw [hsz]; omega)
  · intro x W hB hx
    have y0 : x 0 = .bool true := hx 0 147 (by rw [hsz]; omega) d0
    have y1 : x 1 = .bool true := hx 1 148 (by rw [hsz]; omega) d1
    have y2 : x 2 = .bool true := hx 2 149 (by rw [hsz]; omega) d2
    have y3 : x 3 = .bool true := hx 3 150 (by rw [hsz]; omega) d3
    have y4 : x 4 = .bool true := hx 4 151 (by rw [hsz]; omega) d4
    have y5 : x 5 = .bool true := hx 5 152 (by rw [hsz]; omega) d5
    have y6 : x 6 = .bool true := hx 6 153 (by rw [hsz]; omega) d6
    have y7 : x 7 = .bool true := hx 7 154 (by rw [hsz]; omega) d7
    have y8 : x 8 = .bool true := hx 8 155 (by rw [hsz]; omega) d8
    have y9 : x 9 = .bool true := hx 9 156 (by rw [hsz]; omega) d9
    have y10 : x 10 = .bool true := hx 10 157 (by rw [hsz]; omega) d10
    have y15 : x 15 = .int .i64 (2) := hx 15 162 (by rw [hsz]; omega) d15
    have y16 : x 16 = .bool true := hx 16 163 (by rw [hsz]; omega) d16
    have y17 : x 17 = .bool true := hx 17 164 (by rw [hsz]; omega) d17
    have y18 : x 18 = .bool true := hx 18 165 (by rw [hsz]; omega) d18
    have y23 : x 23 = .int .i64 (1) := hx 23 170 (by rw [hsz]; omega) d23
    have y24 : x 24 = .bool true := hx 24 171 (by rw [hsz]; omega) d24
    have y25 : x 25 = .bool true := hx 25 172 (by rw [hsz]; omega) d25
    have y26 : x 26 = .bool true := hx 26 173 (by rw [hsz]; omega) d26
    have y28 : x 28 = .int .i64 (1) := hx 28 175 (by rw [hsz]; omega) d28
    have y29 : x 29 = .bool true := hx 29 176 (by rw [hsz]; omega) d29
    have y30 : x 30 = .bool true := hx 30 177 (by rw [hsz]; omega) d30
    have y31 : x 31 = .bool true := hx 31 178 (by rw [hsz]; omega) d31
    have y33 : x 33 = .int .i64 (2) := hx 33 180 (by rw [hsz]; omega) d33
    have y34 : x 34 = .bool true := hx 34 181 (by rw [hsz]; omega) d34
    have y35 : x 35 = .bool true := hx 35 182 (by rw [hsz]; omega) d35
    have y36 : x 36 = .bool true := hx 36 6 (by rw [hsz]; omega) d36
    have hl := hend x W hB
    have hr : List.range (opsAt Tryz.f10 12).size = [0, 1, 2, 3, 4, 5, 6, 7, 8, 9, 10, 11, 12, 13, 14, 15, 16, 17, 18, 19, 20, 21, 22, 23, 24, 25, 26, 27, 28, 29, 30, 31, 32, 33, 34, 35, 36] := by rw [hsz]; rfl
    rw [hr]
    simp only [putL, d0, d1, d2, d3, d4, d5, d6, d7, d8, d9, d10, d11, d12, d13, d14, d15, d16, d17, d18, d19, d20, d21, d22, d23, d24, d25, d26, d27, d28, d29, d30, d31, d32, d33, d34, d35, d36]
    simp only [y0, y1, y2, y3, y4, y5, y6, y7, y8, y9, y10, y15, y16, y17, y18, y23, y24, y25, y26, y28, y29, y30, y31, y33, y34, y35, y36]
    exact hl
end Go.Proofs.YtlkoacopknolnaaGreatDoor
