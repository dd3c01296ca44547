/-
  The steps of the second drawn region of the law's head.
-/
import Derived.Test.YtcbddplgleeiiaaWlB
namespace Go.Proofs.Ytcbddplgleeiiaa
open Go.RowKit

set_option maxRecDepth 100000 in
set_option maxHeartbeats 1000000 in
theorem h4_0 (bx bz : Nat) (a5 a6 a7 : Value) (y : Nat → Value) (z0 z1 z2 z3 z4 z5 z6 z7 : Value) (K : Act → World → Prop) (Q : Exit → Act → World → Prop) (W : World) (x0 x1 x2 x3 x4 x5 x6 x7 x8 x9 x10 x11 x12 x13 x14 x15 x16 x17 x18 x19 x20 x21 x22 x23 x24 x25 x26 x27 x28 x29 x30 x31 x32 x33 x34 x35 x36 : Value) (p1 : Option Addr) (e1 : Nat) (p2 : Option Addr) (e2 : Nat) (m0 : Hid (W.cell? ⟨bz, 0, none⟩ = some (.slice p1 0 e1))) (m1 : Hid (W.cell? ⟨bz, 1, none⟩ = some (.slice p2 6 e2))) (mL : Hid (LasAt W.heap.size W (.agg #[.slice p1 0 e1, .slice p2 6 e2]) [] [0, 1, 1, 1, 0, 0])) 
    (hK : ∀ v w', (hdFs4 0).holds v w' → Below W.heap.size W w' → K { tmps := #[.bool false, .pointer (some ⟨bx, 0, none⟩), .bool true, .pointer (some ⟨bz, 0, none⟩), x36, a5, a6, a7, y 0, y 1, y 2, y 3, y 4, y 5, y 6, y 7, y 8, y 9, y 10, y 11, y 12, y 13, y 14, y 15, y 16, y 17, y 18, y 19, y 20, y 21, y 22, y 23, y 24, y 25, y 26, y 27, y 28, y 29, y 30, y 31, z0, z1, z2, z3, z4, z5, z6, z7, v, x1, x2, x3, x4, x5, x6, x7, x8, x9, x10, x11, x12, x13, x14, x15, x16, x17, x18, x19, x20, x21, x22, x23, x24, x25, x26, x27, x28, x29, x30, x31, x32, x33, x34, x35, undef, undef, undef, undef, undef, undef, undef, undef, undef, undef, undef, undef, undef, undef, undef, undef, undef, undef, undef, undef, undef, undef, undef, undef, undef, undef, undef, undef, undef, undef, undef], defers := [] } w') :
    wpOp Try.prog (opsAt Try.f10 4) Q 0 K { tmps := #[.bool false, .pointer (some ⟨bx, 0, none⟩), .bool true, .pointer (some ⟨bz, 0, none⟩), x36, a5, a6, a7, y 0, y 1, y 2, y 3, y 4, y 5, y 6, y 7, y 8, y 9, y 10, y 11, y 12, y 13, y 14, y 15, y 16, y 17, y 18, y 19, y 20, y 21, y 22, y 23, y 24, y 25, y 26, y 27, y 28, y 29, y 30, y 31, z0, z1, z2, z3, z4, z5, z6, z7, x0, x1, x2, x3, x4, x5, x6, x7, x8, x9, x10, x11, x12, x13, x14, x15, x16, x17, x18, x19, x20, x21, x22, x23, x24, x25, x26, x27, x28, x29, x30, x31, x32, x33, x34, x35, undef, undef, undef, undef, undef, undef, undef, undef, undef, undef, undef, undef, undef, undef, undef, undef, undef, undef, undef, undef, undef, undef, undef, undef, undef, undef, undef, undef, undef, undef, undef], defers := [] } W := by
  have b0 := m0.out
  have b1 := m1.out
  unfold opsAt Try.f10
  simp only [findRegion, Nat.reduceBEq, if_true, if_false, Bool.false_eq_true, Option.getD_some]
  refine wpOp_of_list' rfl ?_
  go_wp2_with fail
  exact hK _ _ mL.out (Below.refl _ _)

set_option maxRecDepth 100000 in
set_option maxHeartbeats 1000000 in
theorem h4_1 (bx bz : Nat) (a5 a6 a7 : Value) (y : Nat → Value) (z0 z1 z2 z3 z4 z5 z6 z7 : Value) (K : Act → World → Prop) (Q : Exit → Act → World → Prop) (W : World) (x0 x1 x2 x3 x4 x5 x6 x7 x8 x9 x10 x11 x12 x13 x14 x15 x16 x17 x18 x19 x20 x21 x22 x23 x24 x25 x26 x27 x28 x29 x30 x31 x32 x33 x34 x35 x36 : Value) 
    (hK : ∀ v w', (hdFs4 1).holds v w' → Below W.heap.size W w' → K { tmps := #[.bool false, .pointer (some ⟨bx, 0, none⟩), .bool true, .pointer (some ⟨bz, 0, none⟩), x36, a5, a6, a7, y 0, y 1, y 2, y 3, y 4, y 5, y 6, y 7, y 8, y 9, y 10, y 11, y 12, y 13, y 14, y 15, y 16, y 17, y 18, y 19, y 20, y 21, y 22, y 23, y 24, y 25, y 26, y 27, y 28, y 29, y 30, y 31, z0, z1, z2, z3, z4, z5, z6, z7, x0, v, x2, x3, x4, x5, x6, x7, x8, x9, x10, x11, x12, x13, x14, x15, x16, x17, x18, x19, x20, x21, x22, x23, x24, x25, x26, x27, x28, x29, x30, x31, x32, x33, x34, x35, undef, undef, undef, undef, undef, undef, undef, undef, undef, undef, undef, undef, undef, undef, undef, undef, undef, undef, undef, undef, undef, undef, undef, undef, undef, undef, undef, undef, undef, undef, undef], defers := [] } w') :
    wpOp Try.prog (opsAt Try.f10 4) Q 1 K { tmps := #[.bool false, .pointer (some ⟨bx, 0, none⟩), .bool true, .pointer (some ⟨bz, 0, none⟩), x36, a5, a6, a7, y 0, y 1, y 2, y 3, y 4, y 5, y 6, y 7, y 8, y 9, y 10, y 11, y 12, y 13, y 14, y 15, y 16, y 17, y 18, y 19, y 20, y 21, y 22, y 23, y 24, y 25, y 26, y 27, y 28, y 29, y 30, y 31, z0, z1, z2, z3, z4, z5, z6, z7, x0, x1, x2, x3, x4, x5, x6, x7, x8, x9, x10, x11, x12, x13, x14, x15, x16, x17, x18, x19, x20, x21, x22, x23, x24, x25, x26, x27, x28, x29, x30, x31, x32, x33, x34, x35, undef, undef, undef, undef, undef, undef, undef, undef, undef, undef, undef, undef, undef, undef, undef, undef, undef, undef, undef, undef, undef, undef, undef, undef, undef, undef, undef, undef, undef, undef, undef], defers := [] } W := by
  unfold opsAt Try.f10
  simp only [findRegion, Nat.reduceBEq, if_true, if_false, Bool.false_eq_true, Option.getD_some]
  refine wpOp_of_list' rfl ?_
  go_wp2_with fail
  exact hK _ _ ((ints_made W [0, 1, 1, 1, 0, 0] 6 rfl (by decide) (by decide)).mono (by simp)) ((Below.refl _ _).alloc (Nat.le_refl _) _)

set_option maxRecDepth 100000 in
set_option maxHeartbeats 1000000 in
theorem h4_2 (bx bz : Nat) (a5 a6 a7 : Value) (y : Nat → Value) (z0 z1 z2 z3 z4 z5 z6 z7 : Value) (K : Act → World → Prop) (Q : Exit → Act → World → Prop) (W : World) (x0 x1 x2 x3 x4 x5 x6 x7 x8 x9 x10 x11 x12 x13 x14 x15 x16 x17 x18 x19 x20 x21 x22 x23 x24 x25 x26 x27 x28 x29 x30 x31 x32 x33 x34 x35 x36 : Value) (q1 : (hdFs4 1).holds x1 W)
    (hK : ∀ v w', (hdFs4 2).holds v w' → Below W.heap.size W w' → K { tmps := #[.bool false, .pointer (some ⟨bx, 0, none⟩), .bool true, .pointer (some ⟨bz, 0, none⟩), x36, a5, a6, a7, y 0, y 1, y 2, y 3, y 4, y 5, y 6, y 7, y 8, y 9, y 10, y 11, y 12, y 13, y 14, y 15, y 16, y 17, y 18, y 19, y 20, y 21, y 22, y 23, y 24, y 25, y 26, y 27, y 28, y 29, y 30, y 31, z0, z1, z2, z3, z4, z5, z6, z7, x0, x1, v, x3, x4, x5, x6, x7, x8, x9, x10, x11, x12, x13, x14, x15, x16, x17, x18, x19, x20, x21, x22, x23, x24, x25, x26, x27, x28, x29, x30, x31, x32, x33, x34, x35, undef, undef, undef, undef, undef, undef, undef, undef, undef, undef, undef, undef, undef, undef, undef, undef, undef, undef, undef, undef, undef, undef, undef, undef, undef, undef, undef, undef, undef, undef, undef], defers := [] } w') :
    wpOp Try.prog (opsAt Try.f10 4) Q 2 K { tmps := #[.bool false, .pointer (some ⟨bx, 0, none⟩), .bool true, .pointer (some ⟨bz, 0, none⟩), x36, a5, a6, a7, y 0, y 1, y 2, y 3, y 4, y 5, y 6, y 7, y 8, y 9, y 10, y 11, y 12, y 13, y 14, y 15, y 16, y 17, y 18, y 19, y 20, y 21, y 22, y 23, y 24, y 25, y 26, y 27, y 28, y 29, y 30, y 31, z0, z1, z2, z3, z4, z5, z6, z7, x0, x1, x2, x3, x4, x5, x6, x7, x8, x9, x10, x11, x12, x13, x14, x15, x16, x17, x18, x19, x20, x21, x22, x23, x24, x25, x26, x27, x28, x29, x30, x31, x32, x33, x34, x35, undef, undef, undef, undef, undef, undef, undef, undef, undef, undef, undef, undef, undef, undef, undef, undef, undef, undef, undef, undef, undef, undef, undef, undef, undef, undef, undef, undef, undef, undef, undef], defers := [] } W := by
  replace q1 : IntsAt W.heap.size W x1 [0, 1, 1, 1, 0, 0] := q1
  obtain ⟨o1, c1, rfl⟩ := q1.shape
  unfold opsAt Try.f10
  simp only [findRegion, Nat.reduceBEq, if_true, if_false, Bool.false_eq_true, Option.getD_some]
  refine wpOp_of_list' rfl ?_
  go_wp2_with (go_at_call 33; refine (lasso_any _ _ _ _ _ _ _).mono ?_; rintro e W2 ⟨rfl, hb⟩)
  exact hK _ _ ⟨_, _, rfl, .inl ⟨_, _, rfl, rfl⟩, ((q1.below hb (Nat.le_refl _)).mono hb.size)⟩ hb

set_option maxRecDepth 100000 in
set_option maxHeartbeats 1000000 in
theorem h4_3 (bx bz : Nat) (a5 a6 a7 : Value) (y : Nat → Value) (z0 z1 z2 z3 z4 z5 z6 z7 : Value) (K : Act → World → Prop) (Q : Exit → Act → World → Prop) (W : World) (x0 x1 x2 x3 x4 x5 x6 x7 x8 x9 x10 x11 x12 x13 x14 x15 x16 x17 x18 x19 x20 x21 x22 x23 x24 x25 x26 x27 x28 x29 x30 x31 x32 x33 x34 x35 x36 : Value) (q0 : (hdFs4 0).holds x0 W) (q2 : (hdFs4 2).holds x2 W)
    (hK : ∀ v w', (hdFs4 3).holds v w' → Below W.heap.size W w' → K { tmps := #[.bool false, .pointer (some ⟨bx, 0, none⟩), .bool true, .pointer (some ⟨bz, 0, none⟩), x36, a5, a6, a7, y 0, y 1, y 2, y 3, y 4, y 5, y 6, y 7, y 8, y 9, y 10, y 11, y 12, y 13, y 14, y 15, y 16, y 17, y 18, y 19, y 20, y 21, y 22, y 23, y 24, y 25, y 26, y 27, y 28, y 29, y 30, y 31, z0, z1, z2, z3, z4, z5, z6, z7, x0, x1, x2, v, x4, x5, x6, x7, x8, x9, x10, x11, x12, x13, x14, x15, x16, x17, x18, x19, x20, x21, x22, x23, x24, x25, x26, x27, x28, x29, x30, x31, x32, x33, x34, x35, undef, undef, undef, undef, undef, undef, undef, undef, undef, undef, undef, undef, undef, undef, undef, undef, undef, undef, undef, undef, undef, undef, undef, undef, undef, undef, undef, undef, undef, undef, undef], defers := [] } w') :
    wpOp Try.prog (opsAt Try.f10 4) Q 3 K { tmps := #[.bool false, .pointer (some ⟨bx, 0, none⟩), .bool true, .pointer (some ⟨bz, 0, none⟩), x36, a5, a6, a7, y 0, y 1, y 2, y 3, y 4, y 5, y 6, y 7, y 8, y 9, y 10, y 11, y 12, y 13, y 14, y 15, y 16, y 17, y 18, y 19, y 20, y 21, y 22, y 23, y 24, y 25, y 26, y 27, y 28, y 29, y 30, y 31, z0, z1, z2, z3, z4, z5, z6, z7, x0, x1, x2, x3, x4, x5, x6, x7, x8, x9, x10, x11, x12, x13, x14, x15, x16, x17, x18, x19, x20, x21, x22, x23, x24, x25, x26, x27, x28, x29, x30, x31, x32, x33, x34, x35, undef, undef, undef, undef, undef, undef, undef, undef, undef, undef, undef, undef, undef, undef, undef, undef, undef, undef, undef, undef, undef, undef, undef, undef, undef, undef, undef, undef, undef, undef, undef], defers := [] } W := by
  replace q0 : LasAt W.heap.size W x0 [] [0, 1, 1, 1, 0, 0] := q0
  obtain ⟨o0, c0, p0, e0, rfl, i0, j0⟩ := q0.open
  replace q2 : LasAt W.heap.size W x2 [] [0, 1, 1, 1, 0, 0] := q2
  obtain ⟨o2, c2, p2, e2, rfl, i2, j2⟩ := q2.open
  unfold opsAt Try.f10
  simp only [findRegion, Nat.reduceBEq, if_true, if_false, Bool.false_eq_true, Option.getD_some]
  refine wpOp_of_list' rfl ?_
  go_wp2_with (go_at_call 19; refine (refequal_any W.heap.size _ _ _ _ _ _ _ q0 q2 (Nat.le_refl _)).mono ?_; rintro e W2 ⟨rfl, hb⟩; rw [hd_e4])
  exact hK _ _ rfl hb

set_option maxRecDepth 100000 in
set_option maxHeartbeats 1000000 in
theorem h4_4 (bx bz : Nat) (a5 a6 a7 : Value) (y : Nat → Value) (z0 z1 z2 z3 z4 z5 z6 z7 : Value) (K : Act → World → Prop) (Q : Exit → Act → World → Prop) (W : World) (x0 x1 x2 x3 x4 x5 x6 x7 x8 x9 x10 x11 x12 x13 x14 x15 x16 x17 x18 x19 x20 x21 x22 x23 x24 x25 x26 x27 x28 x29 x30 x31 x32 x33 x34 x35 x36 : Value) (q3 : (hdFs4 3).holds x3 W)
    (hK : ∀ v w', (hdFs4 4).holds v w' → Below W.heap.size W w' → K { tmps := #[.bool false, .pointer (some ⟨bx, 0, none⟩), .bool true, .pointer (some ⟨bz, 0, none⟩), x36, a5, a6, a7, y 0, y 1, y 2, y 3, y 4, y 5, y 6, y 7, y 8, y 9, y 10, y 11, y 12, y 13, y 14, y 15, y 16, y 17, y 18, y 19, y 20, y 21, y 22, y 23, y 24, y 25, y 26, y 27, y 28, y 29, y 30, y 31, z0, z1, z2, z3, z4, z5, z6, z7, x0, x1, x2, x3, v, x5, x6, x7, x8, x9, x10, x11, x12, x13, x14, x15, x16, x17, x18, x19, x20, x21, x22, x23, x24, x25, x26, x27, x28, x29, x30, x31, x32, x33, x34, x35, undef, undef, undef, undef, undef, undef, undef, undef, undef, undef, undef, undef, undef, undef, undef, undef, undef, undef, undef, undef, undef, undef, undef, undef, undef, undef, undef, undef, undef, undef, undef], defers := [] } w') :
    wpOp Try.prog (opsAt Try.f10 4) Q 4 K { tmps := #[.bool false, .pointer (some ⟨bx, 0, none⟩), .bool true, .pointer (some ⟨bz, 0, none⟩), x36, a5, a6, a7, y 0, y 1, y 2, y 3, y 4, y 5, y 6, y 7, y 8, y 9, y 10, y 11, y 12, y 13, y 14, y 15, y 16, y 17, y 18, y 19, y 20, y 21, y 22, y 23, y 24, y 25, y 26, y 27, y 28, y 29, y 30, y 31, z0, z1, z2, z3, z4, z5, z6, z7, x0, x1, x2, x3, x4, x5, x6, x7, x8, x9, x10, x11, x12, x13, x14, x15, x16, x17, x18, x19, x20, x21, x22, x23, x24, x25, x26, x27, x28, x29, x30, x31, x32, x33, x34, x35, undef, undef, undef, undef, undef, undef, undef, undef, undef, undef, undef, undef, undef, undef, undef, undef, undef, undef, undef, undef, undef, undef, undef, undef, undef, undef, undef, undef, undef, undef, undef], defers := [] } W := by
  obtain rfl : x3 = .bool true := q3
  unfold opsAt Try.f10
  simp only [findRegion, Nat.reduceBEq, if_true, if_false, Bool.false_eq_true, Option.getD_some]
  refine wpOp_of_list' rfl ?_
  go_wp2_with fail
  exact hK _ _ rfl (Below.refl _ _)

set_option maxRecDepth 100000 in
set_option maxHeartbeats 1000000 in
theorem h4_5 (bx bz : Nat) (a5 a6 a7 : Value) (y : Nat → Value) (z0 z1 z2 z3 z4 z5 z6 z7 : Value) (K : Act → World → Prop) (Q : Exit → Act → World → Prop) (W : World) (x0 x1 x2 x3 x4 x5 x6 x7 x8 x9 x10 x11 x12 x13 x14 x15 x16 x17 x18 x19 x20 x21 x22 x23 x24 x25 x26 x27 x28 x29 x30 x31 x32 x33 x34 x35 x36 : Value) (q4 : (hdFs4 4).holds x4 W)
    (hK : ∀ v w', (hdFs4 5).holds v w' → Below W.heap.size W w' → K { tmps := #[.bool false, .pointer (some ⟨bx, 0, none⟩), .bool true, .pointer (some ⟨bz, 0, none⟩), x36, a5, a6, a7, y 0, y 1, y 2, y 3, y 4, y 5, y 6, y 7, y 8, y 9, y 10, y 11, y 12, y 13, y 14, y 15, y 16, y 17, y 18, y 19, y 20, y 21, y 22, y 23, y 24, y 25, y 26, y 27, y 28, y 29, y 30, y 31, z0, z1, z2, z3, z4, z5, z6, z7, x0, x1, x2, x3, x4, v, x6, x7, x8, x9, x10, x11, x12, x13, x14, x15, x16, x17, x18, x19, x20, x21, x22, x23, x24, x25, x26, x27, x28, x29, x30, x31, x32, x33, x34, x35, undef, undef, undef, undef, undef, undef, undef, undef, undef, undef, undef, undef, undef, undef, undef, undef, undef, undef, undef, undef, undef, undef, undef, undef, undef, undef, undef, undef, undef, undef, undef], defers := [] } w') :
    wpOp Try.prog (opsAt Try.f10 4) Q 5 K { tmps := #[.bool false, .pointer (some ⟨bx, 0, none⟩), .bool true, .pointer (some ⟨bz, 0, none⟩), x36, a5, a6, a7, y 0, y 1, y 2, y 3, y 4, y 5, y 6, y 7, y 8, y 9, y 10, y 11, y 12, y 13, y 14, y 15, y 16, y 17, y 18, y 19, y 20, y 21, y 22, y 23, y 24, y 25, y 26, y 27, y 28, y 29, y 30, y 31, z0, z1, z2, z3, z4, z5, z6, z7, x0, x1, x2, x3, x4, x5, x6, x7, x8, x9, x10, x11, x12, x13, x14, x15, x16, x17, x18, x19, x20, x21, x22, x23, x24, x25, x26, x27, x28, x29, x30, x31, x32, x33, x34, x35, undef, undef, undef, undef, undef, undef, undef, undef, undef, undef, undef, undef, undef, undef, undef, undef, undef, undef, undef, undef, undef, undef, undef, undef, undef, undef, undef, undef, undef, undef, undef], defers := [] } W := by
  obtain rfl : x4 = .bool true := q4
  unfold opsAt Try.f10
  simp only [findRegion, Nat.reduceBEq, if_true, if_false, Bool.false_eq_true, Option.getD_some]
  refine wpOp_of_list' rfl ?_
  go_wp2_with fail
  exact hK _ _ ((ints_made W [0] 1 rfl (by decide) (by decide)).mono (by simp)) ((Below.refl _ _).alloc (Nat.le_refl _) _)

set_option maxRecDepth 100000 in
set_option maxHeartbeats 1000000 in
theorem h4_6 (bx bz : Nat) (a5 a6 a7 : Value) (y : Nat → Value) (z0 z1 z2 z3 z4 z5 z6 z7 : Value) (K : Act → World → Prop) (Q : Exit → Act → World → Prop) (W : World) (x0 x1 x2 x3 x4 x5 x6 x7 x8 x9 x10 x11 x12 x13 x14 x15 x16 x17 x18 x19 x20 x21 x22 x23 x24 x25 x26 x27 x28 x29 x30 x31 x32 x33 x34 x35 x36 : Value) (q4 : (hdFs4 4).holds x4 W) (q5 : (hdFs4 5).holds x5 W)
    (hK : ∀ v w', (hdFs4 6).holds v w' → Below W.heap.size W w' → K { tmps := #[.bool false, .pointer (some ⟨bx, 0, none⟩), .bool true, .pointer (some ⟨bz, 0, none⟩), x36, a5, a6, a7, y 0, y 1, y 2, y 3, y 4, y 5, y 6, y 7, y 8, y 9, y 10, y 11, y 12, y 13, y 14, y 15, y 16, y 17, y 18, y 19, y 20, y 21, y 22, y 23, y 24, y 25, y 26, y 27, y 28, y 29, y 30, y 31, z0, z1, z2, z3, z4, z5, z6, z7, x0, x1, x2, x3, x4, x5, v, x7, x8, x9, x10, x11, x12, x13, x14, x15, x16, x17, x18, x19, x20, x21, x22, x23, x24, x25, x26, x27, x28, x29, x30, x31, x32, x33, x34, x35, undef, undef, undef, undef, undef, undef, undef, undef, undef, undef, undef, undef, undef, undef, undef, undef, undef, undef, undef, undef, undef, undef, undef, undef, undef, undef, undef, undef, undef, undef, undef], defers := [] } w') :
    wpOp Try.prog (opsAt Try.f10 4) Q 6 K { tmps := #[.bool false, .pointer (some ⟨bx, 0, none⟩), .bool true, .pointer (some ⟨bz, 0, none⟩), x36, a5, a6, a7, y 0, y 1, y 2, y 3, y 4, y 5, y 6, y 7, y 8, y 9, y 10, y 11, y 12, y 13, y 14, y 15, y 16, y 17, y 18, y 19, y 20, y 21, y 22, y 23, y 24, y 25, y 26, y 27, y 28, y 29, y 30, y 31, z0, z1, z2, z3, z4, z5, z6, z7, x0, x1, x2, x3, x4, x5, x6, x7, x8, x9, x10, x11, x12, x13, x14, x15, x16, x17, x18, x19, x20, x21, x22, x23, x24, x25, x26, x27, x28, x29, x30, x31, x32, x33, x34, x35, undef, undef, undef, undef, undef, undef, undef, undef, undef, undef, undef, undef, undef, undef, undef, undef, undef, undef, undef, undef, undef, undef, undef, undef, undef, undef, undef, undef, undef, undef, undef], defers := [] } W := by
  obtain rfl : x4 = .bool true := q4
  replace q5 : IntsAt W.heap.size W x5 [0] := q5
  obtain ⟨o5, c5, rfl⟩ := q5.shape
  unfold opsAt Try.f10
  simp only [findRegion, Nat.reduceBEq, if_true, if_false, Bool.false_eq_true, Option.getD_some]
  refine wpOp_of_list' rfl ?_
  go_wp2_with (go_at_call 33; refine (lasso_any _ _ _ _ _ _ _).mono ?_; rintro e W2 ⟨rfl, hb⟩)
  exact hK _ _ ⟨_, _, rfl, .inl ⟨_, _, rfl, rfl⟩, ((q5.below hb (Nat.le_refl _)).mono hb.size)⟩ hb

set_option maxRecDepth 100000 in
set_option maxHeartbeats 1000000 in
theorem h4_7 (bx bz : Nat) (a5 a6 a7 : Value) (y : Nat → Value) (z0 z1 z2 z3 z4 z5 z6 z7 : Value) (K : Act → World → Prop) (Q : Exit → Act → World → Prop) (W : World) (x0 x1 x2 x3 x4 x5 x6 x7 x8 x9 x10 x11 x12 x13 x14 x15 x16 x17 x18 x19 x20 x21 x22 x23 x24 x25 x26 x27 x28 x29 x30 x31 x32 x33 x34 x35 x36 : Value) (q4 : (hdFs4 4).holds x4 W)
    (hK : ∀ v w', (hdFs4 7).holds v w' → Below W.heap.size W w' → K { tmps := #[.bool false, .pointer (some ⟨bx, 0, none⟩), .bool true, .pointer (some ⟨bz, 0, none⟩), x36, a5, a6, a7, y 0, y 1, y 2, y 3, y 4, y 5, y 6, y 7, y 8, y 9, y 10, y 11, y 12, y 13, y 14, y 15, y 16, y 17, y 18, y 19, y 20, y 21, y 22, y 23, y 24, y 25, y 26, y 27, y 28, y 29, y 30, y 31, z0, z1, z2, z3, z4, z5, z6, z7, x0, x1, x2, x3, x4, x5, x6, v, x8, x9, x10, x11, x12, x13, x14, x15, x16, x17, x18, x19, x20, x21, x22, x23, x24, x25, x26, x27, x28, x29, x30, x31, x32, x33, x34, x35, undef, undef, undef, undef, undef, undef, undef, undef, undef, undef, undef, undef, undef, undef, undef, undef, undef, undef, undef, undef, undef, undef, undef, undef, undef, undef, undef, undef, undef, undef, undef], defers := [] } w') :
    wpOp Try.prog (opsAt Try.f10 4) Q 7 K { tmps := #[.bool false, .pointer (some ⟨bx, 0, none⟩), .bool true, .pointer (some ⟨bz, 0, none⟩), x36, a5, a6, a7, y 0, y 1, y 2, y 3, y 4, y 5, y 6, y 7, y 8, y 9, y 10, y 11, y 12, y 13, y 14, y 15, y 16, y 17, y 18, y 19, y 20, y 21, y 22, y 23, y 24, y 25, y 26, y 27, y 28, y 29, y 30, y 31, z0, z1, z2, z3, z4, z5, z6, z7, x0, x1, x2, x3, x4, x5, x6, x7, x8, x9, x10, x11, x12, x13, x14, x15, x16, x17, x18, x19, x20, x21, x22, x23, x24, x25, x26, x27, x28, x29, x30, x31, x32, x33, x34, x35, undef, undef, undef, undef, undef, undef, undef, undef, undef, undef, undef, undef, undef, undef, undef, undef, undef, undef, undef, undef, undef, undef, undef, undef, undef, undef, undef, undef, undef, undef, undef], defers := [] } W := by
  obtain rfl : x4 = .bool true := q4
  unfold opsAt Try.f10
  simp only [findRegion, Nat.reduceBEq, if_true, if_false, Bool.false_eq_true, Option.getD_some]
  refine wpOp_of_list' rfl ?_
  go_wp2_with fail
  exact hK _ _ ((ints_made W [1] 1 rfl (by decide) (by decide)).mono (by simp)) ((Below.refl _ _).alloc (Nat.le_refl _) _)

set_option maxRecDepth 100000 in
set_option maxHeartbeats 1000000 in
theorem h4_8 (bx bz : Nat) (a5 a6 a7 : Value) (y : Nat → Value) (z0 z1 z2 z3 z4 z5 z6 z7 : Value) (K : Act → World → Prop) (Q : Exit → Act → World → Prop) (W : World) (x0 x1 x2 x3 x4 x5 x6 x7 x8 x9 x10 x11 x12 x13 x14 x15 x16 x17 x18 x19 x20 x21 x22 x23 x24 x25 x26 x27 x28 x29 x30 x31 x32 x33 x34 x35 x36 : Value) (q4 : (hdFs4 4).holds x4 W) (q7 : (hdFs4 7).holds x7 W)
    (hK : ∀ v w', (hdFs4 8).holds v w' → Below W.heap.size W w' → K { tmps := #[.bool false, .pointer (some ⟨bx, 0, none⟩), .bool true, .pointer (some ⟨bz, 0, none⟩), x36, a5, a6, a7, y 0, y 1, y 2, y 3, y 4, y 5, y 6, y 7, y 8, y 9, y 10, y 11, y 12, y 13, y 14, y 15, y 16, y 17, y 18, y 19, y 20, y 21, y 22, y 23, y 24, y 25, y 26, y 27, y 28, y 29, y 30, y 31, z0, z1, z2, z3, z4, z5, z6, z7, x0, x1, x2, x3, x4, x5, x6, x7, v, x9, x10, x11, x12, x13, x14, x15, x16, x17, x18, x19, x20, x21, x22, x23, x24, x25, x26, x27, x28, x29, x30, x31, x32, x33, x34, x35, undef, undef, undef, undef, undef, undef, undef, undef, undef, undef, undef, undef, undef, undef, undef, undef, undef, undef, undef, undef, undef, undef, undef, undef, undef, undef, undef, undef, undef, undef, undef], defers := [] } w') :
    wpOp Try.prog (opsAt Try.f10 4) Q 8 K { tmps := #[.bool false, .pointer (some ⟨bx, 0, none⟩), .bool true, .pointer (some ⟨bz, 0, none⟩), x36, a5, a6, a7, y 0, y 1, y 2, y 3, y 4, y 5, y 6, y 7, y 8, y 9, y 10, y 11, y 12, y 13, y 14, y 15, y 16, y 17, y 18, y 19, y 20, y 21, y 22, y 23, y 24, y 25, y 26, y 27, y 28, y 29, y 30, y 31, z0, z1, z2, z3, z4, z5, z6, z7, x0, x1, x2, x3, x4, x5, x6, x7, x8, x9, x10, x11, x12, x13, x14, x15, x16, x17, x18, x19, x20, x21, x22, x23, x24, x25, x26, x27, x28, x29, x30, x31, x32, x33, x34, x35, undef, undef, undef, undef, undef, undef, undef, undef, undef, undef, undef, undef, undef, undef, undef, undef, undef, undef, undef, undef, undef, undef, undef, undef, undef, undef, undef, undef, undef, undef, undef], defers := [] } W := by
  obtain rfl : x4 = .bool true := q4
  replace q7 : IntsAt W.heap.size W x7 [1] := q7
  obtain ⟨o7, c7, rfl⟩ := q7.shape
  unfold opsAt Try.f10
  simp only [findRegion, Nat.reduceBEq, if_true, if_false, Bool.false_eq_true, Option.getD_some]
  refine wpOp_of_list' rfl ?_
  go_wp2_with (go_at_call 33; refine (lasso_any _ _ _ _ _ _ _).mono ?_; rintro e W2 ⟨rfl, hb⟩)
  exact hK _ _ ⟨_, _, rfl, .inl ⟨_, _, rfl, rfl⟩, ((q7.below hb (Nat.le_refl _)).mono hb.size)⟩ hb

set_option maxRecDepth 100000 in
set_option maxHeartbeats 1000000 in
theorem h4_9 (bx bz : Nat) (a5 a6 a7 : Value) (y : Nat → Value) (z0 z1 z2 z3 z4 z5 z6 z7 : Value) (K : Act → World → Prop) (Q : Exit → Act → World → Prop) (W : World) (x0 x1 x2 x3 x4 x5 x6 x7 x8 x9 x10 x11 x12 x13 x14 x15 x16 x17 x18 x19 x20 x21 x22 x23 x24 x25 x26 x27 x28 x29 x30 x31 x32 x33 x34 x35 x36 : Value) (q4 : (hdFs4 4).holds x4 W)
    (hK : ∀ v w', (hdFs4 9).holds v w' → Below W.heap.size W w' → K { tmps := #[.bool false, .pointer (some ⟨bx, 0, none⟩), .bool true, .pointer (some ⟨bz, 0, none⟩), x36, a5, a6, a7, y 0, y 1, y 2, y 3, y 4, y 5, y 6, y 7, y 8, y 9, y 10, y 11, y 12, y 13, y 14, y 15, y 16, y 17, y 18, y 19, y 20, y 21, y 22, y 23, y 24, y 25, y 26, y 27, y 28, y 29, y 30, y 31, z0, z1, z2, z3, z4, z5, z6, z7, x0, x1, x2, x3, x4, x5, x6, x7, x8, v, x10, x11, x12, x13, x14, x15, x16, x17, x18, x19, x20, x21, x22, x23, x24, x25, x26, x27, x28, x29, x30, x31, x32, x33, x34, x35, undef, undef, undef, undef, undef, undef, undef, undef, undef, undef, undef, undef, undef, undef, undef, undef, undef, undef, undef, undef, undef, undef, undef, undef, undef, undef, undef, undef, undef, undef, undef], defers := [] } w') :
    wpOp Try.prog (opsAt Try.f10 4) Q 9 K { tmps := #[.bool false, .pointer (some ⟨bx, 0, none⟩), .bool true, .pointer (some ⟨bz, 0, none⟩), x36, a5, a6, a7, y 0, y 1, y 2, y 3, y 4, y 5, y 6, y 7, y 8, y 9, y 10, y 11, y 12, y 13, y 14, y 15, y 16, y 17, y 18, y 19, y 20, y 21, y 22, y 23, y 24, y 25, y 26, y 27, y 28, y 29, y 30, y 31, z0, z1, z2, z3, z4, z5, z6, z7, x0, x1, x2, x3, x4, x5, x6, x7, x8, x9, x10, x11, x12, x13, x14, x15, x16, x17, x18, x19, x20, x21, x22, x23, x24, x25, x26, x27, x28, x29, x30, x31, x32, x33, x34, x35, undef, undef, undef, undef, undef, undef, undef, undef, undef, undef, undef, undef, undef, undef, undef, undef, undef, undef, undef, undef, undef, undef, undef, undef, undef, undef, undef, undef, undef, undef, undef], defers := [] } W := by
  obtain rfl : x4 = .bool true := q4
  unfold opsAt Try.f10
  simp only [findRegion, Nat.reduceBEq, if_true, if_false, Bool.false_eq_true, Option.getD_some]
  refine wpOp_of_list' rfl ?_
  go_wp2_with fail
  exact hK _ _ ((ints_made W [0] 1 rfl (by decide) (by decide)).mono (by simp)) ((Below.refl _ _).alloc (Nat.le_refl _) _)

set_option maxRecDepth 100000 in
set_option maxHeartbeats 1000000 in
theorem h4_10 (bx bz : Nat) (a5 a6 a7 : Value) (y : Nat → Value) (z0 z1 z2 z3 z4 z5 z6 z7 : Value) (K : Act → World → Prop) (Q : Exit → Act → World → Prop) (W : World) (x0 x1 x2 x3 x4 x5 x6 x7 x8 x9 x10 x11 x12 x13 x14 x15 x16 x17 x18 x19 x20 x21 x22 x23 x24 x25 x26 x27 x28 x29 x30 x31 x32 x33 x34 x35 x36 : Value) (q4 : (hdFs4 4).holds x4 W) (q9 : (hdFs4 9).holds x9 W)
    (hK : ∀ v w', (hdFs4 10).holds v w' → Below W.heap.size W w' → K { tmps := #[.bool false, .pointer (some ⟨bx, 0, none⟩), .bool true, .pointer (some ⟨bz, 0, none⟩), x36, a5, a6, a7, y 0, y 1, y 2, y 3, y 4, y 5, y 6, y 7, y 8, y 9, y 10, y 11, y 12, y 13, y 14, y 15, y 16, y 17, y 18, y 19, y 20, y 21, y 22, y 23, y 24, y 25, y 26, y 27, y 28, y 29, y 30, y 31, z0, z1, z2, z3, z4, z5, z6, z7, x0, x1, x2, x3, x4, x5, x6, x7, x8, x9, v, x11, x12, x13, x14, x15, x16, x17, x18, x19, x20, x21, x22, x23, x24, x25, x26, x27, x28, x29, x30, x31, x32, x33, x34, x35, undef, undef, undef, undef, undef, undef, undef, undef, undef, undef, undef, undef, undef, undef, undef, undef, undef, undef, undef, undef, undef, undef, undef, undef, undef, undef, undef, undef, undef, undef, undef], defers := [] } w') :
    wpOp Try.prog (opsAt Try.f10 4) Q 10 K { tmps := #[.bool false, .pointer (some ⟨bx, 0, none⟩), .bool true, .pointer (some ⟨bz, 0, none⟩), x36, a5, a6, a7, y 0, y 1, y 2, y 3, y 4, y 5, y 6, y 7, y 8, y 9, y 10, y 11, y 12, y 13, y 14, y 15, y 16, y 17, y 18, y 19, y 20, y 21, y 22, y 23, y 24, y 25, y 26, y 27, y 28, y 29, y 30, y 31, z0, z1, z2, z3, z4, z5, z6, z7, x0, x1, x2, x3, x4, x5, x6, x7, x8, x9, x10, x11, x12, x13, x14, x15, x16, x17, x18, x19, x20, x21, x22, x23, x24, x25, x26, x27, x28, x29, x30, x31, x32, x33, x34, x35, undef, undef, undef, undef, undef, undef, undef, undef, undef, undef, undef, undef, undef, undef, undef, undef, undef, undef, undef, undef, undef, undef, undef, undef, undef, undef, undef, undef, undef, undef, undef], defers := [] } W := by
  obtain rfl : x4 = .bool true := q4
  replace q9 : IntsAt W.heap.size W x9 [0] := q9
  obtain ⟨o9, c9, rfl⟩ := q9.shape
  unfold opsAt Try.f10
  simp only [findRegion, Nat.reduceBEq, if_true, if_false, Bool.false_eq_true, Option.getD_some]
  refine wpOp_of_list' rfl ?_
  go_wp2_with fail
  exact hK _ _ (tab_one W _ [0] q9) ((Below.refl _ _).alloc (Nat.le_refl _) _)

set_option maxRecDepth 100000 in
set_option maxHeartbeats 1000000 in
theorem h4_11 (bx bz : Nat) (a5 a6 a7 : Value) (y : Nat → Value) (z0 z1 z2 z3 z4 z5 z6 z7 : Value) (K : Act → World → Prop) (Q : Exit → Act → World → Prop) (W : World) (x0 x1 x2 x3 x4 x5 x6 x7 x8 x9 x10 x11 x12 x13 x14 x15 x16 x17 x18 x19 x20 x21 x22 x23 x24 x25 x26 x27 x28 x29 x30 x31 x32 x33 x34 x35 x36 : Value) (q4 : (hdFs4 4).holds x4 W) (q6 : (hdFs4 6).holds x6 W) (q8 : (hdFs4 8).holds x8 W) (q10 : (hdFs4 10).holds x10 W)
    (hK : ∀ v w', (hdFs4 11).holds v w' → Below W.heap.size W w' → K { tmps := #[.bool false, .pointer (some ⟨bx, 0, none⟩), .bool true, .pointer (some ⟨bz, 0, none⟩), x36, a5, a6, a7, y 0, y 1, y 2, y 3, y 4, y 5, y 6, y 7, y 8, y 9, y 10, y 11, y 12, y 13, y 14, y 15, y 16, y 17, y 18, y 19, y 20, y 21, y 22, y 23, y 24, y 25, y 26, y 27, y 28, y 29, y 30, y 31, z0, z1, z2, z3, z4, z5, z6, z7, x0, x1, x2, x3, x4, x5, x6, x7, x8, x9, x10, v, x12, x13, x14, x15, x16, x17, x18, x19, x20, x21, x22, x23, x24, x25, x26, x27, x28, x29, x30, x31, x32, x33, x34, x35, undef, undef, undef, undef, undef, undef, undef, undef, undef, undef, undef, undef, undef, undef, undef, undef, undef, undef, undef, undef, undef, undef, undef, undef, undef, undef, undef, undef, undef, undef, undef], defers := [] } w') :
    wpOp Try.prog (opsAt Try.f10 4) Q 11 K { tmps := #[.bool false, .pointer (some ⟨bx, 0, none⟩), .bool true, .pointer (some ⟨bz, 0, none⟩), x36, a5, a6, a7, y 0, y 1, y 2, y 3, y 4, y 5, y 6, y 7, y 8, y 9, y 10, y 11, y 12, y 13, y 14, y 15, y 16, y 17, y 18, y 19, y 20, y 21, y 22, y 23, y 24, y 25, y 26, y 27, y 28, y 29, y 30, y 31, z0, z1, z2, z3, z4, z5, z6, z7, x0, x1, x2, x3, x4, x5, x6, x7, x8, x9, x10, x11, x12, x13, x14, x15, x16, x17, x18, x19, x20, x21, x22, x23, x24, x25, x26, x27, x28, x29, x30, x31, x32, x33, x34, x35, undef, undef, undef, undef, undef, undef, undef, undef, undef, undef, undef, undef, undef, undef, undef, undef, undef, undef, undef, undef, undef, undef, undef, undef, undef, undef, undef, undef, undef, undef, undef], defers := [] } W := by
  obtain rfl : x4 = .bool true := q4
  replace q6 : LasAt W.heap.size W x6 [] [0] := q6
  obtain ⟨o6, c6, p6, e6, rfl, i6, j6⟩ := q6.open
  replace q8 : LasAt W.heap.size W x8 [] [1] := q8
  obtain ⟨o8, c8, p8, e8, rfl, i8, j8⟩ := q8.open
  replace q10 : TabAt W.heap.size W x10 [[0]] := q10
  obtain ⟨o10, c10, rfl⟩ := q10.shape
  unfold opsAt Try.f10
  simp only [findRegion, Nat.reduceBEq, if_true, if_false, Bool.false_eq_true, Option.getD_some]
  refine wpOp_of_list' rfl ?_
  go_wp2_with (go_at_call 28; refine (zip_any W.heap.size _ _ _ _ _ _ _ _ _ q6 q8 q10 (Nat.le_refl _)).mono ?_; rintro e W2 ⟨r, rfl, hN, hb⟩; rw [hd_z2] at hN; obtain ⟨u5, u4, rfl, J5, J4, -, -⟩ := hN.ex; obtain ⟨x5', k5, rfl⟩ := J5.shape; obtain ⟨x4', k4, rfl⟩ := J4.shape)
  exact hK _ _ hN.las hb

set_option maxRecDepth 100000 in
set_option maxHeartbeats 1000000 in
theorem h4_12 (bx bz : Nat) (a5 a6 a7 : Value) (y : Nat → Value) (z0 z1 z2 z3 z4 z5 z6 z7 : Value) (K : Act → World → Prop) (Q : Exit → Act → World → Prop) (W : World) (x0 x1 x2 x3 x4 x5 x6 x7 x8 x9 x10 x11 x12 x13 x14 x15 x16 x17 x18 x19 x20 x21 x22 x23 x24 x25 x26 x27 x28 x29 x30 x31 x32 x33 x34 x35 x36 : Value) (q4 : (hdFs4 4).holds x4 W) (q11 : (hdFs4 11).holds x11 W)
    (hK : ∀ v w', (hdFs4 12).holds v w' → Below W.heap.size W w' → K { tmps := #[.bool false, .pointer (some ⟨bx, 0, none⟩), .bool true, .pointer (some ⟨bz, 0, none⟩), x36, a5, a6, a7, y 0, y 1, y 2, y 3, y 4, y 5, y 6, y 7, y 8, y 9, y 10, y 11, y 12, y 13, y 14, y 15, y 16, y 17, y 18, y 19, y 20, y 21, y 22, y 23, y 24, y 25, y 26, y 27, y 28, y 29, y 30, y 31, z0, z1, z2, z3, z4, z5, z6, z7, x0, x1, x2, x3, x4, x5, x6, x7, x8, x9, x10, x11, v, x13, x14, x15, x16, x17, x18, x19, x20, x21, x22, x23, x24, x25, x26, x27, x28, x29, x30, x31, x32, x33, x34, x35, undef, undef, undef, undef, undef, undef, undef, undef, undef, undef, undef, undef, undef, undef, undef, undef, undef, undef, undef, undef, undef, undef, undef, undef, undef, undef, undef, undef, undef, undef, undef], defers := [] } w') :
    wpOp Try.prog (opsAt Try.f10 4) Q 12 K { tmps := #[.bool false, .pointer (some ⟨bx, 0, none⟩), .bool true, .pointer (some ⟨bz, 0, none⟩), x36, a5, a6, a7, y 0, y 1, y 2, y 3, y 4, y 5, y 6, y 7, y 8, y 9, y 10, y 11, y 12, y 13, y 14, y 15, y 16, y 17, y 18, y 19, y 20, y 21, y 22, y 23, y 24, y 25, y 26, y 27, y 28, y 29, y 30, y 31, z0, z1, z2, z3, z4, z5, z6, z7, x0, x1, x2, x3, x4, x5, x6, x7, x8, x9, x10, x11, x12, x13, x14, x15, x16, x17, x18, x19, x20, x21, x22, x23, x24, x25, x26, x27, x28, x29, x30, x31, x32, x33, x34, x35, undef, undef, undef, undef, undef, undef, undef, undef, undef, undef, undef, undef, undef, undef, undef, undef, undef, undef, undef, undef, undef, undef, undef, undef, undef, undef, undef, undef, undef, undef, undef], defers := [] } W := by
  obtain rfl : x4 = .bool true := q4
  replace q11 : LasAt W.heap.size W x11 [] [] := q11
  obtain ⟨o11, c11, p11, e11, rfl, i11, j11⟩ := q11.open
  have hfd := las_field W o11 0 c11 p11 0 e11
  unfold opsAt Try.f10
  simp only [findRegion, Nat.reduceBEq, if_true, if_false, Bool.false_eq_true, Option.getD_some]
  refine wpOp_of_list' rfl ?_
  go_wp2_with fail
  exact hK _ _ j11 (Below.refl _ _)

set_option maxRecDepth 100000 in
set_option maxHeartbeats 1000000 in
theorem h4_13 (bx bz : Nat) (a5 a6 a7 : Value) (y : Nat → Value) (z0 z1 z2 z3 z4 z5 z6 z7 : Value) (K : Act → World → Prop) (Q : Exit → Act → World → Prop) (W : World) (x0 x1 x2 x3 x4 x5 x6 x7 x8 x9 x10 x11 x12 x13 x14 x15 x16 x17 x18 x19 x20 x21 x22 x23 x24 x25 x26 x27 x28 x29 x30 x31 x32 x33 x34 x35 x36 : Value) (q4 : (hdFs4 4).holds x4 W) (q12 : (hdFs4 12).holds x12 W)
    (hK : ∀ v w', (hdFs4 13).holds v w' → Below W.heap.size W w' → K { tmps := #[.bool false, .pointer (some ⟨bx, 0, none⟩), .bool true, .pointer (some ⟨bz, 0, none⟩), x36, a5, a6, a7, y 0, y 1, y 2, y 3, y 4, y 5, y 6, y 7, y 8, y 9, y 10, y 11, y 12, y 13, y 14, y 15, y 16, y 17, y 18, y 19, y 20, y 21, y 22, y 23, y 24, y 25, y 26, y 27, y 28, y 29, y 30, y 31, z0, z1, z2, z3, z4, z5, z6, z7, x0, x1, x2, x3, x4, x5, x6, x7, x8, x9, x10, x11, x12, v, x14, x15, x16, x17, x18, x19, x20, x21, x22, x23, x24, x25, x26, x27, x28, x29, x30, x31, x32, x33, x34, x35, undef, undef, undef, undef, undef, undef, undef, undef, undef, undef, undef, undef, undef, undef, undef, undef, undef, undef, undef, undef, undef, undef, undef, undef, undef, undef, undef, undef, undef, undef, undef], defers := [] } w') :
    wpOp Try.prog (opsAt Try.f10 4) Q 13 K { tmps := #[.bool false, .pointer (some ⟨bx, 0, none⟩), .bool true, .pointer (some ⟨bz, 0, none⟩), x36, a5, a6, a7, y 0, y 1, y 2, y 3, y 4, y 5, y 6, y 7, y 8, y 9, y 10, y 11, y 12, y 13, y 14, y 15, y 16, y 17, y 18, y 19, y 20, y 21, y 22, y 23, y 24, y 25, y 26, y 27, y 28, y 29, y 30, y 31, z0, z1, z2, z3, z4, z5, z6, z7, x0, x1, x2, x3, x4, x5, x6, x7, x8, x9, x10, x11, x12, x13, x14, x15, x16, x17, x18, x19, x20, x21, x22, x23, x24, x25, x26, x27, x28, x29, x30, x31, x32, x33, x34, x35, undef, undef, undef, undef, undef, undef, undef, undef, undef, undef, undef, undef, undef, undef, undef, undef, undef, undef, undef, undef, undef, undef, undef, undef, undef, undef, undef, undef, undef, undef, undef], defers := [] } W := by
  obtain rfl : x4 = .bool true := q4
  replace q12 : IntsAt W.heap.size W x12 [] := q12
  obtain ⟨o12, c12, rfl⟩ := q12.shape
  unfold opsAt Try.f10
  simp only [findRegion, Nat.reduceBEq, if_true, if_false, Bool.false_eq_true, Option.getD_some]
  refine wpOp_of_list' rfl ?_
  go_wp2_with fail
  exact hK _ _ rfl (Below.refl _ _)

set_option maxRecDepth 100000 in
set_option maxHeartbeats 1000000 in
theorem h4_14 (bx bz : Nat) (a5 a6 a7 : Value) (y : Nat → Value) (z0 z1 z2 z3 z4 z5 z6 z7 : Value) (K : Act → World → Prop) (Q : Exit → Act → World → Prop) (W : World) (x0 x1 x2 x3 x4 x5 x6 x7 x8 x9 x10 x11 x12 x13 x14 x15 x16 x17 x18 x19 x20 x21 x22 x23 x24 x25 x26 x27 x28 x29 x30 x31 x32 x33 x34 x35 x36 : Value) (q4 : (hdFs4 4).holds x4 W) (q13 : (hdFs4 13).holds x13 W)
    (hK : ∀ v w', (hdFs4 14).holds v w' → Below W.heap.size W w' → K { tmps := #[.bool false, .pointer (some ⟨bx, 0, none⟩), .bool true, .pointer (some ⟨bz, 0, none⟩), x36, a5, a6, a7, y 0, y 1, y 2, y 3, y 4, y 5, y 6, y 7, y 8, y 9, y 10, y 11, y 12, y 13, y 14, y 15, y 16, y 17, y 18, y 19, y 20, y 21, y 22, y 23, y 24, y 25, y 26, y 27, y 28, y 29, y 30, y 31, z0, z1, z2, z3, z4, z5, z6, z7, x0, x1, x2, x3, x4, x5, x6, x7, x8, x9, x10, x11, x12, x13, v, x15, x16, x17, x18, x19, x20, x21, x22, x23, x24, x25, x26, x27, x28, x29, x30, x31, x32, x33, x34, x35, undef, undef, undef, undef, undef, undef, undef, undef, undef, undef, undef, undef, undef, undef, undef, undef, undef, undef, undef, undef, undef, undef, undef, undef, undef, undef, undef, undef, undef, undef, undef], defers := [] } w') :
    wpOp Try.prog (opsAt Try.f10 4) Q 14 K { tmps := #[.bool false, .pointer (some ⟨bx, 0, none⟩), .bool true, .pointer (some ⟨bz, 0, none⟩), x36, a5, a6, a7, y 0, y 1, y 2, y 3, y 4, y 5, y 6, y 7, y 8, y 9, y 10, y 11, y 12, y 13, y 14, y 15, y 16, y 17, y 18, y 19, y 20, y 21, y 22, y 23, y 24, y 25, y 26, y 27, y 28, y 29, y 30, y 31, z0, z1, z2, z3, z4, z5, z6, z7, x0, x1, x2, x3, x4, x5, x6, x7, x8, x9, x10, x11, x12, x13, x14, x15, x16, x17, x18, x19, x20, x21, x22, x23, x24, x25, x26, x27, x28, x29, x30, x31, x32, x33, x34, x35, undef, undef, undef, undef, undef, undef, undef, undef, undef, undef, undef, undef, undef, undef, undef, undef, undef, undef, undef, undef, undef, undef, undef, undef, undef, undef, undef, undef, undef, undef, undef], defers := [] } W := by
  obtain rfl : x4 = .bool true := q4
  obtain rfl : x13 = .int .i64 0 := q13
  unfold opsAt Try.f10
  simp only [findRegion, Nat.reduceBEq, if_true, if_false, Bool.false_eq_true, Option.getD_some]
  refine wpOp_of_list' rfl ?_
  go_wp2_with fail
  exact hK _ _ rfl (Below.refl _ _)

set_option maxRecDepth 100000 in
set_option maxHeartbeats 1000000 in
theorem h4_15 (bx bz : Nat) (a5 a6 a7 : Value) (y : Nat → Value) (z0 z1 z2 z3 z4 z5 z6 z7 : Value) (K : Act → World → Prop) (Q : Exit → Act → World → Prop) (W : World) (x0 x1 x2 x3 x4 x5 x6 x7 x8 x9 x10 x11 x12 x13 x14 x15 x16 x17 x18 x19 x20 x21 x22 x23 x24 x25 x26 x27 x28 x29 x30 x31 x32 x33 x34 x35 x36 : Value) (q4 : (hdFs4 4).holds x4 W) (q14 : (hdFs4 14).holds x14 W)
    (hK : ∀ v w', (hdFs4 15).holds v w' → Below W.heap.size W w' → K { tmps := #[.bool false, .pointer (some ⟨bx, 0, none⟩), .bool true, .pointer (some ⟨bz, 0, none⟩), x36, a5, a6, a7, y 0, y 1, y 2, y 3, y 4, y 5, y 6, y 7, y 8, y 9, y 10, y 11, y 12, y 13, y 14, y 15, y 16, y 17, y 18, y 19, y 20, y 21, y 22, y 23, y 24, y 25, y 26, y 27, y 28, y 29, y 30, y 31, z0, z1, z2, z3, z4, z5, z6, z7, x0, x1, x2, x3, x4, x5, x6, x7, x8, x9, x10, x11, x12, x13, x14, v, x16, x17, x18, x19, x20, x21, x22, x23, x24, x25, x26, x27, x28, x29, x30, x31, x32, x33, x34, x35, undef, undef, undef, undef, undef, undef, undef, undef, undef, undef, undef, undef, undef, undef, undef, undef, undef, undef, undef, undef, undef, undef, undef, undef, undef, undef, undef, undef, undef, undef, undef], defers := [] } w') :
    wpOp Try.prog (opsAt Try.f10 4) Q 15 K { tmps := #[.bool false, .pointer (some ⟨bx, 0, none⟩), .bool true, .pointer (some ⟨bz, 0, none⟩), x36, a5, a6, a7, y 0, y 1, y 2, y 3, y 4, y 5, y 6, y 7, y 8, y 9, y 10, y 11, y 12, y 13, y 14, y 15, y 16, y 17, y 18, y 19, y 20, y 21, y 22, y 23, y 24, y 25, y 26, y 27, y 28, y 29, y 30, y 31, z0, z1, z2, z3, z4, z5, z6, z7, x0, x1, x2, x3, x4, x5, x6, x7, x8, x9, x10, x11, x12, x13, x14, x15, x16, x17, x18, x19, x20, x21, x22, x23, x24, x25, x26, x27, x28, x29, x30, x31, x32, x33, x34, x35, undef, undef, undef, undef, undef, undef, undef, undef, undef, undef, undef, undef, undef, undef, undef, undef, undef, undef, undef, undef, undef, undef, undef, undef, undef, undef, undef, undef, undef, undef, undef], defers := [] } W := by
  obtain rfl : x4 = .bool true := q4
  obtain rfl : x14 = .bool true := q14
  unfold opsAt Try.f10
  simp only [findRegion, Nat.reduceBEq, if_true, if_false, Bool.false_eq_true, Option.getD_some]
  refine wpOp_of_list' rfl ?_
  go_wp2_with fail
  exact hK _ _ rfl (Below.refl _ _)

set_option maxRecDepth 100000 in
set_option maxHeartbeats 1000000 in
theorem h4_16 (bx bz : Nat) (a5 a6 a7 : Value) (y : Nat → Value) (z0 z1 z2 z3 z4 z5 z6 z7 : Value) (K : Act → World → Prop) (Q : Exit → Act → World → Prop) (W : World) (x0 x1 x2 x3 x4 x5 x6 x7 x8 x9 x10 x11 x12 x13 x14 x15 x16 x17 x18 x19 x20 x21 x22 x23 x24 x25 x26 x27 x28 x29 x30 x31 x32 x33 x34 x35 x36 : Value) (q15 : (hdFs4 15).holds x15 W)
    (hK : ∀ v w', (hdFs4 16).holds v w' → Below W.heap.size W w' → K { tmps := #[.bool false, .pointer (some ⟨bx, 0, none⟩), .bool true, .pointer (some ⟨bz, 0, none⟩), x36, a5, a6, a7, y 0, y 1, y 2, y 3, y 4, y 5, y 6, y 7, y 8, y 9, y 10, y 11, y 12, y 13, y 14, y 15, y 16, y 17, y 18, y 19, y 20, y 21, y 22, y 23, y 24, y 25, y 26, y 27, y 28, y 29, y 30, y 31, z0, z1, z2, z3, z4, z5, z6, z7, x0, x1, x2, x3, x4, x5, x6, x7, x8, x9, x10, x11, x12, x13, x14, x15, v, x17, x18, x19, x20, x21, x22, x23, x24, x25, x26, x27, x28, x29, x30, x31, x32, x33, x34, x35, undef, undef, undef, undef, undef, undef, undef, undef, undef, undef, undef, undef, undef, undef, undef, undef, undef, undef, undef, undef, undef, undef, undef, undef, undef, undef, undef, undef, undef, undef, undef], defers := [] } w') :
    wpOp Try.prog (opsAt Try.f10 4) Q 16 K { tmps := #[.bool false, .pointer (some ⟨bx, 0, none⟩), .bool true, .pointer (some ⟨bz, 0, none⟩), x36, a5, a6, a7, y 0, y 1, y 2, y 3, y 4, y 5, y 6, y 7, y 8, y 9, y 10, y 11, y 12, y 13, y 14, y 15, y 16, y 17, y 18, y 19, y 20, y 21, y 22, y 23, y 24, y 25, y 26, y 27, y 28, y 29, y 30, y 31, z0, z1, z2, z3, z4, z5, z6, z7, x0, x1, x2, x3, x4, x5, x6, x7, x8, x9, x10, x11, x12, x13, x14, x15, x16, x17, x18, x19, x20, x21, x22, x23, x24, x25, x26, x27, x28, x29, x30, x31, x32, x33, x34, x35, undef, undef, undef, undef, undef, undef, undef, undef, undef, undef, undef, undef, undef, undef, undef, undef, undef, undef, undef, undef, undef, undef, undef, undef, undef, undef, undef, undef, undef, undef, undef], defers := [] } W := by
  obtain rfl : x15 = .bool true := q15
  unfold opsAt Try.f10
  simp only [findRegion, Nat.reduceBEq, if_true, if_false, Bool.false_eq_true, Option.getD_some]
  refine wpOp_of_list' rfl ?_
  go_wp2_with fail
  exact hK _ _ rfl (Below.refl _ _)

set_option maxRecDepth 100000 in
set_option maxHeartbeats 1000000 in
theorem h4_17 (bx bz : Nat) (a5 a6 a7 : Value) (y : Nat → Value) (z0 z1 z2 z3 z4 z5 z6 z7 : Value) (K : Act → World → Prop) (Q : Exit → Act → World → Prop) (W : World) (x0 x1 x2 x3 x4 x5 x6 x7 x8 x9 x10 x11 x12 x13 x14 x15 x16 x17 x18 x19 x20 x21 x22 x23 x24 x25 x26 x27 x28 x29 x30 x31 x32 x33 x34 x35 x36 : Value) (o1 : Option Addr) (c1 : Nat) (o2 : Option Addr) (c2 : Nat) (k0 : Hid (W.cell? ⟨bx, 0, none⟩ = some (.slice o1 1 c1))) (k1 : Hid (W.cell? ⟨bx, 1, none⟩ = some (.slice o2 2 c2))) (kL : Hid (LasAt W.heap.size W (.agg #[.slice o1 1 c1, .slice o2 2 c2]) [1] [2, 3])) (q16 : (hdFs4 16).holds x16 W)
    (hK : ∀ v w', (hdFs4 17).holds v w' → Below W.heap.size W w' → K { tmps := #[.bool false, .pointer (some ⟨bx, 0, none⟩), .bool true, .pointer (some ⟨bz, 0, none⟩), x36, a5, a6, a7, y 0, y 1, y 2, y 3, y 4, y 5, y 6, y 7, y 8, y 9, y 10, y 11, y 12, y 13, y 14, y 15, y 16, y 17, y 18, y 19, y 20, y 21, y 22, y 23, y 24, y 25, y 26, y 27, y 28, y 29, y 30, y 31, z0, z1, z2, z3, z4, z5, z6, z7, x0, x1, x2, x3, x4, x5, x6, x7, x8, x9, x10, x11, x12, x13, x14, x15, x16, v, x18, x19, x20, x21, x22, x23, x24, x25, x26, x27, x28, x29, x30, x31, x32, x33, x34, x35, undef, undef, undef, undef, undef, undef, undef, undef, undef, undef, undef, undef, undef, undef, undef, undef, undef, undef, undef, undef, undef, undef, undef, undef, undef, undef, undef, undef, undef, undef, undef], defers := [] } w') :
    wpOp Try.prog (opsAt Try.f10 4) Q 17 K { tmps := #[.bool false, .pointer (some ⟨bx, 0, none⟩), .bool true, .pointer (some ⟨bz, 0, none⟩), x36, a5, a6, a7, y 0, y 1, y 2, y 3, y 4, y 5, y 6, y 7, y 8, y 9, y 10, y 11, y 12, y 13, y 14, y 15, y 16, y 17, y 18, y 19, y 20, y 21, y 22, y 23, y 24, y 25, y 26, y 27, y 28, y 29, y 30, y 31, z0, z1, z2, z3, z4, z5, z6, z7, x0, x1, x2, x3, x4, x5, x6, x7, x8, x9, x10, x11, x12, x13, x14, x15, x16, x17, x18, x19, x20, x21, x22, x23, x24, x25, x26, x27, x28, x29, x30, x31, x32, x33, x34, x35, undef, undef, undef, undef, undef, undef, undef, undef, undef, undef, undef, undef, undef, undef, undef, undef, undef, undef, undef, undef, undef, undef, undef, undef, undef, undef, undef, undef, undef, undef, undef], defers := [] } W := by
  obtain rfl : x16 = .bool true := q16
  have b0 := k0.out
  have b1 := k1.out
  unfold opsAt Try.f10
  simp only [findRegion, Nat.reduceBEq, if_true, if_false, Bool.false_eq_true, Option.getD_some]
  refine wpOp_of_list' rfl ?_
  go_wp2_with fail
  exact hK _ _ kL.out (Below.refl _ _)

set_option maxRecDepth 100000 in
set_option maxHeartbeats 1000000 in
theorem h4_18 (bx bz : Nat) (a5 a6 a7 : Value) (y : Nat → Value) (z0 z1 z2 z3 z4 z5 z6 z7 : Value) (K : Act → World → Prop) (Q : Exit → Act → World → Prop) (W : World) (x0 x1 x2 x3 x4 x5 x6 x7 x8 x9 x10 x11 x12 x13 x14 x15 x16 x17 x18 x19 x20 x21 x22 x23 x24 x25 x26 x27 x28 x29 x30 x31 x32 x33 x34 x35 x36 : Value) (q16 : (hdFs4 16).holds x16 W)
    (hK : ∀ v w', (hdFs4 18).holds v w' → Below W.heap.size W w' → K { tmps := #[.bool false, .pointer (some ⟨bx, 0, none⟩), .bool true, .pointer (some ⟨bz, 0, none⟩), x36, a5, a6, a7, y 0, y 1, y 2, y 3, y 4, y 5, y 6, y 7, y 8, y 9, y 10, y 11, y 12, y 13, y 14, y 15, y 16, y 17, y 18, y 19, y 20, y 21, y 22, y 23, y 24, y 25, y 26, y 27, y 28, y 29, y 30, y 31, z0, z1, z2, z3, z4, z5, z6, z7, x0, x1, x2, x3, x4, x5, x6, x7, x8, x9, x10, x11, x12, x13, x14, x15, x16, x17, v, x19, x20, x21, x22, x23, x24, x25, x26, x27, x28, x29, x30, x31, x32, x33, x34, x35, undef, undef, undef, undef, undef, undef, undef, undef, undef, undef, undef, undef, undef, undef, undef, undef, undef, undef, undef, undef, undef, undef, undef, undef, undef, undef, undef, undef, undef, undef, undef], defers := [] } w') :
    wpOp Try.prog (opsAt Try.f10 4) Q 18 K { tmps := #[.bool false, .pointer (some ⟨bx, 0, none⟩), .bool true, .pointer (some ⟨bz, 0, none⟩), x36, a5, a6, a7, y 0, y 1, y 2, y 3, y 4, y 5, y 6, y 7, y 8, y 9, y 10, y 11, y 12, y 13, y 14, y 15, y 16, y 17, y 18, y 19, y 20, y 21, y 22, y 23, y 24, y 25, y 26, y 27, y 28, y 29, y 30, y 31, z0, z1, z2, z3, z4, z5, z6, z7, x0, x1, x2, x3, x4, x5, x6, x7, x8, x9, x10, x11, x12, x13, x14, x15, x16, x17, x18, x19, x20, x21, x22, x23, x24, x25, x26, x27, x28, x29, x30, x31, x32, x33, x34, x35, undef, undef, undef, undef, undef, undef, undef, undef, undef, undef, undef, undef, undef, undef, undef, undef, undef, undef, undef, undef, undef, undef, undef, undef, undef, undef, undef, undef, undef, undef, undef], defers := [] } W := by
  obtain rfl : x16 = .bool true := q16
  unfold opsAt Try.f10
  simp only [findRegion, Nat.reduceBEq, if_true, if_false, Bool.false_eq_true, Option.getD_some]
  refine wpOp_of_list' rfl ?_
  go_wp2_with fail
  exact hK _ _ ((ints_made W [1, 2, 3] 3 rfl (by decide) (by decide)).mono (by simp)) ((Below.refl _ _).alloc (Nat.le_refl _) _)

set_option maxRecDepth 100000 in
set_option maxHeartbeats 1000000 in
theorem h4_19 (bx bz : Nat) (a5 a6 a7 : Value) (y : Nat → Value) (z0 z1 z2 z3 z4 z5 z6 z7 : Value) (K : Act → World → Prop) (Q : Exit → Act → World → Prop) (W : World) (x0 x1 x2 x3 x4 x5 x6 x7 x8 x9 x10 x11 x12 x13 x14 x15 x16 x17 x18 x19 x20 x21 x22 x23 x24 x25 x26 x27 x28 x29 x30 x31 x32 x33 x34 x35 x36 : Value) (q16 : (hdFs4 16).holds x16 W)
    (hK : ∀ v w', (hdFs4 19).holds v w' → Below W.heap.size W w' → K { tmps := #[.bool false, .pointer (some ⟨bx, 0, none⟩), .bool true, .pointer (some ⟨bz, 0, none⟩), x36, a5, a6, a7, y 0, y 1, y 2, y 3, y 4, y 5, y 6, y 7, y 8, y 9, y 10, y 11, y 12, y 13, y 14, y 15, y 16, y 17, y 18, y 19, y 20, y 21, y 22, y 23, y 24, y 25, y 26, y 27, y 28, y 29, y 30, y 31, z0, z1, z2, z3, z4, z5, z6, z7, x0, x1, x2, x3, x4, x5, x6, x7, x8, x9, x10, x11, x12, x13, x14, x15, x16, x17, x18, v, x20, x21, x22, x23, x24, x25, x26, x27, x28, x29, x30, x31, x32, x33, x34, x35, undef, undef, undef, undef, undef, undef, undef, undef, undef, undef, undef, undef, undef, undef, undef, undef, undef, undef, undef, undef, undef, undef, undef, undef, undef, undef, undef, undef, undef, undef, undef], defers := [] } w') :
    wpOp Try.prog (opsAt Try.f10 4) Q 19 K { tmps := #[.bool false, .pointer (some ⟨bx, 0, none⟩), .bool true, .pointer (some ⟨bz, 0, none⟩), x36, a5, a6, a7, y 0, y 1, y 2, y 3, y 4, y 5, y 6, y 7, y 8, y 9, y 10, y 11, y 12, y 13, y 14, y 15, y 16, y 17, y 18, y 19, y 20, y 21, y 22, y 23, y 24, y 25, y 26, y 27, y 28, y 29, y 30, y 31, z0, z1, z2, z3, z4, z5, z6, z7, x0, x1, x2, x3, x4, x5, x6, x7, x8, x9, x10, x11, x12, x13, x14, x15, x16, x17, x18, x19, x20, x21, x22, x23, x24, x25, x26, x27, x28, x29, x30, x31, x32, x33, x34, x35, undef, undef, undef, undef, undef, undef, undef, undef, undef, undef, undef, undef, undef, undef, undef, undef, undef, undef, undef, undef, undef, undef, undef, undef, undef, undef, undef, undef, undef, undef, undef], defers := [] } W := by
  obtain rfl : x16 = .bool true := q16
  unfold opsAt Try.f10
  simp only [findRegion, Nat.reduceBEq, if_true, if_false, Bool.false_eq_true, Option.getD_some]
  refine wpOp_of_list' rfl ?_
  go_wp2_with fail
  exact hK _ _ ((ints_made W [2, 3] 2 rfl (by decide) (by decide)).mono (by simp)) ((Below.refl _ _).alloc (Nat.le_refl _) _)

set_option maxRecDepth 100000 in
set_option maxHeartbeats 1000000 in
theorem h4_20 (bx bz : Nat) (a5 a6 a7 : Value) (y : Nat → Value) (z0 z1 z2 z3 z4 z5 z6 z7 : Value) (K : Act → World → Prop) (Q : Exit → Act → World → Prop) (W : World) (x0 x1 x2 x3 x4 x5 x6 x7 x8 x9 x10 x11 x12 x13 x14 x15 x16 x17 x18 x19 x20 x21 x22 x23 x24 x25 x26 x27 x28 x29 x30 x31 x32 x33 x34 x35 x36 : Value) (q16 : (hdFs4 16).holds x16 W) (q18 : (hdFs4 18).holds x18 W) (q19 : (hdFs4 19).holds x19 W)
    (hK : ∀ v w', (hdFs4 20).holds v w' → Below W.heap.size W w' → K { tmps := #[.bool false, .pointer (some ⟨bx, 0, none⟩), .bool true, .pointer (some ⟨bz, 0, none⟩), x36, a5, a6, a7, y 0, y 1, y 2, y 3, y 4, y 5, y 6, y 7, y 8, y 9, y 10, y 11, y 12, y 13, y 14, y 15, y 16, y 17, y 18, y 19, y 20, y 21, y 22, y 23, y 24, y 25, y 26, y 27, y 28, y 29, y 30, y 31, z0, z1, z2, z3, z4, z5, z6, z7, x0, x1, x2, x3, x4, x5, x6, x7, x8, x9, x10, x11, x12, x13, x14, x15, x16, x17, x18, x19, v, x21, x22, x23, x24, x25, x26, x27, x28, x29, x30, x31, x32, x33, x34, x35, undef, undef, undef, undef, undef, undef, undef, undef, undef, undef, undef, undef, undef, undef, undef, undef, undef, undef, undef, undef, undef, undef, undef, undef, undef, undef, undef, undef, undef, undef, undef], defers := [] } w') :
    wpOp Try.prog (opsAt Try.f10 4) Q 20 K { tmps := #[.bool false, .pointer (some ⟨bx, 0, none⟩), .bool true, .pointer (some ⟨bz, 0, none⟩), x36, a5, a6, a7, y 0, y 1, y 2, y 3, y 4, y 5, y 6, y 7, y 8, y 9, y 10, y 11, y 12, y 13, y 14, y 15, y 16, y 17, y 18, y 19, y 20, y 21, y 22, y 23, y 24, y 25, y 26, y 27, y 28, y 29, y 30, y 31, z0, z1, z2, z3, z4, z5, z6, z7, x0, x1, x2, x3, x4, x5, x6, x7, x8, x9, x10, x11, x12, x13, x14, x15, x16, x17, x18, x19, x20, x21, x22, x23, x24, x25, x26, x27, x28, x29, x30, x31, x32, x33, x34, x35, undef, undef, undef, undef, undef, undef, undef, undef, undef, undef, undef, undef, undef, undef, undef, undef, undef, undef, undef, undef, undef, undef, undef, undef, undef, undef, undef, undef, undef, undef, undef], defers := [] } W := by
  obtain rfl : x16 = .bool true := q16
  replace q18 : IntsAt W.heap.size W x18 [1, 2, 3] := q18
  obtain ⟨o18, c18, rfl⟩ := q18.shape
  replace q19 : IntsAt W.heap.size W x19 [2, 3] := q19
  obtain ⟨o19, c19, rfl⟩ := q19.shape
  unfold opsAt Try.f10
  simp only [findRegion, Nat.reduceBEq, if_true, if_false, Bool.false_eq_true, Option.getD_some]
  refine wpOp_of_list' rfl ?_
  go_wp2_with (go_at_call 33; refine (lasso_any _ _ _ _ _ _ _).mono ?_; rintro e W2 ⟨rfl, hb⟩)
  exact hK _ _ ⟨_, _, rfl, ((q18.below hb (Nat.le_refl _)).mono hb.size), ((q19.below hb (Nat.le_refl _)).mono hb.size)⟩ hb

set_option maxRecDepth 100000 in
set_option maxHeartbeats 1000000 in
theorem h4_21 (bx bz : Nat) (a5 a6 a7 : Value) (y : Nat → Value) (z0 z1 z2 z3 z4 z5 z6 z7 : Value) (K : Act → World → Prop) (Q : Exit → Act → World → Prop) (W : World) (x0 x1 x2 x3 x4 x5 x6 x7 x8 x9 x10 x11 x12 x13 x14 x15 x16 x17 x18 x19 x20 x21 x22 x23 x24 x25 x26 x27 x28 x29 x30 x31 x32 x33 x34 x35 x36 : Value) (q16 : (hdFs4 16).holds x16 W) (q17 : (hdFs4 17).holds x17 W) (q20 : (hdFs4 20).holds x20 W)
    (hK : ∀ v w', (hdFs4 21).holds v w' → Below W.heap.size W w' → K { tmps := #[.bool false, .pointer (some ⟨bx, 0, none⟩), .bool true, .pointer (some ⟨bz, 0, none⟩), x36, a5, a6, a7, y 0, y 1, y 2, y 3, y 4, y 5, y 6, y 7, y 8, y 9, y 10, y 11, y 12, y 13, y 14, y 15, y 16, y 17, y 18, y 19, y 20, y 21, y 22, y 23, y 24, y 25, y 26, y 27, y 28, y 29, y 30, y 31, z0, z1, z2, z3, z4, z5, z6, z7, x0, x1, x2, x3, x4, x5, x6, x7, x8, x9, x10, x11, x12, x13, x14, x15, x16, x17, x18, x19, x20, v, x22, x23, x24, x25, x26, x27, x28, x29, x30, x31, x32, x33, x34, x35, undef, undef, undef, undef, undef, undef, undef, undef, undef, undef, undef, undef, undef, undef, undef, undef, undef, undef, undef, undef, undef, undef, undef, undef, undef, undef, undef, undef, undef, undef, undef], defers := [] } w') :
    wpOp Try.prog (opsAt Try.f10 4) Q 21 K { tmps := #[.bool false, .pointer (some ⟨bx, 0, none⟩), .bool true, .pointer (some ⟨bz, 0, none⟩), x36, a5, a6, a7, y 0, y 1, y 2, y 3, y 4, y 5, y 6, y 7, y 8, y 9, y 10, y 11, y 12, y 13, y 14, y 15, y 16, y 17, y 18, y 19, y 20, y 21, y 22, y 23, y 24, y 25, y 26, y 27, y 28, y 29, y 30, y 31, z0, z1, z2, z3, z4, z5, z6, z7, x0, x1, x2, x3, x4, x5, x6, x7, x8, x9, x10, x11, x12, x13, x14, x15, x16, x17, x18, x19, x20, x21, x22, x23, x24, x25, x26, x27, x28, x29, x30, x31, x32, x33, x34, x35, undef, undef, undef, undef, undef, undef, undef, undef, undef, undef, undef, undef, undef, undef, undef, undef, undef, undef, undef, undef, undef, undef, undef, undef, undef, undef, undef, undef, undef, undef, undef], defers := [] } W := by
  obtain rfl : x16 = .bool true := q16
  replace q17 : LasAt W.heap.size W x17 [1] [2, 3] := q17
  obtain ⟨o17, c17, p17, e17, rfl, i17, j17⟩ := q17.open
  replace q20 : LasAt W.heap.size W x20 [1, 2, 3] [2, 3] := q20
  obtain ⟨o20, c20, p20, e20, rfl, i20, j20⟩ := q20.open
  unfold opsAt Try.f10
  simp only [findRegion, Nat.reduceBEq, if_true, if_false, Bool.false_eq_true, Option.getD_some]
  refine wpOp_of_list' rfl ?_
  go_wp2_with (go_at_call 22; refine (same_any W.heap.size _ _ _ _ _ _ _ q17 q20 (Nat.le_refl _)).mono ?_; rintro e W2 ⟨rfl, hb⟩; rw [hd_m1])
  exact hK _ _ rfl hb

set_option maxRecDepth 100000 in
set_option maxHeartbeats 1000000 in
theorem h4_22 (bx bz : Nat) (a5 a6 a7 : Value) (y : Nat → Value) (z0 z1 z2 z3 z4 z5 z6 z7 : Value) (K : Act → World → Prop) (Q : Exit → Act → World → Prop) (W : World) (x0 x1 x2 x3 x4 x5 x6 x7 x8 x9 x10 x11 x12 x13 x14 x15 x16 x17 x18 x19 x20 x21 x22 x23 x24 x25 x26 x27 x28 x29 x30 x31 x32 x33 x34 x35 x36 : Value) (q16 : (hdFs4 16).holds x16 W) (q21 : (hdFs4 21).holds x21 W)
    (hK : ∀ v w', (hdFs4 22).holds v w' → Below W.heap.size W w' → K { tmps := #[.bool false, .pointer (some ⟨bx, 0, none⟩), .bool true, .pointer (some ⟨bz, 0, none⟩), x36, a5, a6, a7, y 0, y 1, y 2, y 3, y 4, y 5, y 6, y 7, y 8, y 9, y 10, y 11, y 12, y 13, y 14, y 15, y 16, y 17, y 18, y 19, y 20, y 21, y 22, y 23, y 24, y 25, y 26, y 27, y 28, y 29, y 30, y 31, z0, z1, z2, z3, z4, z5, z6, z7, x0, x1, x2, x3, x4, x5, x6, x7, x8, x9, x10, x11, x12, x13, x14, x15, x16, x17, x18, x19, x20, x21, v, x23, x24, x25, x26, x27, x28, x29, x30, x31, x32, x33, x34, x35, undef, undef, undef, undef, undef, undef, undef, undef, undef, undef, undef, undef, undef, undef, undef, undef, undef, undef, undef, undef, undef, undef, undef, undef, undef, undef, undef, undef, undef, undef, undef], defers := [] } w') :
    wpOp Try.prog (opsAt Try.f10 4) Q 22 K { tmps := #[.bool false, .pointer (some ⟨bx, 0, none⟩), .bool true, .pointer (some ⟨bz, 0, none⟩), x36, a5, a6, a7, y 0, y 1, y 2, y 3, y 4, y 5, y 6, y 7, y 8, y 9, y 10, y 11, y 12, y 13, y 14, y 15, y 16, y 17, y 18, y 19, y 20, y 21, y 22, y 23, y 24, y 25, y 26, y 27, y 28, y 29, y 30, y 31, z0, z1, z2, z3, z4, z5, z6, z7, x0, x1, x2, x3, x4, x5, x6, x7, x8, x9, x10, x11, x12, x13, x14, x15, x16, x17, x18, x19, x20, x21, x22, x23, x24, x25, x26, x27, x28, x29, x30, x31, x32, x33, x34, x35, undef, undef, undef, undef, undef, undef, undef, undef, undef, undef, undef, undef, undef, undef, undef, undef, undef, undef, undef, undef, undef, undef, undef, undef, undef, undef, undef, undef, undef, undef, undef], defers := [] } W := by
  obtain rfl : x16 = .bool true := q16
  obtain rfl : x21 = .bool true := q21
  unfold opsAt Try.f10
  simp only [findRegion, Nat.reduceBEq, if_true, if_false, Bool.false_eq_true, Option.getD_some]
  refine wpOp_of_list' rfl ?_
  go_wp2_with fail
  exact hK _ _ rfl (Below.refl _ _)

set_option maxRecDepth 100000 in
set_option maxHeartbeats 1000000 in
theorem h4_23 (bx bz : Nat) (a5 a6 a7 : Value) (y : Nat → Value) (z0 z1 z2 z3 z4 z5 z6 z7 : Value) (K : Act → World → Prop) (Q : Exit → Act → World → Prop) (W : World) (x0 x1 x2 x3 x4 x5 x6 x7 x8 x9 x10 x11 x12 x13 x14 x15 x16 x17 x18 x19 x20 x21 x22 x23 x24 x25 x26 x27 x28 x29 x30 x31 x32 x33 x34 x35 x36 : Value) (q22 : (hdFs4 22).holds x22 W)
    (hK : ∀ v w', (hdFs4 23).holds v w' → Below W.heap.size W w' → K { tmps := #[.bool false, .pointer (some ⟨bx, 0, none⟩), .bool true, .pointer (some ⟨bz, 0, none⟩), x36, a5, a6, a7, y 0, y 1, y 2, y 3, y 4, y 5, y 6, y 7, y 8, y 9, y 10, y 11, y 12, y 13, y 14, y 15, y 16, y 17, y 18, y 19, y 20, y 21, y 22, y 23, y 24, y 25, y 26, y 27, y 28, y 29, y 30, y 31, z0, z1, z2, z3, z4, z5, z6, z7, x0, x1, x2, x3, x4, x5, x6, x7, x8, x9, x10, x11, x12, x13, x14, x15, x16, x17, x18, x19, x20, x21, x22, v, x24, x25, x26, x27, x28, x29, x30, x31, x32, x33, x34, x35, undef, undef, undef, undef, undef, undef, undef, undef, undef, undef, undef, undef, undef, undef, undef, undef, undef, undef, undef, undef, undef, undef, undef, undef, undef, undef, undef, undef, undef, undef, undef], defers := [] } w') :
    wpOp Try.prog (opsAt Try.f10 4) Q 23 K { tmps := #[.bool false, .pointer (some ⟨bx, 0, none⟩), .bool true, .pointer (some ⟨bz, 0, none⟩), x36, a5, a6, a7, y 0, y 1, y 2, y 3, y 4, y 5, y 6, y 7, y 8, y 9, y 10, y 11, y 12, y 13, y 14, y 15, y 16, y 17, y 18, y 19, y 20, y 21, y 22, y 23, y 24, y 25, y 26, y 27, y 28, y 29, y 30, y 31, z0, z1, z2, z3, z4, z5, z6, z7, x0, x1, x2, x3, x4, x5, x6, x7, x8, x9, x10, x11, x12, x13, x14, x15, x16, x17, x18, x19, x20, x21, x22, x23, x24, x25, x26, x27, x28, x29, x30, x31, x32, x33, x34, x35, undef, undef, undef, undef, undef, undef, undef, undef, undef, undef, undef, undef, undef, undef, undef, undef, undef, undef, undef, undef, undef, undef, undef, undef, undef, undef, undef, undef, undef, undef, undef], defers := [] } W := by
  obtain rfl : x22 = .bool true := q22
  unfold opsAt Try.f10
  simp only [findRegion, Nat.reduceBEq, if_true, if_false, Bool.false_eq_true, Option.getD_some]
  refine wpOp_of_list' rfl ?_
  go_wp2_with fail
  exact hK _ _ rfl (Below.refl _ _)

set_option maxRecDepth 100000 in
set_option maxHeartbeats 1000000 in
theorem h4_24 (bx bz : Nat) (a5 a6 a7 : Value) (y : Nat → Value) (z0 z1 z2 z3 z4 z5 z6 z7 : Value) (K : Act → World → Prop) (Q : Exit → Act → World → Prop) (W : World) (x0 x1 x2 x3 x4 x5 x6 x7 x8 x9 x10 x11 x12 x13 x14 x15 x16 x17 x18 x19 x20 x21 x22 x23 x24 x25 x26 x27 x28 x29 x30 x31 x32 x33 x34 x35 x36 : Value) (o1 : Option Addr) (c1 : Nat) (o2 : Option Addr) (c2 : Nat) (k0 : Hid (W.cell? ⟨bx, 0, none⟩ = some (.slice o1 1 c1))) (k1 : Hid (W.cell? ⟨bx, 1, none⟩ = some (.slice o2 2 c2))) (kL : Hid (LasAt W.heap.size W (.agg #[.slice o1 1 c1, .slice o2 2 c2]) [1] [2, 3])) (q23 : (hdFs4 23).holds x23 W)
    (hK : ∀ v w', (hdFs4 24).holds v w' → Below W.heap.size W w' → K { tmps := #[.bool false, .pointer (some ⟨bx, 0, none⟩), .bool true, .pointer (some ⟨bz, 0, none⟩), x36, a5, a6, a7, y 0, y 1, y 2, y 3, y 4, y 5, y 6, y 7, y 8, y 9, y 10, y 11, y 12, y 13, y 14, y 15, y 16, y 17, y 18, y 19, y 20, y 21, y 22, y 23, y 24, y 25, y 26, y 27, y 28, y 29, y 30, y 31, z0, z1, z2, z3, z4, z5, z6, z7, x0, x1, x2, x3, x4, x5, x6, x7, x8, x9, x10, x11, x12, x13, x14, x15, x16, x17, x18, x19, x20, x21, x22, x23, v, x25, x26, x27, x28, x29, x30, x31, x32, x33, x34, x35, undef, undef, undef, undef, undef, undef, undef, undef, undef, undef, undef, undef, undef, undef, undef, undef, undef, undef, undef, undef, undef, undef, undef, undef, undef, undef, undef, undef, undef, undef, undef], defers := [] } w') :
    wpOp Try.prog (opsAt Try.f10 4) Q 24 K { tmps := #[.bool false, .pointer (some ⟨bx, 0, none⟩), .bool true, .pointer (some ⟨bz, 0, none⟩), x36, a5, a6, a7, y 0, y 1, y 2, y 3, y 4, y 5, y 6, y 7, y 8, y 9, y 10, y 11, y 12, y 13, y 14, y 15, y 16, y 17, y 18, y 19, y 20, y 21, y 22, y 23, y 24, y 25, y 26, y 27, y 28, y 29, y 30, y 31, z0, z1, z2, z3, z4, z5, z6, z7, x0, x1, x2, x3, x4, x5, x6, x7, x8, x9, x10, x11, x12, x13, x14, x15, x16, x17, x18, x19, x20, x21, x22, x23, x24, x25, x26, x27, x28, x29, x30, x31, x32, x33, x34, x35, undef, undef, undef, undef, undef, undef, undef, undef, undef, undef, undef, undef, undef, undef, undef, undef, undef, undef, undef, undef, undef, undef, undef, undef, undef, undef, undef, undef, undef, undef, undef], defers := [] } W := by
  obtain rfl : x23 = .bool true := q23
  have b0 := k0.out
  have b1 := k1.out
  unfold opsAt Try.f10
  simp only [findRegion, Nat.reduceBEq, if_true, if_false, Bool.false_eq_true, Option.getD_some]
  refine wpOp_of_list' rfl ?_
  go_wp2_with fail
  exact hK _ _ kL.out (Below.refl _ _)

set_option maxRecDepth 100000 in
set_option maxHeartbeats 1000000 in
theorem h4_25 (bx bz : Nat) (a5 a6 a7 : Value) (y : Nat → Value) (z0 z1 z2 z3 z4 z5 z6 z7 : Value) (K : Act → World → Prop) (Q : Exit → Act → World → Prop) (W : World) (x0 x1 x2 x3 x4 x5 x6 x7 x8 x9 x10 x11 x12 x13 x14 x15 x16 x17 x18 x19 x20 x21 x22 x23 x24 x25 x26 x27 x28 x29 x30 x31 x32 x33 x34 x35 x36 : Value) (q23 : (hdFs4 23).holds x23 W)
    (hK : ∀ v w', (hdFs4 25).holds v w' → Below W.heap.size W w' → K { tmps := #[.bool false, .pointer (some ⟨bx, 0, none⟩), .bool true, .pointer (some ⟨bz, 0, none⟩), x36, a5, a6, a7, y 0, y 1, y 2, y 3, y 4, y 5, y 6, y 7, y 8, y 9, y 10, y 11, y 12, y 13, y 14, y 15, y 16, y 17, y 18, y 19, y 20, y 21, y 22, y 23, y 24, y 25, y 26, y 27, y 28, y 29, y 30, y 31, z0, z1, z2, z3, z4, z5, z6, z7, x0, x1, x2, x3, x4, x5, x6, x7, x8, x9, x10, x11, x12, x13, x14, x15, x16, x17, x18, x19, x20, x21, x22, x23, x24, v, x26, x27, x28, x29, x30, x31, x32, x33, x34, x35, undef, undef, undef, undef, undef, undef, undef, undef, undef, undef, undef, undef, undef, undef, undef, undef, undef, undef, undef, undef, undef, undef, undef, undef, undef, undef, undef, undef, undef, undef, undef], defers := [] } w') :
    wpOp Try.prog (opsAt Try.f10 4) Q 25 K { tmps := #[.bool false, .pointer (some ⟨bx, 0, none⟩), .bool true, .pointer (some ⟨bz, 0, none⟩), x36, a5, a6, a7, y 0, y 1, y 2, y 3, y 4, y 5, y 6, y 7, y 8, y 9, y 10, y 11, y 12, y 13, y 14, y 15, y 16, y 17, y 18, y 19, y 20, y 21, y 22, y 23, y 24, y 25, y 26, y 27, y 28, y 29, y 30, y 31, z0, z1, z2, z3, z4, z5, z6, z7, x0, x1, x2, x3, x4, x5, x6, x7, x8, x9, x10, x11, x12, x13, x14, x15, x16, x17, x18, x19, x20, x21, x22, x23, x24, x25, x26, x27, x28, x29, x30, x31, x32, x33, x34, x35, undef, undef, undef, undef, undef, undef, undef, undef, undef, undef, undef, undef, undef, undef, undef, undef, undef, undef, undef, undef, undef, undef, undef, undef, undef, undef, undef, undef, undef, undef, undef], defers := [] } W := by
  obtain rfl : x23 = .bool true := q23
  unfold opsAt Try.f10
  simp only [findRegion, Nat.reduceBEq, if_true, if_false, Bool.false_eq_true, Option.getD_some]
  refine wpOp_of_list' rfl ?_
  go_wp2_with fail
  exact hK _ _ ((ints_made W [2, 3] 2 rfl (by decide) (by decide)).mono (by simp)) ((Below.refl _ _).alloc (Nat.le_refl _) _)

set_option maxRecDepth 100000 in
set_option maxHeartbeats 1000000 in
theorem h4_26 (bx bz : Nat) (a5 a6 a7 : Value) (y : Nat → Value) (z0 z1 z2 z3 z4 z5 z6 z7 : Value) (K : Act → World → Prop) (Q : Exit → Act → World → Prop) (W : World) (x0 x1 x2 x3 x4 x5 x6 x7 x8 x9 x10 x11 x12 x13 x14 x15 x16 x17 x18 x19 x20 x21 x22 x23 x24 x25 x26 x27 x28 x29 x30 x31 x32 x33 x34 x35 x36 : Value) (q23 : (hdFs4 23).holds x23 W) (q25 : (hdFs4 25).holds x25 W)
    (hK : ∀ v w', (hdFs4 26).holds v w' → Below W.heap.size W w' → K { tmps := #[.bool false, .pointer (some ⟨bx, 0, none⟩), .bool true, .pointer (some ⟨bz, 0, none⟩), x36, a5, a6, a7, y 0, y 1, y 2, y 3, y 4, y 5, y 6, y 7, y 8, y 9, y 10, y 11, y 12, y 13, y 14, y 15, y 16, y 17, y 18, y 19, y 20, y 21, y 22, y 23, y 24, y 25, y 26, y 27, y 28, y 29, y 30, y 31, z0, z1, z2, z3, z4, z5, z6, z7, x0, x1, x2, x3, x4, x5, x6, x7, x8, x9, x10, x11, x12, x13, x14, x15, x16, x17, x18, x19, x20, x21, x22, x23, x24, x25, v, x27, x28, x29, x30, x31, x32, x33, x34, x35, undef, undef, undef, undef, undef, undef, undef, undef, undef, undef, undef, undef, undef, undef, undef, undef, undef, undef, undef, undef, undef, undef, undef, undef, undef, undef, undef, undef, undef, undef, undef], defers := [] } w') :
    wpOp Try.prog (opsAt Try.f10 4) Q 26 K { tmps := #[.bool false, .pointer (some ⟨bx, 0, none⟩), .bool true, .pointer (some ⟨bz, 0, none⟩), x36, a5, a6, a7, y 0, y 1, y 2, y 3, y 4, y 5, y 6, y 7, y 8, y 9, y 10, y 11, y 12, y 13, y 14, y 15, y 16, y 17, y 18, y 19, y 20, y 21, y 22, y 23, y 24, y 25, y 26, y 27, y 28, y 29, y 30, y 31, z0, z1, z2, z3, z4, z5, z6, z7, x0, x1, x2, x3, x4, x5, x6, x7, x8, x9, x10, x11, x12, x13, x14, x15, x16, x17, x18, x19, x20, x21, x22, x23, x24, x25, x26, x27, x28, x29, x30, x31, x32, x33, x34, x35, undef, undef, undef, undef, undef, undef, undef, undef, undef, undef, undef, undef, undef, undef, undef, undef, undef, undef, undef, undef, undef, undef, undef, undef, undef, undef, undef, undef, undef, undef, undef], defers := [] } W := by
  obtain rfl : x23 = .bool true := q23
  replace q25 : IntsAt W.heap.size W x25 [2, 3] := q25
  obtain ⟨o25, c25, rfl⟩ := q25.shape
  unfold opsAt Try.f10
  simp only [findRegion, Nat.reduceBEq, if_true, if_false, Bool.false_eq_true, Option.getD_some]
  refine wpOp_of_list' rfl ?_
  go_wp2_with (go_at_call 33; refine (lasso_any _ _ _ _ _ _ _).mono ?_; rintro e W2 ⟨rfl, hb⟩)
  exact hK _ _ ⟨_, _, rfl, .inl ⟨_, _, rfl, rfl⟩, ((q25.below hb (Nat.le_refl _)).mono hb.size)⟩ hb

set_option maxRecDepth 100000 in
set_option maxHeartbeats 1000000 in
theorem h4_27 (bx bz : Nat) (a5 a6 a7 : Value) (y : Nat → Value) (z0 z1 z2 z3 z4 z5 z6 z7 : Value) (K : Act → World → Prop) (Q : Exit → Act → World → Prop) (W : World) (x0 x1 x2 x3 x4 x5 x6 x7 x8 x9 x10 x11 x12 x13 x14 x15 x16 x17 x18 x19 x20 x21 x22 x23 x24 x25 x26 x27 x28 x29 x30 x31 x32 x33 x34 x35 x36 : Value) (q23 : (hdFs4 23).holds x23 W) (q24 : (hdFs4 24).holds x24 W) (q26 : (hdFs4 26).holds x26 W)
    (hK : ∀ v w', (hdFs4 27).holds v w' → Below W.heap.size W w' → K { tmps := #[.bool false, .pointer (some ⟨bx, 0, none⟩), .bool true, .pointer (some ⟨bz, 0, none⟩), x36, a5, a6, a7, y 0, y 1, y 2, y 3, y 4, y 5, y 6, y 7, y 8, y 9, y 10, y 11, y 12, y 13, y 14, y 15, y 16, y 17, y 18, y 19, y 20, y 21, y 22, y 23, y 24, y 25, y 26, y 27, y 28, y 29, y 30, y 31, z0, z1, z2, z3, z4, z5, z6, z7, x0, x1, x2, x3, x4, x5, x6, x7, x8, x9, x10, x11, x12, x13, x14, x15, x16, x17, x18, x19, x20, x21, x22, x23, x24, x25, x26, v, x28, x29, x30, x31, x32, x33, x34, x35, undef, undef, undef, undef, undef, undef, undef, undef, undef, undef, undef, undef, undef, undef, undef, undef, undef, undef, undef, undef, undef, undef, undef, undef, undef, undef, undef, undef, undef, undef, undef], defers := [] } w') :
    wpOp Try.prog (opsAt Try.f10 4) Q 27 K { tmps := #[.bool false, .pointer (some ⟨bx, 0, none⟩), .bool true, .pointer (some ⟨bz, 0, none⟩), x36, a5, a6, a7, y 0, y 1, y 2, y 3, y 4, y 5, y 6, y 7, y 8, y 9, y 10, y 11, y 12, y 13, y 14, y 15, y 16, y 17, y 18, y 19, y 20, y 21, y 22, y 23, y 24, y 25, y 26, y 27, y 28, y 29, y 30, y 31, z0, z1, z2, z3, z4, z5, z6, z7, x0, x1, x2, x3, x4, x5, x6, x7, x8, x9, x10, x11, x12, x13, x14, x15, x16, x17, x18, x19, x20, x21, x22, x23, x24, x25, x26, x27, x28, x29, x30, x31, x32, x33, x34, x35, undef, undef, undef, undef, undef, undef, undef, undef, undef, undef, undef, undef, undef, undef, undef, undef, undef, undef, undef, undef, undef, undef, undef, undef, undef, undef, undef, undef, undef, undef, undef], defers := [] } W := by
  obtain rfl : x23 = .bool true := q23
  replace q24 : LasAt W.heap.size W x24 [1] [2, 3] := q24
  obtain ⟨o24, c24, p24, e24, rfl, i24, j24⟩ := q24.open
  replace q26 : LasAt W.heap.size W x26 [] [2, 3] := q26
  obtain ⟨o26, c26, p26, e26, rfl, i26, j26⟩ := q26.open
  unfold opsAt Try.f10
  simp only [findRegion, Nat.reduceBEq, if_true, if_false, Bool.false_eq_true, Option.getD_some]
  refine wpOp_of_list' rfl ?_
  go_wp2_with (go_at_call 22; refine (same_any W.heap.size _ _ _ _ _ _ _ q24 q26 (Nat.le_refl _)).mono ?_; rintro e W2 ⟨rfl, hb⟩; rw [hd_m2])
  exact hK _ _ rfl hb

set_option maxRecDepth 100000 in
set_option maxHeartbeats 1000000 in
theorem h4_28 (bx bz : Nat) (a5 a6 a7 : Value) (y : Nat → Value) (z0 z1 z2 z3 z4 z5 z6 z7 : Value) (K : Act → World → Prop) (Q : Exit → Act → World → Prop) (W : World) (x0 x1 x2 x3 x4 x5 x6 x7 x8 x9 x10 x11 x12 x13 x14 x15 x16 x17 x18 x19 x20 x21 x22 x23 x24 x25 x26 x27 x28 x29 x30 x31 x32 x33 x34 x35 x36 : Value) (q23 : (hdFs4 23).holds x23 W) (q27 : (hdFs4 27).holds x27 W)
    (hK : ∀ v w', (hdFs4 28).holds v w' → Below W.heap.size W w' → K { tmps := #[.bool false, .pointer (some ⟨bx, 0, none⟩), .bool true, .pointer (some ⟨bz, 0, none⟩), x36, a5, a6, a7, y 0, y 1, y 2, y 3, y 4, y 5, y 6, y 7, y 8, y 9, y 10, y 11, y 12, y 13, y 14, y 15, y 16, y 17, y 18, y 19, y 20, y 21, y 22, y 23, y 24, y 25, y 26, y 27, y 28, y 29, y 30, y 31, z0, z1, z2, z3, z4, z5, z6, z7, x0, x1, x2, x3, x4, x5, x6, x7, x8, x9, x10, x11, x12, x13, x14, x15, x16, x17, x18, x19, x20, x21, x22, x23, x24, x25, x26, x27, v, x29, x30, x31, x32, x33, x34, x35, undef, undef, undef, undef, undef, undef, undef, undef, undef, undef, undef, undef, undef, undef, undef, undef, undef, undef, undef, undef, undef, undef, undef, undef, undef, undef, undef, undef, undef, undef, undef], defers := [] } w') :
    wpOp Try.prog (opsAt Try.f10 4) Q 28 K { tmps := #[.bool false, .pointer (some ⟨bx, 0, none⟩), .bool true, .pointer (some ⟨bz, 0, none⟩), x36, a5, a6, a7, y 0, y 1, y 2, y 3, y 4, y 5, y 6, y 7, y 8, y 9, y 10, y 11, y 12, y 13, y 14, y 15, y 16, y 17, y 18, y 19, y 20, y 21, y 22, y 23, y 24, y 25, y 26, y 27, y 28, y 29, y 30, y 31, z0, z1, z2, z3, z4, z5, z6, z7, x0, x1, x2, x3, x4, x5, x6, x7, x8, x9, x10, x11, x12, x13, x14, x15, x16, x17, x18, x19, x20, x21, x22, x23, x24, x25, x26, x27, x28, x29, x30, x31, x32, x33, x34, x35, undef, undef, undef, undef, undef, undef, undef, undef, undef, undef, undef, undef, undef, undef, undef, undef, undef, undef, undef, undef, undef, undef, undef, undef, undef, undef, undef, undef, undef, undef, undef], defers := [] } W := by
  obtain rfl : x23 = .bool true := q23
  obtain rfl : x27 = .bool false := q27
  unfold opsAt Try.f10
  simp only [findRegion, Nat.reduceBEq, if_true, if_false, Bool.false_eq_true, Option.getD_some]
  refine wpOp_of_list' rfl ?_
  go_wp2_with fail
  exact hK _ _ rfl (Below.refl _ _)

set_option maxRecDepth 100000 in
set_option maxHeartbeats 1000000 in
theorem h4_29 (bx bz : Nat) (a5 a6 a7 : Value) (y : Nat → Value) (z0 z1 z2 z3 z4 z5 z6 z7 : Value) (K : Act → World → Prop) (Q : Exit → Act → World → Prop) (W : World) (x0 x1 x2 x3 x4 x5 x6 x7 x8 x9 x10 x11 x12 x13 x14 x15 x16 x17 x18 x19 x20 x21 x22 x23 x24 x25 x26 x27 x28 x29 x30 x31 x32 x33 x34 x35 x36 : Value) (q23 : (hdFs4 23).holds x23 W) (q28 : (hdFs4 28).holds x28 W)
    (hK : ∀ v w', (hdFs4 29).holds v w' → Below W.heap.size W w' → K { tmps := #[.bool false, .pointer (some ⟨bx, 0, none⟩), .bool true, .pointer (some ⟨bz, 0, none⟩), x36, a5, a6, a7, y 0, y 1, y 2, y 3, y 4, y 5, y 6, y 7, y 8, y 9, y 10, y 11, y 12, y 13, y 14, y 15, y 16, y 17, y 18, y 19, y 20, y 21, y 22, y 23, y 24, y 25, y 26, y 27, y 28, y 29, y 30, y 31, z0, z1, z2, z3, z4, z5, z6, z7, x0, x1, x2, x3, x4, x5, x6, x7, x8, x9, x10, x11, x12, x13, x14, x15, x16, x17, x18, x19, x20, x21, x22, x23, x24, x25, x26, x27, x28, v, x30, x31, x32, x33, x34, x35, undef, undef, undef, undef, undef, undef, undef, undef, undef, undef, undef, undef, undef, undef, undef, undef, undef, undef, undef, undef, undef, undef, undef, undef, undef, undef, undef, undef, undef, undef, undef], defers := [] } w') :
    wpOp Try.prog (opsAt Try.f10 4) Q 29 K { tmps := #[.bool false, .pointer (some ⟨bx, 0, none⟩), .bool true, .pointer (some ⟨bz, 0, none⟩), x36, a5, a6, a7, y 0, y 1, y 2, y 3, y 4, y 5, y 6, y 7, y 8, y 9, y 10, y 11, y 12, y 13, y 14, y 15, y 16, y 17, y 18, y 19, y 20, y 21, y 22, y 23, y 24, y 25, y 26, y 27, y 28, y 29, y 30, y 31, z0, z1, z2, z3, z4, z5, z6, z7, x0, x1, x2, x3, x4, x5, x6, x7, x8, x9, x10, x11, x12, x13, x14, x15, x16, x17, x18, x19, x20, x21, x22, x23, x24, x25, x26, x27, x28, x29, x30, x31, x32, x33, x34, x35, undef, undef, undef, undef, undef, undef, undef, undef, undef, undef, undef, undef, undef, undef, undef, undef, undef, undef, undef, undef, undef, undef, undef, undef, undef, undef, undef, undef, undef, undef, undef], defers := [] } W := by
  obtain rfl : x23 = .bool true := q23
  obtain rfl : x28 = .bool true := q28
  unfold opsAt Try.f10
  simp only [findRegion, Nat.reduceBEq, if_true, if_false, Bool.false_eq_true, Option.getD_some]
  refine wpOp_of_list' rfl ?_
  go_wp2_with fail
  exact hK _ _ rfl (Below.refl _ _)

set_option maxRecDepth 100000 in
set_option maxHeartbeats 1000000 in
theorem h4_30 (bx bz : Nat) (a5 a6 a7 : Value) (y : Nat → Value) (z0 z1 z2 z3 z4 z5 z6 z7 : Value) (K : Act → World → Prop) (Q : Exit → Act → World → Prop) (W : World) (x0 x1 x2 x3 x4 x5 x6 x7 x8 x9 x10 x11 x12 x13 x14 x15 x16 x17 x18 x19 x20 x21 x22 x23 x24 x25 x26 x27 x28 x29 x30 x31 x32 x33 x34 x35 x36 : Value) (q29 : (hdFs4 29).holds x29 W)
    (hK : ∀ v w', (hdFs4 30).holds v w' → Below W.heap.size W w' → K { tmps := #[.bool false, .pointer (some ⟨bx, 0, none⟩), .bool true, .pointer (some ⟨bz, 0, none⟩), x36, a5, a6, a7, y 0, y 1, y 2, y 3, y 4, y 5, y 6, y 7, y 8, y 9, y 10, y 11, y 12, y 13, y 14, y 15, y 16, y 17, y 18, y 19, y 20, y 21, y 22, y 23, y 24, y 25, y 26, y 27, y 28, y 29, y 30, y 31, z0, z1, z2, z3, z4, z5, z6, z7, x0, x1, x2, x3, x4, x5, x6, x7, x8, x9, x10, x11, x12, x13, x14, x15, x16, x17, x18, x19, x20, x21, x22, x23, x24, x25, x26, x27, x28, x29, v, x31, x32, x33, x34, x35, undef, undef, undef, undef, undef, undef, undef, undef, undef, undef, undef, undef, undef, undef, undef, undef, undef, undef, undef, undef, undef, undef, undef, undef, undef, undef, undef, undef, undef, undef, undef], defers := [] } w') :
    wpOp Try.prog (opsAt Try.f10 4) Q 30 K { tmps := #[.bool false, .pointer (some ⟨bx, 0, none⟩), .bool true, .pointer (some ⟨bz, 0, none⟩), x36, a5, a6, a7, y 0, y 1, y 2, y 3, y 4, y 5, y 6, y 7, y 8, y 9, y 10, y 11, y 12, y 13, y 14, y 15, y 16, y 17, y 18, y 19, y 20, y 21, y 22, y 23, y 24, y 25, y 26, y 27, y 28, y 29, y 30, y 31, z0, z1, z2, z3, z4, z5, z6, z7, x0, x1, x2, x3, x4, x5, x6, x7, x8, x9, x10, x11, x12, x13, x14, x15, x16, x17, x18, x19, x20, x21, x22, x23, x24, x25, x26, x27, x28, x29, x30, x31, x32, x33, x34, x35, undef, undef, undef, undef, undef, undef, undef, undef, undef, undef, undef, undef, undef, undef, undef, undef, undef, undef, undef, undef, undef, undef, undef, undef, undef, undef, undef, undef, undef, undef, undef], defers := [] } W := by
  obtain rfl : x29 = .bool true := q29
  unfold opsAt Try.f10
  simp only [findRegion, Nat.reduceBEq, if_true, if_false, Bool.false_eq_true, Option.getD_some]
  refine wpOp_of_list' rfl ?_
  go_wp2_with fail
  exact hK _ _ rfl (Below.refl _ _)

set_option maxRecDepth 100000 in
set_option maxHeartbeats 1000000 in
theorem h4_31 (bx bz : Nat) (a5 a6 a7 : Value) (y : Nat → Value) (z0 z1 z2 z3 z4 z5 z6 z7 : Value) (K : Act → World → Prop) (Q : Exit → Act → World → Prop) (W : World) (x0 x1 x2 x3 x4 x5 x6 x7 x8 x9 x10 x11 x12 x13 x14 x15 x16 x17 x18 x19 x20 x21 x22 x23 x24 x25 x26 x27 x28 x29 x30 x31 x32 x33 x34 x35 x36 : Value) (q30 : (hdFs4 30).holds x30 W)
    (hK : ∀ v w', (hdFs4 31).holds v w' → Below W.heap.size W w' → K { tmps := #[.bool false, .pointer (some ⟨bx, 0, none⟩), .bool true, .pointer (some ⟨bz, 0, none⟩), x36, a5, a6, a7, y 0, y 1, y 2, y 3, y 4, y 5, y 6, y 7, y 8, y 9, y 10, y 11, y 12, y 13, y 14, y 15, y 16, y 17, y 18, y 19, y 20, y 21, y 22, y 23, y 24, y 25, y 26, y 27, y 28, y 29, y 30, y 31, z0, z1, z2, z3, z4, z5, z6, z7, x0, x1, x2, x3, x4, x5, x6, x7, x8, x9, x10, x11, x12, x13, x14, x15, x16, x17, x18, x19, x20, x21, x22, x23, x24, x25, x26, x27, x28, x29, x30, v, x32, x33, x34, x35, undef, undef, undef, undef, undef, undef, undef, undef, undef, undef, undef, undef, undef, undef, undef, undef, undef, undef, undef, undef, undef, undef, undef, undef, undef, undef, undef, undef, undef, undef, undef], defers := [] } w') :
    wpOp Try.prog (opsAt Try.f10 4) Q 31 K { tmps := #[.bool false, .pointer (some ⟨bx, 0, none⟩), .bool true, .pointer (some ⟨bz, 0, none⟩), x36, a5, a6, a7, y 0, y 1, y 2, y 3, y 4, y 5, y 6, y 7, y 8, y 9, y 10, y 11, y 12, y 13, y 14, y 15, y 16, y 17, y 18, y 19, y 20, y 21, y 22, y 23, y 24, y 25, y 26, y 27, y 28, y 29, y 30, y 31, z0, z1, z2, z3, z4, z5, z6, z7, x0, x1, x2, x3, x4, x5, x6, x7, x8, x9, x10, x11, x12, x13, x14, x15, x16, x17, x18, x19, x20, x21, x22, x23, x24, x25, x26, x27, x28, x29, x30, x31, x32, x33, x34, x35, undef, undef, undef, undef, undef, undef, undef, undef, undef, undef, undef, undef, undef, undef, undef, undef, undef, undef, undef, undef, undef, undef, undef, undef, undef, undef, undef, undef, undef, undef, undef], defers := [] } W := by
  obtain rfl : x30 = .bool true := q30
  unfold opsAt Try.f10
  simp only [findRegion, Nat.reduceBEq, if_true, if_false, Bool.false_eq_true, Option.getD_some]
  refine wpOp_of_list' rfl ?_
  go_wp2_with fail
  exact hK _ _ ⟨_, _, rfl, .inl ⟨_, _, rfl, rfl⟩, .inl ⟨_, _, rfl, rfl⟩⟩ (Below.refl _ _)

set_option maxRecDepth 100000 in
set_option maxHeartbeats 1000000 in
theorem h4_32 (bx bz : Nat) (a5 a6 a7 : Value) (y : Nat → Value) (z0 z1 z2 z3 z4 z5 z6 z7 : Value) (K : Act → World → Prop) (Q : Exit → Act → World → Prop) (W : World) (x0 x1 x2 x3 x4 x5 x6 x7 x8 x9 x10 x11 x12 x13 x14 x15 x16 x17 x18 x19 x20 x21 x22 x23 x24 x25 x26 x27 x28 x29 x30 x31 x32 x33 x34 x35 x36 : Value) (q30 : (hdFs4 30).holds x30 W)
    (hK : ∀ v w', (hdFs4 32).holds v w' → Below W.heap.size W w' → K { tmps := #[.bool false, .pointer (some ⟨bx, 0, none⟩), .bool true, .pointer (some ⟨bz, 0, none⟩), x36, a5, a6, a7, y 0, y 1, y 2, y 3, y 4, y 5, y 6, y 7, y 8, y 9, y 10, y 11, y 12, y 13, y 14, y 15, y 16, y 17, y 18, y 19, y 20, y 21, y 22, y 23, y 24, y 25, y 26, y 27, y 28, y 29, y 30, y 31, z0, z1, z2, z3, z4, z5, z6, z7, x0, x1, x2, x3, x4, x5, x6, x7, x8, x9, x10, x11, x12, x13, x14, x15, x16, x17, x18, x19, x20, x21, x22, x23, x24, x25, x26, x27, x28, x29, x30, x31, v, x33, x34, x35, undef, undef, undef, undef, undef, undef, undef, undef, undef, undef, undef, undef, undef, undef, undef, undef, undef, undef, undef, undef, undef, undef, undef, undef, undef, undef, undef, undef, undef, undef, undef], defers := [] } w') :
    wpOp Try.prog (opsAt Try.f10 4) Q 32 K { tmps := #[.bool false, .pointer (some ⟨bx, 0, none⟩), .bool true, .pointer (some ⟨bz, 0, none⟩), x36, a5, a6, a7, y 0, y 1, y 2, y 3, y 4, y 5, y 6, y 7, y 8, y 9, y 10, y 11, y 12, y 13, y 14, y 15, y 16, y 17, y 18, y 19, y 20, y 21, y 22, y 23, y 24, y 25, y 26, y 27, y 28, y 29, y 30, y 31, z0, z1, z2, z3, z4, z5, z6, z7, x0, x1, x2, x3, x4, x5, x6, x7, x8, x9, x10, x11, x12, x13, x14, x15, x16, x17, x18, x19, x20, x21, x22, x23, x24, x25, x26, x27, x28, x29, x30, x31, x32, x33, x34, x35, undef, undef, undef, undef, undef, undef, undef, undef, undef, undef, undef, undef, undef, undef, undef, undef, undef, undef, undef, undef, undef, undef, undef, undef, undef, undef, undef, undef, undef, undef, undef], defers := [] } W := by
  obtain rfl : x30 = .bool true := q30
  unfold opsAt Try.f10
  simp only [findRegion, Nat.reduceBEq, if_true, if_false, Bool.false_eq_true, Option.getD_some]
  refine wpOp_of_list' rfl ?_
  go_wp2_with fail
  exact hK _ _ ⟨_, _, rfl, .inl ⟨_, _, rfl, rfl⟩, .inl ⟨_, _, rfl, rfl⟩⟩ (Below.refl _ _)

set_option maxRecDepth 100000 in
set_option maxHeartbeats 1000000 in
theorem h4_33 (bx bz : Nat) (a5 a6 a7 : Value) (y : Nat → Value) (z0 z1 z2 z3 z4 z5 z6 z7 : Value) (K : Act → World → Prop) (Q : Exit → Act → World → Prop) (W : World) (x0 x1 x2 x3 x4 x5 x6 x7 x8 x9 x10 x11 x12 x13 x14 x15 x16 x17 x18 x19 x20 x21 x22 x23 x24 x25 x26 x27 x28 x29 x30 x31 x32 x33 x34 x35 x36 : Value) (q30 : (hdFs4 30).holds x30 W) (q31 : (hdFs4 31).holds x31 W) (q32 : (hdFs4 32).holds x32 W)
    (hK : ∀ v w', (hdFs4 33).holds v w' → Below W.heap.size W w' → K { tmps := #[.bool false, .pointer (some ⟨bx, 0, none⟩), .bool true, .pointer (some ⟨bz, 0, none⟩), x36, a5, a6, a7, y 0, y 1, y 2, y 3, y 4, y 5, y 6, y 7, y 8, y 9, y 10, y 11, y 12, y 13, y 14, y 15, y 16, y 17, y 18, y 19, y 20, y 21, y 22, y 23, y 24, y 25, y 26, y 27, y 28, y 29, y 30, y 31, z0, z1, z2, z3, z4, z5, z6, z7, x0, x1, x2, x3, x4, x5, x6, x7, x8, x9, x10, x11, x12, x13, x14, x15, x16, x17, x18, x19, x20, x21, x22, x23, x24, x25, x26, x27, x28, x29, x30, x31, x32, v, x34, x35, undef, undef, undef, undef, undef, undef, undef, undef, undef, undef, undef, undef, undef, undef, undef, undef, undef, undef, undef, undef, undef, undef, undef, undef, undef, undef, undef, undef, undef, undef, undef], defers := [] } w') :
    wpOp Try.prog (opsAt Try.f10 4) Q 33 K { tmps := #[.bool false, .pointer (some ⟨bx, 0, none⟩), .bool true, .pointer (some ⟨bz, 0, none⟩), x36, a5, a6, a7, y 0, y 1, y 2, y 3, y 4, y 5, y 6, y 7, y 8, y 9, y 10, y 11, y 12, y 13, y 14, y 15, y 16, y 17, y 18, y 19, y 20, y 21, y 22, y 23, y 24, y 25, y 26, y 27, y 28, y 29, y 30, y 31, z0, z1, z2, z3, z4, z5, z6, z7, x0, x1, x2, x3, x4, x5, x6, x7, x8, x9, x10, x11, x12, x13, x14, x15, x16, x17, x18, x19, x20, x21, x22, x23, x24, x25, x26, x27, x28, x29, x30, x31, x32, x33, x34, x35, undef, undef, undef, undef, undef, undef, undef, undef, undef, undef, undef, undef, undef, undef, undef, undef, undef, undef, undef, undef, undef, undef, undef, undef, undef, undef, undef, undef, undef, undef, undef], defers := [] } W := by
  obtain rfl : x30 = .bool true := q30
  replace q31 : LasAt W.heap.size W x31 [] [] := q31
  obtain ⟨o31, c31, p31, e31, rfl, i31, j31⟩ := q31.open
  replace q32 : LasAt W.heap.size W x32 [] [] := q32
  obtain ⟨o32, c32, p32, e32, rfl, i32, j32⟩ := q32.open
  unfold opsAt Try.f10
  simp only [findRegion, Nat.reduceBEq, if_true, if_false, Bool.false_eq_true, Option.getD_some]
  refine wpOp_of_list' rfl ?_
  go_wp2_with (go_at_call 22; refine (same_any W.heap.size _ _ _ _ _ _ _ q31 q32 (Nat.le_refl _)).mono ?_; rintro e W2 ⟨rfl, hb⟩; rw [hd_m3])
  exact hK _ _ rfl hb

set_option maxRecDepth 100000 in
set_option maxHeartbeats 1000000 in
theorem h4_34 (bx bz : Nat) (a5 a6 a7 : Value) (y : Nat → Value) (z0 z1 z2 z3 z4 z5 z6 z7 : Value) (K : Act → World → Prop) (Q : Exit → Act → World → Prop) (W : World) (x0 x1 x2 x3 x4 x5 x6 x7 x8 x9 x10 x11 x12 x13 x14 x15 x16 x17 x18 x19 x20 x21 x22 x23 x24 x25 x26 x27 x28 x29 x30 x31 x32 x33 x34 x35 x36 : Value) (q30 : (hdFs4 30).holds x30 W) (q33 : (hdFs4 33).holds x33 W)
    (hK : ∀ v w', (hdFs4 34).holds v w' → Below W.heap.size W w' → K { tmps := #[.bool false, .pointer (some ⟨bx, 0, none⟩), .bool true, .pointer (some ⟨bz, 0, none⟩), x36, a5, a6, a7, y 0, y 1, y 2, y 3, y 4, y 5, y 6, y 7, y 8, y 9, y 10, y 11, y 12, y 13, y 14, y 15, y 16, y 17, y 18, y 19, y 20, y 21, y 22, y 23, y 24, y 25, y 26, y 27, y 28, y 29, y 30, y 31, z0, z1, z2, z3, z4, z5, z6, z7, x0, x1, x2, x3, x4, x5, x6, x7, x8, x9, x10, x11, x12, x13, x14, x15, x16, x17, x18, x19, x20, x21, x22, x23, x24, x25, x26, x27, x28, x29, x30, x31, x32, x33, v, x35, undef, undef, undef, undef, undef, undef, undef, undef, undef, undef, undef, undef, undef, undef, undef, undef, undef, undef, undef, undef, undef, undef, undef, undef, undef, undef, undef, undef, undef, undef, undef], defers := [] } w') :
    wpOp Try.prog (opsAt Try.f10 4) Q 34 K { tmps := #[.bool false, .pointer (some ⟨bx, 0, none⟩), .bool true, .pointer (some ⟨bz, 0, none⟩), x36, a5, a6, a7, y 0, y 1, y 2, y 3, y 4, y 5, y 6, y 7, y 8, y 9, y 10, y 11, y 12, y 13, y 14, y 15, y 16, y 17, y 18, y 19, y 20, y 21, y 22, y 23, y 24, y 25, y 26, y 27, y 28, y 29, y 30, y 31, z0, z1, z2, z3, z4, z5, z6, z7, x0, x1, x2, x3, x4, x5, x6, x7, x8, x9, x10, x11, x12, x13, x14, x15, x16, x17, x18, x19, x20, x21, x22, x23, x24, x25, x26, x27, x28, x29, x30, x31, x32, x33, x34, x35, undef, undef, undef, undef, undef, undef, undef, undef, undef, undef, undef, undef, undef, undef, undef, undef, undef, undef, undef, undef, undef, undef, undef, undef, undef, undef, undef, undef, undef, undef, undef], defers := [] } W := by
  obtain rfl : x30 = .bool true := q30
  obtain rfl : x33 = .bool false := q33
  unfold opsAt Try.f10
  simp only [findRegion, Nat.reduceBEq, if_true, if_false, Bool.false_eq_true, Option.getD_some]
  refine wpOp_of_list' rfl ?_
  go_wp2_with fail
  exact hK _ _ rfl (Below.refl _ _)

set_option maxRecDepth 100000 in
set_option maxHeartbeats 1000000 in
theorem h4_35 (bx bz : Nat) (a5 a6 a7 : Value) (y : Nat → Value) (z0 z1 z2 z3 z4 z5 z6 z7 : Value) (K : Act → World → Prop) (Q : Exit → Act → World → Prop) (W : World) (x0 x1 x2 x3 x4 x5 x6 x7 x8 x9 x10 x11 x12 x13 x14 x15 x16 x17 x18 x19 x20 x21 x22 x23 x24 x25 x26 x27 x28 x29 x30 x31 x32 x33 x34 x35 x36 : Value) (q30 : (hdFs4 30).holds x30 W) (q34 : (hdFs4 34).holds x34 W)
    (hK : ∀ v w', (hdFs4 35).holds v w' → Below W.heap.size W w' → K { tmps := #[.bool false, .pointer (some ⟨bx, 0, none⟩), .bool true, .pointer (some ⟨bz, 0, none⟩), x36, a5, a6, a7, y 0, y 1, y 2, y 3, y 4, y 5, y 6, y 7, y 8, y 9, y 10, y 11, y 12, y 13, y 14, y 15, y 16, y 17, y 18, y 19, y 20, y 21, y 22, y 23, y 24, y 25, y 26, y 27, y 28, y 29, y 30, y 31, z0, z1, z2, z3, z4, z5, z6, z7, x0, x1, x2, x3, x4, x5, x6, x7, x8, x9, x10, x11, x12, x13, x14, x15, x16, x17, x18, x19, x20, x21, x22, x23, x24, x25, x26, x27, x28, x29, x30, x31, x32, x33, x34, v, undef, undef, undef, undef, undef, undef, undef, undef, undef, undef, undef, undef, undef, undef, undef, undef, undef, undef, undef, undef, undef, undef, undef, undef, undef, undef, undef, undef, undef, undef, undef], defers := [] } w') :
    wpOp Try.prog (opsAt Try.f10 4) Q 35 K { tmps := #[.bool false, .pointer (some ⟨bx, 0, none⟩), .bool true, .pointer (some ⟨bz, 0, none⟩), x36, a5, a6, a7, y 0, y 1, y 2, y 3, y 4, y 5, y 6, y 7, y 8, y 9, y 10, y 11, y 12, y 13, y 14, y 15, y 16, y 17, y 18, y 19, y 20, y 21, y 22, y 23, y 24, y 25, y 26, y 27, y 28, y 29, y 30, y 31, z0, z1, z2, z3, z4, z5, z6, z7, x0, x1, x2, x3, x4, x5, x6, x7, x8, x9, x10, x11, x12, x13, x14, x15, x16, x17, x18, x19, x20, x21, x22, x23, x24, x25, x26, x27, x28, x29, x30, x31, x32, x33, x34, x35, undef, undef, undef, undef, undef, undef, undef, undef, undef, undef, undef, undef, undef, undef, undef, undef, undef, undef, undef, undef, undef, undef, undef, undef, undef, undef, undef, undef, undef, undef, undef], defers := [] } W := by
  obtain rfl : x30 = .bool true := q30
  obtain rfl : x34 = .bool true := q34
  unfold opsAt Try.f10
  simp only [findRegion, Nat.reduceBEq, if_true, if_false, Bool.false_eq_true, Option.getD_some]
  refine wpOp_of_list' rfl ?_
  go_wp2_with fail
  exact hK _ _ rfl (Below.refl _ _)

set_option maxRecDepth 100000 in
set_option maxHeartbeats 1000000 in
theorem h4_36 (bx bz : Nat) (a5 a6 a7 : Value) (y : Nat → Value) (z0 z1 z2 z3 z4 z5 z6 z7 : Value) (K : Act → World → Prop) (Q : Exit → Act → World → Prop) (W : World) (x0 x1 x2 x3 x4 x5 x6 x7 x8 x9 x10 x11 x12 x13 x14 x15 x16 x17 x18 x19 x20 x21 x22 x23 x24 x25 x26 x27 x28 x29 x30 x31 x32 x33 x34 x35 x36 : Value) (q35 : (hdFs4 35).holds x35 W)
    (hK : ∀ v w', (hdFs4 36).holds v w' → Below W.heap.size W w' → K { tmps := #[.bool false, .pointer (some ⟨bx, 0, none⟩), .bool true, .pointer (some ⟨bz, 0, none⟩), v, a5, a6, a7, y 0, y 1, y 2, y 3, y 4, y 5, y 6, y 7, y 8, y 9, y 10, y 11, y 12, y 13, y 14, y 15, y 16, y 17, y 18, y 19, y 20, y 21, y 22, y 23, y 24, y 25, y 26, y 27, y 28, y 29, y 30, y 31, z0, z1, z2, z3, z4, z5, z6, z7, x0, x1, x2, x3, x4, x5, x6, x7, x8, x9, x10, x11, x12, x13, x14, x15, x16, x17, x18, x19, x20, x21, x22, x23, x24, x25, x26, x27, x28, x29, x30, x31, x32, x33, x34, x35, undef, undef, undef, undef, undef, undef, undef, undef, undef, undef, undef, undef, undef, undef, undef, undef, undef, undef, undef, undef, undef, undef, undef, undef, undef, undef, undef, undef, undef, undef, undef], defers := [] } w') :
    wpOp Try.prog (opsAt Try.f10 4) Q 36 K { tmps := #[.bool false, .pointer (some ⟨bx, 0, none⟩), .bool true, .pointer (some ⟨bz, 0, none⟩), x36, a5, a6, a7, y 0, y 1, y 2, y 3, y 4, y 5, y 6, y 7, y 8, y 9, y 10, y 11, y 12, y 13, y 14, y 15, y 16, y 17, y 18, y 19, y 20, y 21, y 22, y 23, y 24, y 25, y 26, y 27, y 28, y 29, y 30, y 31, z0, z1, z2, z3, z4, z5, z6, z7, x0, x1, x2, x3, x4, x5, x6, x7, x8, x9, x10, x11, x12, x13, x14, x15, x16, x17, x18, x19, x20, x21, x22, x23, x24, x25, x26, x27, x28, x29, x30, x31, x32, x33, x34, x35, undef, undef, undef, undef, undef, undef, undef, undef, undef, undef, undef, undef, undef, undef, undef, undef, undef, undef, undef, undef, undef, undef, undef, undef, undef, undef, undef, undef, undef, undef, undef], defers := [] } W := by
  obtain rfl : x35 = .bool true := q35
  unfold opsAt Try.f10
  simp only [findRegion, Nat.reduceBEq, if_true, if_false, Bool.false_eq_true, Option.getD_some]
  refine wpOp_of_list' rfl ?_
  go_wp2_with fail
  exact hK _ _ rfl (Below.refl _ _)

end Go.Proofs.Ytcbddplgleeiiaa
