/-
  The contracts of the law's lasso and head.
-/
import Derived.Test.YtcbddplgleeiiaaWlA
namespace Go.Proofs.Ytcbddplgleeiiaa
open Go.RowKit

theorem hd_n1 : normI [1, 2] [3, 2, 3, 2] = ([1], [2, 3]) := by decide +kernel
theorem hd_e1 : lasEqB [1] [2, 3] [1] [2, 3] = true := by decide +kernel
theorem hd_s1 : sufL [1] [2, 3] 2 = ([], [3, 2]) := by decide +kernel
theorem hd_e2 : lasEqB [] [3, 2] [] [3, 2] = true := by decide +kernel
theorem hd_p1 : pushL [2, 3] [] [2, 3] = ([], [2, 3]) := by decide +kernel
theorem hd_e3 : lasEqB [] [2, 3] [] [2, 3] = true := by decide +kernel
theorem hd_a1 : atI [1] [2, 3] 4 = 3 := by decide +kernel
theorem hd_a2 : atI [1] [2, 3] (-1) = -1 := by decide +kernel
theorem hd_z1 : zipL [[0, 1], [1, 0]] [] [0, 1] [] [0, 0, 1] = ([], [0, 1, 1, 1, 0, 0]) := by decide +kernel
theorem hd_e4 : lasEqB [] [0, 1, 1, 1, 0, 0] [] [0, 1, 1, 1, 0, 0] = true := by decide +kernel
theorem hd_z2 : zipL [[0]] [] [0] [] [1] = ([], []) := by decide +kernel
theorem hd_m1 : sameB [1] [2, 3] [1, 2, 3] [2, 3] = true := by decide +kernel
theorem hd_m2 : sameB [1] [2, 3] [] [2, 3] = false := by decide +kernel
theorem hd_m3 : sameB [] [] [] [] = false := by decide +kernel
theorem hd_v1 : validL 4 [1] [2, 3] = true := by decide +kernel
theorem hd_v2 : validL 3 [1] [2, 3] = false := by decide +kernel
theorem hd_v3 : validL 4 [1] [] = false := by decide +kernel
theorem hd_x1 : preL [1] [2, 3] 4 = [1, 2, 3, 2] := by decide +kernel
theorem hd_x2 : preL [1] [2, 3] 501 = [] := by decide +kernel

theorem las_field (W : World) (o : Option Addr) (n c : Nat) (p : Option Addr) (m e : Nat) : (Instr.field 24 (.agg #[.slice o n c, .slice p m e]) 1).run Try.prog W = .ok (.slice p m e) W := by kernel_rfl

theorem tab_one (W : World) (v : Value) (r : List Int) (h : IntsAt W.heap.size W v r) : TabAt (W.alloc (.cells #[v] 22)).heap.size (W.alloc (.cells #[v] 22)) (.slice (some ⟨W.heap.size, 0, none⟩) 1 1) [r] := by
  have hB : Below W.heap.size W (W.alloc (.cells #[v] 22)) := (Below.refl _ _).alloc (Nat.le_refl _) _
  refine .inr ⟨W.heap.size, 0, 1, rfl, by simp, Nat.le_refl _, by decide, fun k hk => ⟨v, ?_, ?_⟩⟩
  · have hk0 : k = 0 := by simpa using hk
    subst hk0
    exact cell_of_row _ _ 0 _ _ _ (heap_alloc_new W _)
  · have hk0 : k = 0 := by simpa using hk
    subst hk0
    exact (h.below hB (Nat.le_refl _)).mono hB.size

def hdFr2 (bx : Nat) (a5 a6 a7 : Value) (x : Nat → Value) : Act := { tmps := #[.bool false, .pointer (some ⟨bx, 0, none⟩), x 32, undef, undef, a5, a6, a7, x 0, x 1, x 2, x 3, x 4, x 5, x 6, x 7, x 8, x 9, x 10, x 11, x 12, x 13, x 14, x 15, x 16, x 17, x 18, x 19, x 20, x 21, x 22, x 23, x 24, x 25, x 26, x 27, x 28, x 29, x 30, x 31, undef, undef, undef, undef, undef, undef, undef, undef, undef, undef, undef, undef, undef, undef, undef, undef, undef, undef, undef, undef, undef, undef, undef, undef, undef, undef, undef, undef, undef, undef, undef, undef, undef, undef, undef, undef, undef, undef, undef, undef, undef, undef, undef, undef, undef, undef, undef, undef, undef, undef, undef, undef, undef, undef, undef, undef, undef, undef, undef, undef, undef, undef, undef, undef, undef, undef, undef, undef, undef, undef, undef, undef, undef, undef, undef], defers := [] }
def hdFr4 (bx bz : Nat) (a5 a6 a7 : Value) (y : Nat → Value) (z0 z1 z2 z3 z4 z5 z6 z7 : Value) (x : Nat → Value) : Act := { tmps := #[.bool false, .pointer (some ⟨bx, 0, none⟩), .bool true, .pointer (some ⟨bz, 0, none⟩), x 36, a5, a6, a7, y 0, y 1, y 2, y 3, y 4, y 5, y 6, y 7, y 8, y 9, y 10, y 11, y 12, y 13, y 14, y 15, y 16, y 17, y 18, y 19, y 20, y 21, y 22, y 23, y 24, y 25, y 26, y 27, y 28, y 29, y 30, y 31, z0, z1, z2, z3, z4, z5, z6, z7, x 0, x 1, x 2, x 3, x 4, x 5, x 6, x 7, x 8, x 9, x 10, x 11, x 12, x 13, x 14, x 15, x 16, x 17, x 18, x 19, x 20, x 21, x 22, x 23, x 24, x 25, x 26, x 27, x 28, x 29, x 30, x 31, x 32, x 33, x 34, x 35, undef, undef, undef, undef, undef, undef, undef, undef, undef, undef, undef, undef, undef, undef, undef, undef, undef, undef, undef, undef, undef, undef, undef, undef, undef, undef, undef, undef, undef, undef, undef], defers := [] }

def hdFs2 : Nat → Fc
  | 0 => .intsF [1, 2]
  | 1 => .intsF [3, 2, 3, 2]
  | 2 => .lasF [1, 2] [3, 2, 3, 2]
  | 3 => .lasF [1] [2, 3]
  | 4 => .lasF [1] [2, 3]
  | 5 => .boolF true
  | 6 => .boolF true
  | 7 => .lasF [1] [2, 3]
  | 8 => .lasF [] [3, 2]
  | 9 => .intsF [3, 2]
  | 10 => .lasF [] [3, 2]
  | 11 => .boolF true
  | 12 => .boolF true
  | 13 => .boolF true
  | 14 => .intsF [2, 3]
  | 15 => .intsF [2, 3]
  | 16 => .lasF [] [2, 3]
  | 17 => .lasF [] [2, 3]
  | 18 => .intsF [2, 3]
  | 19 => .lasF [] [2, 3]
  | 20 => .boolF true
  | 21 => .boolF true
  | 22 => .boolF true
  | 23 => .lasF [1] [2, 3]
  | 24 => .intF 3
  | 25 => .boolF true
  | 26 => .boolF true
  | 27 => .boolF true
  | 28 => .lasF [1] [2, 3]
  | 29 => .intF (-1)
  | 30 => .boolF true
  | 31 => .boolF true
  | 32 => .boolF true
  | _ => .free
def hdFs4 : Nat → Fc
  | 0 => .lasF [] [0, 1, 1, 1, 0, 0]
  | 1 => .intsF [0, 1, 1, 1, 0, 0]
  | 2 => .lasF [] [0, 1, 1, 1, 0, 0]
  | 3 => .boolF true
  | 4 => .boolF true
  | 5 => .intsF [0]
  | 6 => .lasF [] [0]
  | 7 => .intsF [1]
  | 8 => .lasF [] [1]
  | 9 => .intsF [0]
  | 10 => .tabF [[0]]
  | 11 => .lasF [] []
  | 12 => .intsF []
  | 13 => .intF 0
  | 14 => .boolF true
  | 15 => .boolF true
  | 16 => .boolF true
  | 17 => .lasF [1] [2, 3]
  | 18 => .intsF [1, 2, 3]
  | 19 => .intsF [2, 3]
  | 20 => .lasF [1, 2, 3] [2, 3]
  | 21 => .boolF true
  | 22 => .boolF true
  | 23 => .boolF true
  | 24 => .lasF [1] [2, 3]
  | 25 => .intsF [2, 3]
  | 26 => .lasF [] [2, 3]
  | 27 => .boolF false
  | 28 => .boolF true
  | 29 => .boolF true
  | 30 => .boolF true
  | 31 => .lasF [] []
  | 32 => .lasF [] []
  | 33 => .boolF false
  | 34 => .boolF true
  | 35 => .boolF true
  | 36 => .boolF true
  | _ => .free

set_option maxRecDepth 100000 in
set_option maxHeartbeats 1000000 in
theorem h2_0 (bx : Nat) (a5 a6 a7 : Value) (K : Act → World → Prop) (Q : Exit → Act → World → Prop) (W : World) (x0 x1 x2 x3 x4 x5 x6 x7 x8 x9 x10 x11 x12 x13 x14 x15 x16 x17 x18 x19 x20 x21 x22 x23 x24 x25 x26 x27 x28 x29 x30 x31 x32 : Value) 
    (hK : ∀ v w', (hdFs2 0).holds v w' → Below W.heap.size W w' → K { tmps := #[.bool false, .pointer (some ⟨bx, 0, none⟩), x32, undef, undef, a5, a6, a7, v, x1, x2, x3, x4, x5, x6, x7, x8, x9, x10, x11, x12, x13, x14, x15, x16, x17, x18, x19, x20, x21, x22, x23, x24, x25, x26, x27, x28, x29, x30, x31, undef, undef, undef, undef, undef, undef, undef, undef, undef, undef, undef, undef, undef, undef, undef, undef, undef, undef, undef, undef, undef, undef, undef, undef, undef, undef, undef, undef, undef, undef, undef, undef, undef, undef, undef, undef, undef, undef, undef, undef, undef, undef, undef, undef, undef, undef, undef, undef, undef, undef, undef, undef, undef, undef, undef, undef, undef, undef, undef, undef, undef, undef, undef, undef, undef, undef, undef, undef, undef, undef, undef, undef, undef, undef, undef], defers := [] } w') :
    wpOp Try.prog (opsAt Try.f10 2) Q 0 K { tmps := #[.bool false, .pointer (some ⟨bx, 0, none⟩), x32, undef, undef, a5, a6, a7, x0, x1, x2, x3, x4, x5, x6, x7, x8, x9, x10, x11, x12, x13, x14, x15, x16, x17, x18, x19, x20, x21, x22, x23, x24, x25, x26, x27, x28, x29, x30, x31, undef, undef, undef, undef, undef, undef, undef, undef, undef, undef, undef, undef, undef, undef, undef, undef, undef, undef, undef, undef, undef, undef, undef, undef, undef, undef, undef, undef, undef, undef, undef, undef, undef, undef, undef, undef, undef, undef, undef, undef, undef, undef, undef, undef, undef, undef, undef, undef, undef, undef, undef, undef, undef, undef, undef, undef, undef, undef, undef, undef, undef, undef, undef, undef, undef, undef, undef, undef, undef, undef, undef, undef, undef, undef, undef], defers := [] } W := by
  unfold opsAt Try.f10
  simp only [findRegion, Nat.reduceBEq, if_true, if_false, Bool.false_eq_true, Option.getD_some]
  refine wpOp_of_list' rfl ?_
  go_wp2_with fail
  exact hK _ _ ((ints_made W [1, 2] 2 rfl (by decide) (by decide)).mono (by simp)) ((Below.refl _ _).alloc (Nat.le_refl _) _)

set_option maxRecDepth 100000 in
set_option maxHeartbeats 1000000 in
theorem h2_1 (bx : Nat) (a5 a6 a7 : Value) (K : Act → World → Prop) (Q : Exit → Act → World → Prop) (W : World) (x0 x1 x2 x3 x4 x5 x6 x7 x8 x9 x10 x11 x12 x13 x14 x15 x16 x17 x18 x19 x20 x21 x22 x23 x24 x25 x26 x27 x28 x29 x30 x31 x32 : Value) 
    (hK : ∀ v w', (hdFs2 1).holds v w' → Below W.heap.size W w' → K { tmps := #[.bool false, .pointer (some ⟨bx, 0, none⟩), x32, undef, undef, a5, a6, a7, x0, v, x2, x3, x4, x5, x6, x7, x8, x9, x10, x11, x12, x13, x14, x15, x16, x17, x18, x19, x20, x21, x22, x23, x24, x25, x26, x27, x28, x29, x30, x31, undef, undef, undef, undef, undef, undef, undef, undef, undef, undef, undef, undef, undef, undef, undef, undef, undef, undef, undef, undef, undef, undef, undef, undef, undef, undef, undef, undef, undef, undef, undef, undef, undef, undef, undef, undef, undef, undef, undef, undef, undef, undef, undef, undef, undef, undef, undef, undef, undef, undef, undef, undef, undef, undef, undef, undef, undef, undef, undef, undef, undef, undef, undef, undef, undef, undef, undef, undef, undef, undef, undef, undef, undef, undef, undef], defers := [] } w') :
    wpOp Try.prog (opsAt Try.f10 2) Q 1 K { tmps := #[.bool false, .pointer (some ⟨bx, 0, none⟩), x32, undef, undef, a5, a6, a7, x0, x1, x2, x3, x4, x5, x6, x7, x8, x9, x10, x11, x12, x13, x14, x15, x16, x17, x18, x19, x20, x21, x22, x23, x24, x25, x26, x27, x28, x29, x30, x31, undef, undef, undef, undef, undef, undef, undef, undef, undef, undef, undef, undef, undef, undef, undef, undef, undef, undef, undef, undef, undef, undef, undef, undef, undef, undef, undef, undef, undef, undef, undef, undef, undef, undef, undef, undef, undef, undef, undef, undef, undef, undef, undef, undef, undef, undef, undef, undef, undef, undef, undef, undef, undef, undef, undef, undef, undef, undef, undef, undef, undef, undef, undef, undef, undef, undef, undef, undef, undef, undef, undef, undef, undef, undef, undef], defers := [] } W := by
  unfold opsAt Try.f10
  simp only [findRegion, Nat.reduceBEq, if_true, if_false, Bool.false_eq_true, Option.getD_some]
  refine wpOp_of_list' rfl ?_
  go_wp2_with fail
  exact hK _ _ ((ints_made W [3, 2, 3, 2] 4 rfl (by decide) (by decide)).mono (by simp)) ((Below.refl _ _).alloc (Nat.le_refl _) _)

set_option maxRecDepth 100000 in
set_option maxHeartbeats 1000000 in
theorem h2_2 (bx : Nat) (a5 a6 a7 : Value) (K : Act → World → Prop) (Q : Exit → Act → World → Prop) (W : World) (x0 x1 x2 x3 x4 x5 x6 x7 x8 x9 x10 x11 x12 x13 x14 x15 x16 x17 x18 x19 x20 x21 x22 x23 x24 x25 x26 x27 x28 x29 x30 x31 x32 : Value) (q0 : (hdFs2 0).holds x0 W) (q1 : (hdFs2 1).holds x1 W)
    (hK : ∀ v w', (hdFs2 2).holds v w' → Below W.heap.size W w' → K { tmps := #[.bool false, .pointer (some ⟨bx, 0, none⟩), x32, undef, undef, a5, a6, a7, x0, x1, v, x3, x4, x5, x6, x7, x8, x9, x10, x11, x12, x13, x14, x15, x16, x17, x18, x19, x20, x21, x22, x23, x24, x25, x26, x27, x28, x29, x30, x31, undef, undef, undef, undef, undef, undef, undef, undef, undef, undef, undef, undef, undef, undef, undef, undef, undef, undef, undef, undef, undef, undef, undef, undef, undef, undef, undef, undef, undef, undef, undef, undef, undef, undef, undef, undef, undef, undef, undef, undef, undef, undef, undef, undef, undef, undef, undef, undef, undef, undef, undef, undef, undef, undef, undef, undef, undef, undef, undef, undef, undef, undef, undef, undef, undef, undef, undef, undef, undef, undef, undef, undef, undef, undef, undef], defers := [] } w') :
    wpOp Try.prog (opsAt Try.f10 2) Q 2 K { tmps := #[.bool false, .pointer (some ⟨bx, 0, none⟩), x32, undef, undef, a5, a6, a7, x0, x1, x2, x3, x4, x5, x6, x7, x8, x9, x10, x11, x12, x13, x14, x15, x16, x17, x18, x19, x20, x21, x22, x23, x24, x25, x26, x27, x28, x29, x30, x31, undef, undef, undef, undef, undef, undef, undef, undef, undef, undef, undef, undef, undef, undef, undef, undef, undef, undef, undef, undef, undef, undef, undef, undef, undef, undef, undef, undef, undef, undef, undef, undef, undef, undef, undef, undef, undef, undef, undef, undef, undef, undef, undef, undef, undef, undef, undef, undef, undef, undef, undef, undef, undef, undef, undef, undef, undef, undef, undef, undef, undef, undef, undef, undef, undef, undef, undef, undef, undef, undef, undef, undef, undef, undef, undef], defers := [] } W := by
  replace q0 : IntsAt W.heap.size W x0 [1, 2] := q0
  obtain ⟨o0, c0, rfl⟩ := q0.shape
  replace q1 : IntsAt W.heap.size W x1 [3, 2, 3, 2] := q1
  obtain ⟨o1, c1, rfl⟩ := q1.shape
  unfold opsAt Try.f10
  simp only [findRegion, Nat.reduceBEq, if_true, if_false, Bool.false_eq_true, Option.getD_some]
  refine wpOp_of_list' rfl ?_
  go_wp2_with (go_at_call 33; refine (lasso_any _ _ _ _ _ _ _).mono ?_; rintro e W2 ⟨rfl, hb⟩)
  exact hK _ _ ⟨_, _, rfl, ((q0.below hb (Nat.le_refl _)).mono hb.size), ((q1.below hb (Nat.le_refl _)).mono hb.size)⟩ hb

set_option maxRecDepth 100000 in
set_option maxHeartbeats 1000000 in
theorem h2_3 (bx : Nat) (a5 a6 a7 : Value) (K : Act → World → Prop) (Q : Exit → Act → World → Prop) (W : World) (x0 x1 x2 x3 x4 x5 x6 x7 x8 x9 x10 x11 x12 x13 x14 x15 x16 x17 x18 x19 x20 x21 x22 x23 x24 x25 x26 x27 x28 x29 x30 x31 x32 : Value) (q2 : (hdFs2 2).holds x2 W)
    (hK : ∀ v w', (hdFs2 3).holds v w' → Below W.heap.size W w' → K { tmps := #[.bool false, .pointer (some ⟨bx, 0, none⟩), x32, undef, undef, a5, a6, a7, x0, x1, x2, v, x4, x5, x6, x7, x8, x9, x10, x11, x12, x13, x14, x15, x16, x17, x18, x19, x20, x21, x22, x23, x24, x25, x26, x27, x28, x29, x30, x31, undef, undef, undef, undef, undef, undef, undef, undef, undef, undef, undef, undef, undef, undef, undef, undef, undef, undef, undef, undef, undef, undef, undef, undef, undef, undef, undef, undef, undef, undef, undef, undef, undef, undef, undef, undef, undef, undef, undef, undef, undef, undef, undef, undef, undef, undef, undef, undef, undef, undef, undef, undef, undef, undef, undef, undef, undef, undef, undef, undef, undef, undef, undef, undef, undef, undef, undef, undef, undef, undef, undef, undef, undef, undef, undef], defers := [] } w') :
    wpOp Try.prog (opsAt Try.f10 2) Q 3 K { tmps := #[.bool false, .pointer (some ⟨bx, 0, none⟩), x32, undef, undef, a5, a6, a7, x0, x1, x2, x3, x4, x5, x6, x7, x8, x9, x10, x11, x12, x13, x14, x15, x16, x17, x18, x19, x20, x21, x22, x23, x24, x25, x26, x27, x28, x29, x30, x31, undef, undef, undef, undef, undef, undef, undef, undef, undef, undef, undef, undef, undef, undef, undef, undef, undef, undef, undef, undef, undef, undef, undef, undef, undef, undef, undef, undef, undef, undef, undef, undef, undef, undef, undef, undef, undef, undef, undef, undef, undef, undef, undef, undef, undef, undef, undef, undef, undef, undef, undef, undef, undef, undef, undef, undef, undef, undef, undef, undef, undef, undef, undef, undef, undef, undef, undef, undef, undef, undef, undef, undef, undef, undef, undef], defers := [] } W := by
  replace q2 : LasAt W.heap.size W x2 [1, 2] [3, 2, 3, 2] := q2
  obtain ⟨o2, c2, p2, e2, rfl, i2, j2⟩ := q2.open
  unfold opsAt Try.f10
  simp only [findRegion, Nat.reduceBEq, if_true, if_false, Bool.false_eq_true, Option.getD_some]
  refine wpOp_of_list' rfl ?_
  go_wp2_with (go_at_call 20; refine (wnormal_any W.heap.size _ _ _ _ q2 (Nat.le_refl _)).mono ?_; rintro e W2 ⟨r, rfl, hN, hb⟩; rw [hd_n1] at hN; obtain ⟨u5, u4, rfl, J5, J4, -, -⟩ := hN.ex; obtain ⟨x5', k5, rfl⟩ := J5.shape; obtain ⟨x4', k4, rfl⟩ := J4.shape)
  exact hK _ _ hN.las hb

set_option maxRecDepth 100000 in
set_option maxHeartbeats 1000000 in
theorem h2_4 (bx : Nat) (a5 a6 a7 : Value) (K : Act → World → Prop) (Q : Exit → Act → World → Prop) (W : World) (x0 x1 x2 x3 x4 x5 x6 x7 x8 x9 x10 x11 x12 x13 x14 x15 x16 x17 x18 x19 x20 x21 x22 x23 x24 x25 x26 x27 x28 x29 x30 x31 x32 : Value) (o1 : Option Addr) (c1 : Nat) (o2 : Option Addr) (c2 : Nat) (k0 : Hid (W.cell? ⟨bx, 0, none⟩ = some (.slice o1 1 c1))) (k1 : Hid (W.cell? ⟨bx, 1, none⟩ = some (.slice o2 2 c2))) (kL : Hid (LasAt W.heap.size W (.agg #[.slice o1 1 c1, .slice o2 2 c2]) [1] [2, 3])) 
    (hK : ∀ v w', (hdFs2 4).holds v w' → Below W.heap.size W w' → K { tmps := #[.bool false, .pointer (some ⟨bx, 0, none⟩), x32, undef, undef, a5, a6, a7, x0, x1, x2, x3, v, x5, x6, x7, x8, x9, x10, x11, x12, x13, x14, x15, x16, x17, x18, x19, x20, x21, x22, x23, x24, x25, x26, x27, x28, x29, x30, x31, undef, undef, undef, undef, undef, undef, undef, undef, undef, undef, undef, undef, undef, undef, undef, undef, undef, undef, undef, undef, undef, undef, undef, undef, undef, undef, undef, undef, undef, undef, undef, undef, undef, undef, undef, undef, undef, undef, undef, undef, undef, undef, undef, undef, undef, undef, undef, undef, undef, undef, undef, undef, undef, undef, undef, undef, undef, undef, undef, undef, undef, undef, undef, undef, undef, undef, undef, undef, undef, undef, undef, undef, undef, undef, undef], defers := [] } w') :
    wpOp Try.prog (opsAt Try.f10 2) Q 4 K { tmps := #[.bool false, .pointer (some ⟨bx, 0, none⟩), x32, undef, undef, a5, a6, a7, x0, x1, x2, x3, x4, x5, x6, x7, x8, x9, x10, x11, x12, x13, x14, x15, x16, x17, x18, x19, x20, x21, x22, x23, x24, x25, x26, x27, x28, x29, x30, x31, undef, undef, undef, undef, undef, undef, undef, undef, undef, undef, undef, undef, undef, undef, undef, undef, undef, undef, undef, undef, undef, undef, undef, undef, undef, undef, undef, undef, undef, undef, undef, undef, undef, undef, undef, undef, undef, undef, undef, undef, undef, undef, undef, undef, undef, undef, undef, undef, undef, undef, undef, undef, undef, undef, undef, undef, undef, undef, undef, undef, undef, undef, undef, undef, undef, undef, undef, undef, undef, undef, undef, undef, undef, undef, undef], defers := [] } W := by
  have b0 := k0.out
  have b1 := k1.out
  unfold opsAt Try.f10
  simp only [findRegion, Nat.reduceBEq, if_true, if_false, Bool.false_eq_true, Option.getD_some]
  refine wpOp_of_list' rfl ?_
  go_wp2_with fail
  exact hK _ _ kL.out (Below.refl _ _)

set_option maxRecDepth 100000 in
set_option maxHeartbeats 1000000 in
theorem h2_5 (bx : Nat) (a5 a6 a7 : Value) (K : Act → World → Prop) (Q : Exit → Act → World → Prop) (W : World) (x0 x1 x2 x3 x4 x5 x6 x7 x8 x9 x10 x11 x12 x13 x14 x15 x16 x17 x18 x19 x20 x21 x22 x23 x24 x25 x26 x27 x28 x29 x30 x31 x32 : Value) (q3 : (hdFs2 3).holds x3 W) (q4 : (hdFs2 4).holds x4 W)
    (hK : ∀ v w', (hdFs2 5).holds v w' → Below W.heap.size W w' → K { tmps := #[.bool false, .pointer (some ⟨bx, 0, none⟩), x32, undef, undef, a5, a6, a7, x0, x1, x2, x3, x4, v, x6, x7, x8, x9, x10, x11, x12, x13, x14, x15, x16, x17, x18, x19, x20, x21, x22, x23, x24, x25, x26, x27, x28, x29, x30, x31, undef, undef, undef, undef, undef, undef, undef, undef, undef, undef, undef, undef, undef, undef, undef, undef, undef, undef, undef, undef, undef, undef, undef, undef, undef, undef, undef, undef, undef, undef, undef, undef, undef, undef, undef, undef, undef, undef, undef, undef, undef, undef, undef, undef, undef, undef, undef, undef, undef, undef, undef, undef, undef, undef, undef, undef, undef, undef, undef, undef, undef, undef, undef, undef, undef, undef, undef, undef, undef, undef, undef, undef, undef, undef, undef], defers := [] } w') :
    wpOp Try.prog (opsAt Try.f10 2) Q 5 K { tmps := #[.bool false, .pointer (some ⟨bx, 0, none⟩), x32, undef, undef, a5, a6, a7, x0, x1, x2, x3, x4, x5, x6, x7, x8, x9, x10, x11, x12, x13, x14, x15, x16, x17, x18, x19, x20, x21, x22, x23, x24, x25, x26, x27, x28, x29, x30, x31, undef, undef, undef, undef, undef, undef, undef, undef, undef, undef, undef, undef, undef, undef, undef, undef, undef, undef, undef, undef, undef, undef, undef, undef, undef, undef, undef, undef, undef, undef, undef, undef, undef, undef, undef, undef, undef, undef, undef, undef, undef, undef, undef, undef, undef, undef, undef, undef, undef, undef, undef, undef, undef, undef, undef, undef, undef, undef, undef, undef, undef, undef, undef, undef, undef, undef, undef, undef, undef, undef, undef, undef, undef, undef, undef], defers := [] } W := by
  replace q3 : LasAt W.heap.size W x3 [1] [2, 3] := q3
  obtain ⟨o3, c3, p3, e3, rfl, i3, j3⟩ := q3.open
  replace q4 : LasAt W.heap.size W x4 [1] [2, 3] := q4
  obtain ⟨o4, c4, p4, e4, rfl, i4, j4⟩ := q4.open
  unfold opsAt Try.f10
  simp only [findRegion, Nat.reduceBEq, if_true, if_false, Bool.false_eq_true, Option.getD_some]
  refine wpOp_of_list' rfl ?_
  go_wp2_with (go_at_call 19; refine (refequal_any W.heap.size _ _ _ _ _ _ _ q3 q4 (Nat.le_refl _)).mono ?_; rintro e W2 ⟨rfl, hb⟩; rw [hd_e1])
  exact hK _ _ rfl hb

set_option maxRecDepth 100000 in
set_option maxHeartbeats 1000000 in
theorem h2_6 (bx : Nat) (a5 a6 a7 : Value) (K : Act → World → Prop) (Q : Exit → Act → World → Prop) (W : World) (x0 x1 x2 x3 x4 x5 x6 x7 x8 x9 x10 x11 x12 x13 x14 x15 x16 x17 x18 x19 x20 x21 x22 x23 x24 x25 x26 x27 x28 x29 x30 x31 x32 : Value) (q5 : (hdFs2 5).holds x5 W)
    (hK : ∀ v w', (hdFs2 6).holds v w' → Below W.heap.size W w' → K { tmps := #[.bool false, .pointer (some ⟨bx, 0, none⟩), x32, undef, undef, a5, a6, a7, x0, x1, x2, x3, x4, x5, v, x7, x8, x9, x10, x11, x12, x13, x14, x15, x16, x17, x18, x19, x20, x21, x22, x23, x24, x25, x26, x27, x28, x29, x30, x31, undef, undef, undef, undef, undef, undef, undef, undef, undef, undef, undef, undef, undef, undef, undef, undef, undef, undef, undef, undef, undef, undef, undef, undef, undef, undef, undef, undef, undef, undef, undef, undef, undef, undef, undef, undef, undef, undef, undef, undef, undef, undef, undef, undef, undef, undef, undef, undef, undef, undef, undef, undef, undef, undef, undef, undef, undef, undef, undef, undef, undef, undef, undef, undef, undef, undef, undef, undef, undef, undef, undef, undef, undef, undef, undef], defers := [] } w') :
    wpOp Try.prog (opsAt Try.f10 2) Q 6 K { tmps := #[.bool false, .pointer (some ⟨bx, 0, none⟩), x32, undef, undef, a5, a6, a7, x0, x1, x2, x3, x4, x5, x6, x7, x8, x9, x10, x11, x12, x13, x14, x15, x16, x17, x18, x19, x20, x21, x22, x23, x24, x25, x26, x27, x28, x29, x30, x31, undef, undef, undef, undef, undef, undef, undef, undef, undef, undef, undef, undef, undef, undef, undef, undef, undef, undef, undef, undef, undef, undef, undef, undef, undef, undef, undef, undef, undef, undef, undef, undef, undef, undef, undef, undef, undef, undef, undef, undef, undef, undef, undef, undef, undef, undef, undef, undef, undef, undef, undef, undef, undef, undef, undef, undef, undef, undef, undef, undef, undef, undef, undef, undef, undef, undef, undef, undef, undef, undef, undef, undef, undef, undef, undef], defers := [] } W := by
  obtain rfl : x5 = .bool true := q5
  unfold opsAt Try.f10
  simp only [findRegion, Nat.reduceBEq, if_true, if_false, Bool.false_eq_true, Option.getD_some]
  refine wpOp_of_list' rfl ?_
  go_wp2_with fail
  exact hK _ _ rfl (Below.refl _ _)

set_option maxRecDepth 100000 in
set_option maxHeartbeats 1000000 in
theorem h2_7 (bx : Nat) (a5 a6 a7 : Value) (K : Act → World → Prop) (Q : Exit → Act → World → Prop) (W : World) (x0 x1 x2 x3 x4 x5 x6 x7 x8 x9 x10 x11 x12 x13 x14 x15 x16 x17 x18 x19 x20 x21 x22 x23 x24 x25 x26 x27 x28 x29 x30 x31 x32 : Value) (o1 : Option Addr) (c1 : Nat) (o2 : Option Addr) (c2 : Nat) (k0 : Hid (W.cell? ⟨bx, 0, none⟩ = some (.slice o1 1 c1))) (k1 : Hid (W.cell? ⟨bx, 1, none⟩ = some (.slice o2 2 c2))) (kL : Hid (LasAt W.heap.size W (.agg #[.slice o1 1 c1, .slice o2 2 c2]) [1] [2, 3])) (q6 : (hdFs2 6).holds x6 W)
    (hK : ∀ v w', (hdFs2 7).holds v w' → Below W.heap.size W w' → K { tmps := #[.bool false, .pointer (some ⟨bx, 0, none⟩), x32, undef, undef, a5, a6, a7, x0, x1, x2, x3, x4, x5, x6, v, x8, x9, x10, x11, x12, x13, x14, x15, x16, x17, x18, x19, x20, x21, x22, x23, x24, x25, x26, x27, x28, x29, x30, x31, undef, undef, undef, undef, undef, undef, undef, undef, undef, undef, undef, undef, undef, undef, undef, undef, undef, undef, undef, undef, undef, undef, undef, undef, undef, undef, undef, undef, undef, undef, undef, undef, undef, undef, undef, undef, undef, undef, undef, undef, undef, undef, undef, undef, undef, undef, undef, undef, undef, undef, undef, undef, undef, undef, undef, undef, undef, undef, undef, undef, undef, undef, undef, undef, undef, undef, undef, undef, undef, undef, undef, undef, undef, undef, undef], defers := [] } w') :
    wpOp Try.prog (opsAt Try.f10 2) Q 7 K { tmps := #[.bool false, .pointer (some ⟨bx, 0, none⟩), x32, undef, undef, a5, a6, a7, x0, x1, x2, x3, x4, x5, x6, x7, x8, x9, x10, x11, x12, x13, x14, x15, x16, x17, x18, x19, x20, x21, x22, x23, x24, x25, x26, x27, x28, x29, x30, x31, undef, undef, undef, undef, undef, undef, undef, undef, undef, undef, undef, undef, undef, undef, undef, undef, undef, undef, undef, undef, undef, undef, undef, undef, undef, undef, undef, undef, undef, undef, undef, undef, undef, undef, undef, undef, undef, undef, undef, undef, undef, undef, undef, undef, undef, undef, undef, undef, undef, undef, undef, undef, undef, undef, undef, undef, undef, undef, undef, undef, undef, undef, undef, undef, undef, undef, undef, undef, undef, undef, undef, undef, undef, undef, undef], defers := [] } W := by
  obtain rfl : x6 = .bool true := q6
  have b0 := k0.out
  have b1 := k1.out
  unfold opsAt Try.f10
  simp only [findRegion, Nat.reduceBEq, if_true, if_false, Bool.false_eq_true, Option.getD_some]
  refine wpOp_of_list' rfl ?_
  go_wp2_with fail
  exact hK _ _ kL.out (Below.refl _ _)

set_option maxRecDepth 100000 in
set_option maxHeartbeats 1000000 in
theorem h2_8 (bx : Nat) (a5 a6 a7 : Value) (K : Act → World → Prop) (Q : Exit → Act → World → Prop) (W : World) (x0 x1 x2 x3 x4 x5 x6 x7 x8 x9 x10 x11 x12 x13 x14 x15 x16 x17 x18 x19 x20 x21 x22 x23 x24 x25 x26 x27 x28 x29 x30 x31 x32 : Value) (q6 : (hdFs2 6).holds x6 W) (q7 : (hdFs2 7).holds x7 W)
    (hK : ∀ v w', (hdFs2 8).holds v w' → Below W.heap.size W w' → K { tmps := #[.bool false, .pointer (some ⟨bx, 0, none⟩), x32, undef, undef, a5, a6, a7, x0, x1, x2, x3, x4, x5, x6, x7, v, x9, x10, x11, x12, x13, x14, x15, x16, x17, x18, x19, x20, x21, x22, x23, x24, x25, x26, x27, x28, x29, x30, x31, undef, undef, undef, undef, undef, undef, undef, undef, undef, undef, undef, undef, undef, undef, undef, undef, undef, undef, undef, undef, undef, undef, undef, undef, undef, undef, undef, undef, undef, undef, undef, undef, undef, undef, undef, undef, undef, undef, undef, undef, undef, undef, undef, undef, undef, undef, undef, undef, undef, undef, undef, undef, undef, undef, undef, undef, undef, undef, undef, undef, undef, undef, undef, undef, undef, undef, undef, undef, undef, undef, undef, undef, undef, undef, undef], defers := [] } w') :
    wpOp Try.prog (opsAt Try.f10 2) Q 8 K { tmps := #[.bool false, .pointer (some ⟨bx, 0, none⟩), x32, undef, undef, a5, a6, a7, x0, x1, x2, x3, x4, x5, x6, x7, x8, x9, x10, x11, x12, x13, x14, x15, x16, x17, x18, x19, x20, x21, x22, x23, x24, x25, x26, x27, x28, x29, x30, x31, undef, undef, undef, undef, undef, undef, undef, undef, undef, undef, undef, undef, undef, undef, undef, undef, undef, undef, undef, undef, undef, undef, undef, undef, undef, undef, undef, undef, undef, undef, undef, undef, undef, undef, undef, undef, undef, undef, undef, undef, undef, undef, undef, undef, undef, undef, undef, undef, undef, undef, undef, undef, undef, undef, undef, undef, undef, undef, undef, undef, undef, undef, undef, undef, undef, undef, undef, undef, undef, undef, undef, undef, undef, undef, undef], defers := [] } W := by
  obtain rfl : x6 = .bool true := q6
  replace q7 : LasAt W.heap.size W x7 [1] [2, 3] := q7
  obtain ⟨o7, c7, p7, e7, rfl, i7, j7⟩ := q7.open
  unfold opsAt Try.f10
  simp only [findRegion, Nat.reduceBEq, if_true, if_false, Bool.false_eq_true, Option.getD_some]
  refine wpOp_of_list' rfl ?_
  go_wp2_with (go_at_call 24; refine (suffix_any W.heap.size _ _ _ 2 _ q7 (Nat.le_refl _) (by decide)).mono ?_; rintro e W2 ⟨r, rfl, hN, hb⟩; rw [hd_s1] at hN; obtain ⟨u5, u4, rfl, J5, J4, -, -⟩ := hN.ex; obtain ⟨x5', k5, rfl⟩ := J5.shape; obtain ⟨x4', k4, rfl⟩ := J4.shape)
  exact hK _ _ hN.las hb

set_option maxRecDepth 100000 in
set_option maxHeartbeats 1000000 in
theorem h2_9 (bx : Nat) (a5 a6 a7 : Value) (K : Act → World → Prop) (Q : Exit → Act → World → Prop) (W : World) (x0 x1 x2 x3 x4 x5 x6 x7 x8 x9 x10 x11 x12 x13 x14 x15 x16 x17 x18 x19 x20 x21 x22 x23 x24 x25 x26 x27 x28 x29 x30 x31 x32 : Value) (q6 : (hdFs2 6).holds x6 W)
    (hK : ∀ v w', (hdFs2 9).holds v w' → Below W.heap.size W w' → K { tmps := #[.bool false, .pointer (some ⟨bx, 0, none⟩), x32, undef, undef, a5, a6, a7, x0, x1, x2, x3, x4, x5, x6, x7, x8, v, x10, x11, x12, x13, x14, x15, x16, x17, x18, x19, x20, x21, x22, x23, x24, x25, x26, x27, x28, x29, x30, x31, undef, undef, undef, undef, undef, undef, undef, undef, undef, undef, undef, undef, undef, undef, undef, undef, undef, undef, undef, undef, undef, undef, undef, undef, undef, undef, undef, undef, undef, undef, undef, undef, undef, undef, undef, undef, undef, undef, undef, undef, undef, undef, undef, undef, undef, undef, undef, undef, undef, undef, undef, undef, undef, undef, undef, undef, undef, undef, undef, undef, undef, undef, undef, undef, undef, undef, undef, undef, undef, undef, undef, undef, undef, undef, undef], defers := [] } w') :
    wpOp Try.prog (opsAt Try.f10 2) Q 9 K { tmps := #[.bool false, .pointer (some ⟨bx, 0, none⟩), x32, undef, undef, a5, a6, a7, x0, x1, x2, x3, x4, x5, x6, x7, x8, x9, x10, x11, x12, x13, x14, x15, x16, x17, x18, x19, x20, x21, x22, x23, x24, x25, x26, x27, x28, x29, x30, x31, undef, undef, undef, undef, undef, undef, undef, undef, undef, undef, undef, undef, undef, undef, undef, undef, undef, undef, undef, undef, undef, undef, undef, undef, undef, undef, undef, undef, undef, undef, undef, undef, undef, undef, undef, undef, undef, undef, undef, undef, undef, undef, undef, undef, undef, undef, undef, undef, undef, undef, undef, undef, undef, undef, undef, undef, undef, undef, undef, undef, undef, undef, undef, undef, undef, undef, undef, undef, undef, undef, undef, undef, undef, undef, undef], defers := [] } W := by
  obtain rfl : x6 = .bool true := q6
  unfold opsAt Try.f10
  simp only [findRegion, Nat.reduceBEq, if_true, if_false, Bool.false_eq_true, Option.getD_some]
  refine wpOp_of_list' rfl ?_
  go_wp2_with fail
  exact hK _ _ ((ints_made W [3, 2] 2 rfl (by decide) (by decide)).mono (by simp)) ((Below.refl _ _).alloc (Nat.le_refl _) _)

set_option maxRecDepth 100000 in
set_option maxHeartbeats 1000000 in
theorem h2_10 (bx : Nat) (a5 a6 a7 : Value) (K : Act → World → Prop) (Q : Exit → Act → World → Prop) (W : World) (x0 x1 x2 x3 x4 x5 x6 x7 x8 x9 x10 x11 x12 x13 x14 x15 x16 x17 x18 x19 x20 x21 x22 x23 x24 x25 x26 x27 x28 x29 x30 x31 x32 : Value) (q6 : (hdFs2 6).holds x6 W) (q9 : (hdFs2 9).holds x9 W)
    (hK : ∀ v w', (hdFs2 10).holds v w' → Below W.heap.size W w' → K { tmps := #[.bool false, .pointer (some ⟨bx, 0, none⟩), x32, undef, undef, a5, a6, a7, x0, x1, x2, x3, x4, x5, x6, x7, x8, x9, v, x11, x12, x13, x14, x15, x16, x17, x18, x19, x20, x21, x22, x23, x24, x25, x26, x27, x28, x29, x30, x31, undef, undef, undef, undef, undef, undef, undef, undef, undef, undef, undef, undef, undef, undef, undef, undef, undef, undef, undef, undef, undef, undef, undef, undef, undef, undef, undef, undef, undef, undef, undef, undef, undef, undef, undef, undef, undef, undef, undef, undef, undef, undef, undef, undef, undef, undef, undef, undef, undef, undef, undef, undef, undef, undef, undef, undef, undef, undef, undef, undef, undef, undef, undef, undef, undef, undef, undef, undef, undef, undef, undef, undef, undef, undef, undef], defers := [] } w') :
    wpOp Try.prog (opsAt Try.f10 2) Q 10 K { tmps := #[.bool false, .pointer (some ⟨bx, 0, none⟩), x32, undef, undef, a5, a6, a7, x0, x1, x2, x3, x4, x5, x6, x7, x8, x9, x10, x11, x12, x13, x14, x15, x16, x17, x18, x19, x20, x21, x22, x23, x24, x25, x26, x27, x28, x29, x30, x31, undef, undef, undef, undef, undef, undef, undef, undef, undef, undef, undef, undef, undef, undef, undef, undef, undef, undef, undef, undef, undef, undef, undef, undef, undef, undef, undef, undef, undef, undef, undef, undef, undef, undef, undef, undef, undef, undef, undef, undef, undef, undef, undef, undef, undef, undef, undef, undef, undef, undef, undef, undef, undef, undef, undef, undef, undef, undef, undef, undef, undef, undef, undef, undef, undef, undef, undef, undef, undef, undef, undef, undef, undef, undef, undef], defers := [] } W := by
  obtain rfl : x6 = .bool true := q6
  replace q9 : IntsAt W.heap.size W x9 [3, 2] := q9
  obtain ⟨o9, c9, rfl⟩ := q9.shape
  unfold opsAt Try.f10
  simp only [findRegion, Nat.reduceBEq, if_true, if_false, Bool.false_eq_true, Option.getD_some]
  refine wpOp_of_list' rfl ?_
  go_wp2_with (go_at_call 33; refine (lasso_any _ _ _ _ _ _ _).mono ?_; rintro e W2 ⟨rfl, hb⟩)
  exact hK _ _ ⟨_, _, rfl, .inl ⟨_, _, rfl, rfl⟩, ((q9.below hb (Nat.le_refl _)).mono hb.size)⟩ hb

set_option maxRecDepth 100000 in
set_option maxHeartbeats 1000000 in
theorem h2_11 (bx : Nat) (a5 a6 a7 : Value) (K : Act → World → Prop) (Q : Exit → Act → World → Prop) (W : World) (x0 x1 x2 x3 x4 x5 x6 x7 x8 x9 x10 x11 x12 x13 x14 x15 x16 x17 x18 x19 x20 x21 x22 x23 x24 x25 x26 x27 x28 x29 x30 x31 x32 : Value) (q6 : (hdFs2 6).holds x6 W) (q8 : (hdFs2 8).holds x8 W) (q10 : (hdFs2 10).holds x10 W)
    (hK : ∀ v w', (hdFs2 11).holds v w' → Below W.heap.size W w' → K { tmps := #[.bool false, .pointer (some ⟨bx, 0, none⟩), x32, undef, undef, a5, a6, a7, x0, x1, x2, x3, x4, x5, x6, x7, x8, x9, x10, v, x12, x13, x14, x15, x16, x17, x18, x19, x20, x21, x22, x23, x24, x25, x26, x27, x28, x29, x30, x31, undef, undef, undef, undef, undef, undef, undef, undef, undef, undef, undef, undef, undef, undef, undef, undef, undef, undef, undef, undef, undef, undef, undef, undef, undef, undef, undef, undef, undef, undef, undef, undef, undef, undef, undef, undef, undef, undef, undef, undef, undef, undef, undef, undef, undef, undef, undef, undef, undef, undef, undef, undef, undef, undef, undef, undef, undef, undef, undef, undef, undef, undef, undef, undef, undef, undef, undef, undef, undef, undef, undef, undef, undef, undef, undef], defers := [] } w') :
    wpOp Try.prog (opsAt Try.f10 2) Q 11 K { tmps := #[.bool false, .pointer (some ⟨bx, 0, none⟩), x32, undef, undef, a5, a6, a7, x0, x1, x2, x3, x4, x5, x6, x7, x8, x9, x10, x11, x12, x13, x14, x15, x16, x17, x18, x19, x20, x21, x22, x23, x24, x25, x26, x27, x28, x29, x30, x31, undef, undef, undef, undef, undef, undef, undef, undef, undef, undef, undef, undef, undef, undef, undef, undef, undef, undef, undef, undef, undef, undef, undef, undef, undef, undef, undef, undef, undef, undef, undef, undef, undef, undef, undef, undef, undef, undef, undef, undef, undef, undef, undef, undef, undef, undef, undef, undef, undef, undef, undef, undef, undef, undef, undef, undef, undef, undef, undef, undef, undef, undef, undef, undef, undef, undef, undef, undef, undef, undef, undef, undef, undef, undef, undef], defers := [] } W := by
  obtain rfl : x6 = .bool true := q6
  replace q8 : LasAt W.heap.size W x8 [] [3, 2] := q8
  obtain ⟨o8, c8, p8, e8, rfl, i8, j8⟩ := q8.open
  replace q10 : LasAt W.heap.size W x10 [] [3, 2] := q10
  obtain ⟨o10, c10, p10, e10, rfl, i10, j10⟩ := q10.open
  unfold opsAt Try.f10
  simp only [findRegion, Nat.reduceBEq, if_true, if_false, Bool.false_eq_true, Option.getD_some]
  refine wpOp_of_list' rfl ?_
  go_wp2_with (go_at_call 19; refine (refequal_any W.heap.size _ _ _ _ _ _ _ q8 q10 (Nat.le_refl _)).mono ?_; rintro e W2 ⟨rfl, hb⟩; rw [hd_e2])
  exact hK _ _ rfl hb

set_option maxRecDepth 100000 in
set_option maxHeartbeats 1000000 in
theorem h2_12 (bx : Nat) (a5 a6 a7 : Value) (K : Act → World → Prop) (Q : Exit → Act → World → Prop) (W : World) (x0 x1 x2 x3 x4 x5 x6 x7 x8 x9 x10 x11 x12 x13 x14 x15 x16 x17 x18 x19 x20 x21 x22 x23 x24 x25 x26 x27 x28 x29 x30 x31 x32 : Value) (q6 : (hdFs2 6).holds x6 W) (q11 : (hdFs2 11).holds x11 W)
    (hK : ∀ v w', (hdFs2 12).holds v w' → Below W.heap.size W w' → K { tmps := #[.bool false, .pointer (some ⟨bx, 0, none⟩), x32, undef, undef, a5, a6, a7, x0, x1, x2, x3, x4, x5, x6, x7, x8, x9, x10, x11, v, x13, x14, x15, x16, x17, x18, x19, x20, x21, x22, x23, x24, x25, x26, x27, x28, x29, x30, x31, undef, undef, undef, undef, undef, undef, undef, undef, undef, undef, undef, undef, undef, undef, undef, undef, undef, undef, undef, undef, undef, undef, undef, undef, undef, undef, undef, undef, undef, undef, undef, undef, undef, undef, undef, undef, undef, undef, undef, undef, undef, undef, undef, undef, undef, undef, undef, undef, undef, undef, undef, undef, undef, undef, undef, undef, undef, undef, undef, undef, undef, undef, undef, undef, undef, undef, undef, undef, undef, undef, undef, undef, undef, undef, undef], defers := [] } w') :
    wpOp Try.prog (opsAt Try.f10 2) Q 12 K { tmps := #[.bool false, .pointer (some ⟨bx, 0, none⟩), x32, undef, undef, a5, a6, a7, x0, x1, x2, x3, x4, x5, x6, x7, x8, x9, x10, x11, x12, x13, x14, x15, x16, x17, x18, x19, x20, x21, x22, x23, x24, x25, x26, x27, x28, x29, x30, x31, undef, undef, undef, undef, undef, undef, undef, undef, undef, undef, undef, undef, undef, undef, undef, undef, undef, undef, undef, undef, undef, undef, undef, undef, undef, undef, undef, undef, undef, undef, undef, undef, undef, undef, undef, undef, undef, undef, undef, undef, undef, undef, undef, undef, undef, undef, undef, undef, undef, undef, undef, undef, undef, undef, undef, undef, undef, undef, undef, undef, undef, undef, undef, undef, undef, undef, undef, undef, undef, undef, undef, undef, undef, undef, undef], defers := [] } W := by
  obtain rfl : x6 = .bool true := q6
  obtain rfl : x11 = .bool true := q11
  unfold opsAt Try.f10
  simp only [findRegion, Nat.reduceBEq, if_true, if_false, Bool.false_eq_true, Option.getD_some]
  refine wpOp_of_list' rfl ?_
  go_wp2_with fail
  exact hK _ _ rfl (Below.refl _ _)

set_option maxRecDepth 100000 in
set_option maxHeartbeats 1000000 in
theorem h2_13 (bx : Nat) (a5 a6 a7 : Value) (K : Act → World → Prop) (Q : Exit → Act → World → Prop) (W : World) (x0 x1 x2 x3 x4 x5 x6 x7 x8 x9 x10 x11 x12 x13 x14 x15 x16 x17 x18 x19 x20 x21 x22 x23 x24 x25 x26 x27 x28 x29 x30 x31 x32 : Value) (q12 : (hdFs2 12).holds x12 W)
    (hK : ∀ v w', (hdFs2 13).holds v w' → Below W.heap.size W w' → K { tmps := #[.bool false, .pointer (some ⟨bx, 0, none⟩), x32, undef, undef, a5, a6, a7, x0, x1, x2, x3, x4, x5, x6, x7, x8, x9, x10, x11, x12, v, x14, x15, x16, x17, x18, x19, x20, x21, x22, x23, x24, x25, x26, x27, x28, x29, x30, x31, undef, undef, undef, undef, undef, undef, undef, undef, undef, undef, undef, undef, undef, undef, undef, undef, undef, undef, undef, undef, undef, undef, undef, undef, undef, undef, undef, undef, undef, undef, undef, undef, undef, undef, undef, undef, undef, undef, undef, undef, undef, undef, undef, undef, undef, undef, undef, undef, undef, undef, undef, undef, undef, undef, undef, undef, undef, undef, undef, undef, undef, undef, undef, undef, undef, undef, undef, undef, undef, undef, undef, undef, undef, undef, undef], defers := [] } w') :
    wpOp Try.prog (opsAt Try.f10 2) Q 13 K { tmps := #[.bool false, .pointer (some ⟨bx, 0, none⟩), x32, undef, undef, a5, a6, a7, x0, x1, x2, x3, x4, x5, x6, x7, x8, x9, x10, x11, x12, x13, x14, x15, x16, x17, x18, x19, x20, x21, x22, x23, x24, x25, x26, x27, x28, x29, x30, x31, undef, undef, undef, undef, undef, undef, undef, undef, undef, undef, undef, undef, undef, undef, undef, undef, undef, undef, undef, undef, undef, undef, undef, undef, undef, undef, undef, undef, undef, undef, undef, undef, undef, undef, undef, undef, undef, undef, undef, undef, undef, undef, undef, undef, undef, undef, undef, undef, undef, undef, undef, undef, undef, undef, undef, undef, undef, undef, undef, undef, undef, undef, undef, undef, undef, undef, undef, undef, undef, undef, undef, undef, undef, undef, undef], defers := [] } W := by
  obtain rfl : x12 = .bool true := q12
  unfold opsAt Try.f10
  simp only [findRegion, Nat.reduceBEq, if_true, if_false, Bool.false_eq_true, Option.getD_some]
  refine wpOp_of_list' rfl ?_
  go_wp2_with fail
  exact hK _ _ rfl (Below.refl _ _)

set_option maxRecDepth 100000 in
set_option maxHeartbeats 1000000 in
theorem h2_14 (bx : Nat) (a5 a6 a7 : Value) (K : Act → World → Prop) (Q : Exit → Act → World → Prop) (W : World) (x0 x1 x2 x3 x4 x5 x6 x7 x8 x9 x10 x11 x12 x13 x14 x15 x16 x17 x18 x19 x20 x21 x22 x23 x24 x25 x26 x27 x28 x29 x30 x31 x32 : Value) (q13 : (hdFs2 13).holds x13 W)
    (hK : ∀ v w', (hdFs2 14).holds v w' → Below W.heap.size W w' → K { tmps := #[.bool false, .pointer (some ⟨bx, 0, none⟩), x32, undef, undef, a5, a6, a7, x0, x1, x2, x3, x4, x5, x6, x7, x8, x9, x10, x11, x12, x13, v, x15, x16, x17, x18, x19, x20, x21, x22, x23, x24, x25, x26, x27, x28, x29, x30, x31, undef, undef, undef, undef, undef, undef, undef, undef, undef, undef, undef, undef, undef, undef, undef, undef, undef, undef, undef, undef, undef, undef, undef, undef, undef, undef, undef, undef, undef, undef, undef, undef, undef, undef, undef, undef, undef, undef, undef, undef, undef, undef, undef, undef, undef, undef, undef, undef, undef, undef, undef, undef, undef, undef, undef, undef, undef, undef, undef, undef, undef, undef, undef, undef, undef, undef, undef, undef, undef, undef, undef, undef, undef, undef, undef], defers := [] } w') :
    wpOp Try.prog (opsAt Try.f10 2) Q 14 K { tmps := #[.bool false, .pointer (some ⟨bx, 0, none⟩), x32, undef, undef, a5, a6, a7, x0, x1, x2, x3, x4, x5, x6, x7, x8, x9, x10, x11, x12, x13, x14, x15, x16, x17, x18, x19, x20, x21, x22, x23, x24, x25, x26, x27, x28, x29, x30, x31, undef, undef, undef, undef, undef, undef, undef, undef, undef, undef, undef, undef, undef, undef, undef, undef, undef, undef, undef, undef, undef, undef, undef, undef, undef, undef, undef, undef, undef, undef, undef, undef, undef, undef, undef, undef, undef, undef, undef, undef, undef, undef, undef, undef, undef, undef, undef, undef, undef, undef, undef, undef, undef, undef, undef, undef, undef, undef, undef, undef, undef, undef, undef, undef, undef, undef, undef, undef, undef, undef, undef, undef, undef, undef, undef], defers := [] } W := by
  obtain rfl : x13 = .bool true := q13
  unfold opsAt Try.f10
  simp only [findRegion, Nat.reduceBEq, if_true, if_false, Bool.false_eq_true, Option.getD_some]
  refine wpOp_of_list' rfl ?_
  go_wp2_with fail
  exact hK _ _ ((ints_made W [2, 3] 2 rfl (by decide) (by decide)).mono (by simp)) ((Below.refl _ _).alloc (Nat.le_refl _) _)

set_option maxRecDepth 100000 in
set_option maxHeartbeats 1000000 in
theorem h2_15 (bx : Nat) (a5 a6 a7 : Value) (K : Act → World → Prop) (Q : Exit → Act → World → Prop) (W : World) (x0 x1 x2 x3 x4 x5 x6 x7 x8 x9 x10 x11 x12 x13 x14 x15 x16 x17 x18 x19 x20 x21 x22 x23 x24 x25 x26 x27 x28 x29 x30 x31 x32 : Value) (q13 : (hdFs2 13).holds x13 W)
    (hK : ∀ v w', (hdFs2 15).holds v w' → Below W.heap.size W w' → K { tmps := #[.bool false, .pointer (some ⟨bx, 0, none⟩), x32, undef, undef, a5, a6, a7, x0, x1, x2, x3, x4, x5, x6, x7, x8, x9, x10, x11, x12, x13, x14, v, x16, x17, x18, x19, x20, x21, x22, x23, x24, x25, x26, x27, x28, x29, x30, x31, undef, undef, undef, undef, undef, undef, undef, undef, undef, undef, undef, undef, undef, undef, undef, undef, undef, undef, undef, undef, undef, undef, undef, undef, undef, undef, undef, undef, undef, undef, undef, undef, undef, undef, undef, undef, undef, undef, undef, undef, undef, undef, undef, undef, undef, undef, undef, undef, undef, undef, undef, undef, undef, undef, undef, undef, undef, undef, undef, undef, undef, undef, undef, undef, undef, undef, undef, undef, undef, undef, undef, undef, undef, undef, undef], defers := [] } w') :
    wpOp Try.prog (opsAt Try.f10 2) Q 15 K { tmps := #[.bool false, .pointer (some ⟨bx, 0, none⟩), x32, undef, undef, a5, a6, a7, x0, x1, x2, x3, x4, x5, x6, x7, x8, x9, x10, x11, x12, x13, x14, x15, x16, x17, x18, x19, x20, x21, x22, x23, x24, x25, x26, x27, x28, x29, x30, x31, undef, undef, undef, undef, undef, undef, undef, undef, undef, undef, undef, undef, undef, undef, undef, undef, undef, undef, undef, undef, undef, undef, undef, undef, undef, undef, undef, undef, undef, undef, undef, undef, undef, undef, undef, undef, undef, undef, undef, undef, undef, undef, undef, undef, undef, undef, undef, undef, undef, undef, undef, undef, undef, undef, undef, undef, undef, undef, undef, undef, undef, undef, undef, undef, undef, undef, undef, undef, undef, undef, undef, undef, undef, undef, undef], defers := [] } W := by
  obtain rfl : x13 = .bool true := q13
  unfold opsAt Try.f10
  simp only [findRegion, Nat.reduceBEq, if_true, if_false, Bool.false_eq_true, Option.getD_some]
  refine wpOp_of_list' rfl ?_
  go_wp2_with fail
  exact hK _ _ ((ints_made W [2, 3] 2 rfl (by decide) (by decide)).mono (by simp)) ((Below.refl _ _).alloc (Nat.le_refl _) _)

set_option maxRecDepth 100000 in
set_option maxHeartbeats 1000000 in
theorem h2_16 (bx : Nat) (a5 a6 a7 : Value) (K : Act → World → Prop) (Q : Exit → Act → World → Prop) (W : World) (x0 x1 x2 x3 x4 x5 x6 x7 x8 x9 x10 x11 x12 x13 x14 x15 x16 x17 x18 x19 x20 x21 x22 x23 x24 x25 x26 x27 x28 x29 x30 x31 x32 : Value) (q13 : (hdFs2 13).holds x13 W) (q15 : (hdFs2 15).holds x15 W)
    (hK : ∀ v w', (hdFs2 16).holds v w' → Below W.heap.size W w' → K { tmps := #[.bool false, .pointer (some ⟨bx, 0, none⟩), x32, undef, undef, a5, a6, a7, x0, x1, x2, x3, x4, x5, x6, x7, x8, x9, x10, x11, x12, x13, x14, x15, v, x17, x18, x19, x20, x21, x22, x23, x24, x25, x26, x27, x28, x29, x30, x31, undef, undef, undef, undef, undef, undef, undef, undef, undef, undef, undef, undef, undef, undef, undef, undef, undef, undef, undef, undef, undef, undef, undef, undef, undef, undef, undef, undef, undef, undef, undef, undef, undef, undef, undef, undef, undef, undef, undef, undef, undef, undef, undef, undef, undef, undef, undef, undef, undef, undef, undef, undef, undef, undef, undef, undef, undef, undef, undef, undef, undef, undef, undef, undef, undef, undef, undef, undef, undef, undef, undef, undef, undef, undef, undef], defers := [] } w') :
    wpOp Try.prog (opsAt Try.f10 2) Q 16 K { tmps := #[.bool false, .pointer (some ⟨bx, 0, none⟩), x32, undef, undef, a5, a6, a7, x0, x1, x2, x3, x4, x5, x6, x7, x8, x9, x10, x11, x12, x13, x14, x15, x16, x17, x18, x19, x20, x21, x22, x23, x24, x25, x26, x27, x28, x29, x30, x31, undef, undef, undef, undef, undef, undef, undef, undef, undef, undef, undef, undef, undef, undef, undef, undef, undef, undef, undef, undef, undef, undef, undef, undef, undef, undef, undef, undef, undef, undef, undef, undef, undef, undef, undef, undef, undef, undef, undef, undef, undef, undef, undef, undef, undef, undef, undef, undef, undef, undef, undef, undef, undef, undef, undef, undef, undef, undef, undef, undef, undef, undef, undef, undef, undef, undef, undef, undef, undef, undef, undef, undef, undef, undef, undef], defers := [] } W := by
  obtain rfl : x13 = .bool true := q13
  replace q15 : IntsAt W.heap.size W x15 [2, 3] := q15
  obtain ⟨o15, c15, rfl⟩ := q15.shape
  unfold opsAt Try.f10
  simp only [findRegion, Nat.reduceBEq, if_true, if_false, Bool.false_eq_true, Option.getD_some]
  refine wpOp_of_list' rfl ?_
  go_wp2_with (go_at_call 33; refine (lasso_any _ _ _ _ _ _ _).mono ?_; rintro e W2 ⟨rfl, hb⟩)
  exact hK _ _ ⟨_, _, rfl, .inl ⟨_, _, rfl, rfl⟩, ((q15.below hb (Nat.le_refl _)).mono hb.size)⟩ hb

set_option maxRecDepth 100000 in
set_option maxHeartbeats 1000000 in
theorem h2_17 (bx : Nat) (a5 a6 a7 : Value) (K : Act → World → Prop) (Q : Exit → Act → World → Prop) (W : World) (x0 x1 x2 x3 x4 x5 x6 x7 x8 x9 x10 x11 x12 x13 x14 x15 x16 x17 x18 x19 x20 x21 x22 x23 x24 x25 x26 x27 x28 x29 x30 x31 x32 : Value) (q13 : (hdFs2 13).holds x13 W) (q14 : (hdFs2 14).holds x14 W) (q16 : (hdFs2 16).holds x16 W)
    (hK : ∀ v w', (hdFs2 17).holds v w' → Below W.heap.size W w' → K { tmps := #[.bool false, .pointer (some ⟨bx, 0, none⟩), x32, undef, undef, a5, a6, a7, x0, x1, x2, x3, x4, x5, x6, x7, x8, x9, x10, x11, x12, x13, x14, x15, x16, v, x18, x19, x20, x21, x22, x23, x24, x25, x26, x27, x28, x29, x30, x31, undef, undef, undef, undef, undef, undef, undef, undef, undef, undef, undef, undef, undef, undef, undef, undef, undef, undef, undef, undef, undef, undef, undef, undef, undef, undef, undef, undef, undef, undef, undef, undef, undef, undef, undef, undef, undef, undef, undef, undef, undef, undef, undef, undef, undef, undef, undef, undef, undef, undef, undef, undef, undef, undef, undef, undef, undef, undef, undef, undef, undef, undef, undef, undef, undef, undef, undef, undef, undef, undef, undef, undef, undef, undef, undef], defers := [] } w') :
    wpOp Try.prog (opsAt Try.f10 2) Q 17 K { tmps := #[.bool false, .pointer (some ⟨bx, 0, none⟩), x32, undef, undef, a5, a6, a7, x0, x1, x2, x3, x4, x5, x6, x7, x8, x9, x10, x11, x12, x13, x14, x15, x16, x17, x18, x19, x20, x21, x22, x23, x24, x25, x26, x27, x28, x29, x30, x31, undef, undef, undef, undef, undef, undef, undef, undef, undef, undef, undef, undef, undef, undef, undef, undef, undef, undef, undef, undef, undef, undef, undef, undef, undef, undef, undef, undef, undef, undef, undef, undef, undef, undef, undef, undef, undef, undef, undef, undef, undef, undef, undef, undef, undef, undef, undef, undef, undef, undef, undef, undef, undef, undef, undef, undef, undef, undef, undef, undef, undef, undef, undef, undef, undef, undef, undef, undef, undef, undef, undef, undef, undef, undef, undef], defers := [] } W := by
  obtain rfl : x13 = .bool true := q13
  replace q14 : IntsAt W.heap.size W x14 [2, 3] := q14
  obtain ⟨o14, c14, rfl⟩ := q14.shape
  replace q16 : LasAt W.heap.size W x16 [] [2, 3] := q16
  obtain ⟨o16, c16, p16, e16, rfl, i16, j16⟩ := q16.open
  unfold opsAt Try.f10
  simp only [findRegion, Nat.reduceBEq, if_true, if_false, Bool.false_eq_true, Option.getD_some]
  refine wpOp_of_list' rfl ?_
  go_wp2_with (go_at_call 26; refine (push_any W.heap.size _ _ _ _ _ _ q14 q16 (Nat.le_refl _) (by decide)).mono ?_; rintro e W2 ⟨r, rfl, hN, hb⟩; rw [hd_p1] at hN; obtain ⟨u5, u4, rfl, J5, J4, -, -⟩ := hN.ex; obtain ⟨x5', k5, rfl⟩ := J5.shape; obtain ⟨x4', k4, rfl⟩ := J4.shape)
  exact hK _ _ hN.las hb

set_option maxRecDepth 100000 in
set_option maxHeartbeats 1000000 in
theorem h2_18 (bx : Nat) (a5 a6 a7 : Value) (K : Act → World → Prop) (Q : Exit → Act → World → Prop) (W : World) (x0 x1 x2 x3 x4 x5 x6 x7 x8 x9 x10 x11 x12 x13 x14 x15 x16 x17 x18 x19 x20 x21 x22 x23 x24 x25 x26 x27 x28 x29 x30 x31 x32 : Value) (q13 : (hdFs2 13).holds x13 W)
    (hK : ∀ v w', (hdFs2 18).holds v w' → Below W.heap.size W w' → K { tmps := #[.bool false, .pointer (some ⟨bx, 0, none⟩), x32, undef, undef, a5, a6, a7, x0, x1, x2, x3, x4, x5, x6, x7, x8, x9, x10, x11, x12, x13, x14, x15, x16, x17, v, x19, x20, x21, x22, x23, x24, x25, x26, x27, x28, x29, x30, x31, undef, undef, undef, undef, undef, undef, undef, undef, undef, undef, undef, undef, undef, undef, undef, undef, undef, undef, undef, undef, undef, undef, undef, undef, undef, undef, undef, undef, undef, undef, undef, undef, undef, undef, undef, undef, undef, undef, undef, undef, undef, undef, undef, undef, undef, undef, undef, undef, undef, undef, undef, undef, undef, undef, undef, undef, undef, undef, undef, undef, undef, undef, undef, undef, undef, undef, undef, undef, undef, undef, undef, undef, undef, undef, undef], defers := [] } w') :
    wpOp Try.prog (opsAt Try.f10 2) Q 18 K { tmps := #[.bool false, .pointer (some ⟨bx, 0, none⟩), x32, undef, undef, a5, a6, a7, x0, x1, x2, x3, x4, x5, x6, x7, x8, x9, x10, x11, x12, x13, x14, x15, x16, x17, x18, x19, x20, x21, x22, x23, x24, x25, x26, x27, x28, x29, x30, x31, undef, undef, undef, undef, undef, undef, undef, undef, undef, undef, undef, undef, undef, undef, undef, undef, undef, undef, undef, undef, undef, undef, undef, undef, undef, undef, undef, undef, undef, undef, undef, undef, undef, undef, undef, undef, undef, undef, undef, undef, undef, undef, undef, undef, undef, undef, undef, undef, undef, undef, undef, undef, undef, undef, undef, undef, undef, undef, undef, undef, undef, undef, undef, undef, undef, undef, undef, undef, undef, undef, undef, undef, undef, undef, undef], defers := [] } W := by
  obtain rfl : x13 = .bool true := q13
  unfold opsAt Try.f10
  simp only [findRegion, Nat.reduceBEq, if_true, if_false, Bool.false_eq_true, Option.getD_some]
  refine wpOp_of_list' rfl ?_
  go_wp2_with fail
  exact hK _ _ ((ints_made W [2, 3] 2 rfl (by decide) (by decide)).mono (by simp)) ((Below.refl _ _).alloc (Nat.le_refl _) _)

set_option maxRecDepth 100000 in
set_option maxHeartbeats 1000000 in
theorem h2_19 (bx : Nat) (a5 a6 a7 : Value) (K : Act → World → Prop) (Q : Exit → Act → World → Prop) (W : World) (x0 x1 x2 x3 x4 x5 x6 x7 x8 x9 x10 x11 x12 x13 x14 x15 x16 x17 x18 x19 x20 x21 x22 x23 x24 x25 x26 x27 x28 x29 x30 x31 x32 : Value) (q13 : (hdFs2 13).holds x13 W) (q18 : (hdFs2 18).holds x18 W)
    (hK : ∀ v w', (hdFs2 19).holds v w' → Below W.heap.size W w' → K { tmps := #[.bool false, .pointer (some ⟨bx, 0, none⟩), x32, undef, undef, a5, a6, a7, x0, x1, x2, x3, x4, x5, x6, x7, x8, x9, x10, x11, x12, x13, x14, x15, x16, x17, x18, v, x20, x21, x22, x23, x24, x25, x26, x27, x28, x29, x30, x31, undef, undef, undef, undef, undef, undef, undef, undef, undef, undef, undef, undef, undef, undef, undef, undef, undef, undef, undef, undef, undef, undef, undef, undef, undef, undef, undef, undef, undef, undef, undef, undef, undef, undef, undef, undef, undef, undef, undef, undef, undef, undef, undef, undef, undef, undef, undef, undef, undef, undef, undef, undef, undef, undef, undef, undef, undef, undef, undef, undef, undef, undef, undef, undef, undef, undef, undef, undef, undef, undef, undef, undef, undef, undef, undef], defers := [] } w') :
    wpOp Try.prog (opsAt Try.f10 2) Q 19 K { tmps := #[.bool false, .pointer (some ⟨bx, 0, none⟩), x32, undef, undef, a5, a6, a7, x0, x1, x2, x3, x4, x5, x6, x7, x8, x9, x10, x11, x12, x13, x14, x15, x16, x17, x18, x19, x20, x21, x22, x23, x24, x25, x26, x27, x28, x29, x30, x31, undef, undef, undef, undef, undef, undef, undef, undef, undef, undef, undef, undef, undef, undef, undef, undef, undef, undef, undef, undef, undef, undef, undef, undef, undef, undef, undef, undef, undef, undef, undef, undef, undef, undef, undef, undef, undef, undef, undef, undef, undef, undef, undef, undef, undef, undef, undef, undef, undef, undef, undef, undef, undef, undef, undef, undef, undef, undef, undef, undef, undef, undef, undef, undef, undef, undef, undef, undef, undef, undef, undef, undef, undef, undef, undef], defers := [] } W := by
  obtain rfl : x13 = .bool true := q13
  replace q18 : IntsAt W.heap.size W x18 [2, 3] := q18
  obtain ⟨o18, c18, rfl⟩ := q18.shape
  unfold opsAt Try.f10
  simp only [findRegion, Nat.reduceBEq, if_true, if_false, Bool.false_eq_true, Option.getD_some]
  refine wpOp_of_list' rfl ?_
  go_wp2_with (go_at_call 33; refine (lasso_any _ _ _ _ _ _ _).mono ?_; rintro e W2 ⟨rfl, hb⟩)
  exact hK _ _ ⟨_, _, rfl, .inl ⟨_, _, rfl, rfl⟩, ((q18.below hb (Nat.le_refl _)).mono hb.size)⟩ hb

set_option maxRecDepth 100000 in
set_option maxHeartbeats 1000000 in
theorem h2_20 (bx : Nat) (a5 a6 a7 : Value) (K : Act → World → Prop) (Q : Exit → Act → World → Prop) (W : World) (x0 x1 x2 x3 x4 x5 x6 x7 x8 x9 x10 x11 x12 x13 x14 x15 x16 x17 x18 x19 x20 x21 x22 x23 x24 x25 x26 x27 x28 x29 x30 x31 x32 : Value) (q13 : (hdFs2 13).holds x13 W) (q17 : (hdFs2 17).holds x17 W) (q19 : (hdFs2 19).holds x19 W)
    (hK : ∀ v w', (hdFs2 20).holds v w' → Below W.heap.size W w' → K { tmps := #[.bool false, .pointer (some ⟨bx, 0, none⟩), x32, undef, undef, a5, a6, a7, x0, x1, x2, x3, x4, x5, x6, x7, x8, x9, x10, x11, x12, x13, x14, x15, x16, x17, x18, x19, v, x21, x22, x23, x24, x25, x26, x27, x28, x29, x30, x31, undef, undef, undef, undef, undef, undef, undef, undef, undef, undef, undef, undef, undef, undef, undef, undef, undef, undef, undef, undef, undef, undef, undef, undef, undef, undef, undef, undef, undef, undef, undef, undef, undef, undef, undef, undef, undef, undef, undef, undef, undef, undef, undef, undef, undef, undef, undef, undef, undef, undef, undef, undef, undef, undef, undef, undef, undef, undef, undef, undef, undef, undef, undef, undef, undef, undef, undef, undef, undef, undef, undef, undef, undef, undef, undef], defers := [] } w') :
    wpOp Try.prog (opsAt Try.f10 2) Q 20 K { tmps := #[.bool false, .pointer (some ⟨bx, 0, none⟩), x32, undef, undef, a5, a6, a7, x0, x1, x2, x3, x4, x5, x6, x7, x8, x9, x10, x11, x12, x13, x14, x15, x16, x17, x18, x19, x20, x21, x22, x23, x24, x25, x26, x27, x28, x29, x30, x31, undef, undef, undef, undef, undef, undef, undef, undef, undef, undef, undef, undef, undef, undef, undef, undef, undef, undef, undef, undef, undef, undef, undef, undef, undef, undef, undef, undef, undef, undef, undef, undef, undef, undef, undef, undef, undef, undef, undef, undef, undef, undef, undef, undef, undef, undef, undef, undef, undef, undef, undef, undef, undef, undef, undef, undef, undef, undef, undef, undef, undef, undef, undef, undef, undef, undef, undef, undef, undef, undef, undef, undef, undef, undef, undef], defers := [] } W := by
  obtain rfl : x13 = .bool true := q13
  replace q17 : LasAt W.heap.size W x17 [] [2, 3] := q17
  obtain ⟨o17, c17, p17, e17, rfl, i17, j17⟩ := q17.open
  replace q19 : LasAt W.heap.size W x19 [] [2, 3] := q19
  obtain ⟨o19, c19, p19, e19, rfl, i19, j19⟩ := q19.open
  unfold opsAt Try.f10
  simp only [findRegion, Nat.reduceBEq, if_true, if_false, Bool.false_eq_true, Option.getD_some]
  refine wpOp_of_list' rfl ?_
  go_wp2_with (go_at_call 19; refine (refequal_any W.heap.size _ _ _ _ _ _ _ q17 q19 (Nat.le_refl _)).mono ?_; rintro e W2 ⟨rfl, hb⟩; rw [hd_e3])
  exact hK _ _ rfl hb

set_option maxRecDepth 100000 in
set_option maxHeartbeats 1000000 in
theorem h2_21 (bx : Nat) (a5 a6 a7 : Value) (K : Act → World → Prop) (Q : Exit → Act → World → Prop) (W : World) (x0 x1 x2 x3 x4 x5 x6 x7 x8 x9 x10 x11 x12 x13 x14 x15 x16 x17 x18 x19 x20 x21 x22 x23 x24 x25 x26 x27 x28 x29 x30 x31 x32 : Value) (q13 : (hdFs2 13).holds x13 W) (q20 : (hdFs2 20).holds x20 W)
    (hK : ∀ v w', (hdFs2 21).holds v w' → Below W.heap.size W w' → K { tmps := #[.bool false, .pointer (some ⟨bx, 0, none⟩), x32, undef, undef, a5, a6, a7, x0, x1, x2, x3, x4, x5, x6, x7, x8, x9, x10, x11, x12, x13, x14, x15, x16, x17, x18, x19, x20, v, x22, x23, x24, x25, x26, x27, x28, x29, x30, x31, undef, undef, undef, undef, undef, undef, undef, undef, undef, undef, undef, undef, undef, undef, undef, undef, undef, undef, undef, undef, undef, undef, undef, undef, undef, undef, undef, undef, undef, undef, undef, undef, undef, undef, undef, undef, undef, undef, undef, undef, undef, undef, undef, undef, undef, undef, undef, undef, undef, undef, undef, undef, undef, undef, undef, undef, undef, undef, undef, undef, undef, undef, undef, undef, undef, undef, undef, undef, undef, undef, undef, undef, undef, undef, undef], defers := [] } w') :
    wpOp Try.prog (opsAt Try.f10 2) Q 21 K { tmps := #[.bool false, .pointer (some ⟨bx, 0, none⟩), x32, undef, undef, a5, a6, a7, x0, x1, x2, x3, x4, x5, x6, x7, x8, x9, x10, x11, x12, x13, x14, x15, x16, x17, x18, x19, x20, x21, x22, x23, x24, x25, x26, x27, x28, x29, x30, x31, undef, undef, undef, undef, undef, undef, undef, undef, undef, undef, undef, undef, undef, undef, undef, undef, undef, undef, undef, undef, undef, undef, undef, undef, undef, undef, undef, undef, undef, undef, undef, undef, undef, undef, undef, undef, undef, undef, undef, undef, undef, undef, undef, undef, undef, undef, undef, undef, undef, undef, undef, undef, undef, undef, undef, undef, undef, undef, undef, undef, undef, undef, undef, undef, undef, undef, undef, undef, undef, undef, undef, undef, undef, undef, undef], defers := [] } W := by
  obtain rfl : x13 = .bool true := q13
  obtain rfl : x20 = .bool true := q20
  unfold opsAt Try.f10
  simp only [findRegion, Nat.reduceBEq, if_true, if_false, Bool.false_eq_true, Option.getD_some]
  refine wpOp_of_list' rfl ?_
  go_wp2_with fail
  exact hK _ _ rfl (Below.refl _ _)

set_option maxRecDepth 100000 in
set_option maxHeartbeats 1000000 in
theorem h2_22 (bx : Nat) (a5 a6 a7 : Value) (K : Act → World → Prop) (Q : Exit → Act → World → Prop) (W : World) (x0 x1 x2 x3 x4 x5 x6 x7 x8 x9 x10 x11 x12 x13 x14 x15 x16 x17 x18 x19 x20 x21 x22 x23 x24 x25 x26 x27 x28 x29 x30 x31 x32 : Value) (q21 : (hdFs2 21).holds x21 W)
    (hK : ∀ v w', (hdFs2 22).holds v w' → Below W.heap.size W w' → K { tmps := #[.bool false, .pointer (some ⟨bx, 0, none⟩), x32, undef, undef, a5, a6, a7, x0, x1, x2, x3, x4, x5, x6, x7, x8, x9, x10, x11, x12, x13, x14, x15, x16, x17, x18, x19, x20, x21, v, x23, x24, x25, x26, x27, x28, x29, x30, x31, undef, undef, undef, undef, undef, undef, undef, undef, undef, undef, undef, undef, undef, undef, undef, undef, undef, undef, undef, undef, undef, undef, undef, undef, undef, undef, undef, undef, undef, undef, undef, undef, undef, undef, undef, undef, undef, undef, undef, undef, undef, undef, undef, undef, undef, undef, undef, undef, undef, undef, undef, undef, undef, undef, undef, undef, undef, undef, undef, undef, undef, undef, undef, undef, undef, undef, undef, undef, undef, undef, undef, undef, undef, undef, undef], defers := [] } w') :
    wpOp Try.prog (opsAt Try.f10 2) Q 22 K { tmps := #[.bool false, .pointer (some ⟨bx, 0, none⟩), x32, undef, undef, a5, a6, a7, x0, x1, x2, x3, x4, x5, x6, x7, x8, x9, x10, x11, x12, x13, x14, x15, x16, x17, x18, x19, x20, x21, x22, x23, x24, x25, x26, x27, x28, x29, x30, x31, undef, undef, undef, undef, undef, undef, undef, undef, undef, undef, undef, undef, undef, undef, undef, undef, undef, undef, undef, undef, undef, undef, undef, undef, undef, undef, undef, undef, undef, undef, undef, undef, undef, undef, undef, undef, undef, undef, undef, undef, undef, undef, undef, undef, undef, undef, undef, undef, undef, undef, undef, undef, undef, undef, undef, undef, undef, undef, undef, undef, undef, undef, undef, undef, undef, undef, undef, undef, undef, undef, undef, undef, undef, undef, undef], defers := [] } W := by
  obtain rfl : x21 = .bool true := q21
  unfold opsAt Try.f10
  simp only [findRegion, Nat.reduceBEq, if_true, if_false, Bool.false_eq_true, Option.getD_some]
  refine wpOp_of_list' rfl ?_
  go_wp2_with fail
  exact hK _ _ rfl (Below.refl _ _)

set_option maxRecDepth 100000 in
set_option maxHeartbeats 1000000 in
theorem h2_23 (bx : Nat) (a5 a6 a7 : Value) (K : Act → World → Prop) (Q : Exit → Act → World → Prop) (W : World) (x0 x1 x2 x3 x4 x5 x6 x7 x8 x9 x10 x11 x12 x13 x14 x15 x16 x17 x18 x19 x20 x21 x22 x23 x24 x25 x26 x27 x28 x29 x30 x31 x32 : Value) (o1 : Option Addr) (c1 : Nat) (o2 : Option Addr) (c2 : Nat) (k0 : Hid (W.cell? ⟨bx, 0, none⟩ = some (.slice o1 1 c1))) (k1 : Hid (W.cell? ⟨bx, 1, none⟩ = some (.slice o2 2 c2))) (kL : Hid (LasAt W.heap.size W (.agg #[.slice o1 1 c1, .slice o2 2 c2]) [1] [2, 3])) (q22 : (hdFs2 22).holds x22 W)
    (hK : ∀ v w', (hdFs2 23).holds v w' → Below W.heap.size W w' → K { tmps := #[.bool false, .pointer (some ⟨bx, 0, none⟩), x32, undef, undef, a5, a6, a7, x0, x1, x2, x3, x4, x5, x6, x7, x8, x9, x10, x11, x12, x13, x14, x15, x16, x17, x18, x19, x20, x21, x22, v, x24, x25, x26, x27, x28, x29, x30, x31, undef, undef, undef, undef, undef, undef, undef, undef, undef, undef, undef, undef, undef, undef, undef, undef, undef, undef, undef, undef, undef, undef, undef, undef, undef, undef, undef, undef, undef, undef, undef, undef, undef, undef, undef, undef, undef, undef, undef, undef, undef, undef, undef, undef, undef, undef, undef, undef, undef, undef, undef, undef, undef, undef, undef, undef, undef, undef, undef, undef, undef, undef, undef, undef, undef, undef, undef, undef, undef, undef, undef, undef, undef, undef, undef], defers := [] } w') :
    wpOp Try.prog (opsAt Try.f10 2) Q 23 K { tmps := #[.bool false, .pointer (some ⟨bx, 0, none⟩), x32, undef, undef, a5, a6, a7, x0, x1, x2, x3, x4, x5, x6, x7, x8, x9, x10, x11, x12, x13, x14, x15, x16, x17, x18, x19, x20, x21, x22, x23, x24, x25, x26, x27, x28, x29, x30, x31, undef, undef, undef, undef, undef, undef, undef, undef, undef, undef, undef, undef, undef, undef, undef, undef, undef, undef, undef, undef, undef, undef, undef, undef, undef, undef, undef, undef, undef, undef, undef, undef, undef, undef, undef, undef, undef, undef, undef, undef, undef, undef, undef, undef, undef, undef, undef, undef, undef, undef, undef, undef, undef, undef, undef, undef, undef, undef, undef, undef, undef, undef, undef, undef, undef, undef, undef, undef, undef, undef, undef, undef, undef, undef, undef], defers := [] } W := by
  obtain rfl : x22 = .bool true := q22
  have b0 := k0.out
  have b1 := k1.out
  unfold opsAt Try.f10
  simp only [findRegion, Nat.reduceBEq, if_true, if_false, Bool.false_eq_true, Option.getD_some]
  refine wpOp_of_list' rfl ?_
  go_wp2_with fail
  exact hK _ _ kL.out (Below.refl _ _)

set_option maxRecDepth 100000 in
set_option maxHeartbeats 1000000 in
theorem h2_24 (bx : Nat) (a5 a6 a7 : Value) (K : Act → World → Prop) (Q : Exit → Act → World → Prop) (W : World) (x0 x1 x2 x3 x4 x5 x6 x7 x8 x9 x10 x11 x12 x13 x14 x15 x16 x17 x18 x19 x20 x21 x22 x23 x24 x25 x26 x27 x28 x29 x30 x31 x32 : Value) (q22 : (hdFs2 22).holds x22 W) (q23 : (hdFs2 23).holds x23 W)
    (hK : ∀ v w', (hdFs2 24).holds v w' → Below W.heap.size W w' → K { tmps := #[.bool false, .pointer (some ⟨bx, 0, none⟩), x32, undef, undef, a5, a6, a7, x0, x1, x2, x3, x4, x5, x6, x7, x8, x9, x10, x11, x12, x13, x14, x15, x16, x17, x18, x19, x20, x21, x22, x23, v, x25, x26, x27, x28, x29, x30, x31, undef, undef, undef, undef, undef, undef, undef, undef, undef, undef, undef, undef, undef, undef, undef, undef, undef, undef, undef, undef, undef, undef, undef, undef, undef, undef, undef, undef, undef, undef, undef, undef, undef, undef, undef, undef, undef, undef, undef, undef, undef, undef, undef, undef, undef, undef, undef, undef, undef, undef, undef, undef, undef, undef, undef, undef, undef, undef, undef, undef, undef, undef, undef, undef, undef, undef, undef, undef, undef, undef, undef, undef, undef, undef, undef], defers := [] } w') :
    wpOp Try.prog (opsAt Try.f10 2) Q 24 K { tmps := #[.bool false, .pointer (some ⟨bx, 0, none⟩), x32, undef, undef, a5, a6, a7, x0, x1, x2, x3, x4, x5, x6, x7, x8, x9, x10, x11, x12, x13, x14, x15, x16, x17, x18, x19, x20, x21, x22, x23, x24, x25, x26, x27, x28, x29, x30, x31, undef, undef, undef, undef, undef, undef, undef, undef, undef, undef, undef, undef, undef, undef, undef, undef, undef, undef, undef, undef, undef, undef, undef, undef, undef, undef, undef, undef, undef, undef, undef, undef, undef, undef, undef, undef, undef, undef, undef, undef, undef, undef, undef, undef, undef, undef, undef, undef, undef, undef, undef, undef, undef, undef, undef, undef, undef, undef, undef, undef, undef, undef, undef, undef, undef, undef, undef, undef, undef, undef, undef, undef, undef, undef, undef], defers := [] } W := by
  obtain rfl : x22 = .bool true := q22
  replace q23 : LasAt W.heap.size W x23 [1] [2, 3] := q23
  obtain ⟨o23, c23, p23, e23, rfl, i23, j23⟩ := q23.open
  unfold opsAt Try.f10
  simp only [findRegion, Nat.reduceBEq, if_true, if_false, Bool.false_eq_true, Option.getD_some]
  refine wpOp_of_list' rfl ?_
  go_wp2_with (go_at_call 14; refine (at_any W.heap.size _ _ _ 4 _ q23 (Nat.le_refl _) (by decide)).mono ?_; rintro e W2 ⟨rfl, hb⟩; rw [hd_a1])
  exact hK _ _ rfl hb

set_option maxRecDepth 100000 in
set_option maxHeartbeats 1000000 in
theorem h2_25 (bx : Nat) (a5 a6 a7 : Value) (K : Act → World → Prop) (Q : Exit → Act → World → Prop) (W : World) (x0 x1 x2 x3 x4 x5 x6 x7 x8 x9 x10 x11 x12 x13 x14 x15 x16 x17 x18 x19 x20 x21 x22 x23 x24 x25 x26 x27 x28 x29 x30 x31 x32 : Value) (q22 : (hdFs2 22).holds x22 W) (q24 : (hdFs2 24).holds x24 W)
    (hK : ∀ v w', (hdFs2 25).holds v w' → Below W.heap.size W w' → K { tmps := #[.bool false, .pointer (some ⟨bx, 0, none⟩), x32, undef, undef, a5, a6, a7, x0, x1, x2, x3, x4, x5, x6, x7, x8, x9, x10, x11, x12, x13, x14, x15, x16, x17, x18, x19, x20, x21, x22, x23, x24, v, x26, x27, x28, x29, x30, x31, undef, undef, undef, undef, undef, undef, undef, undef, undef, undef, undef, undef, undef, undef, undef, undef, undef, undef, undef, undef, undef, undef, undef, undef, undef, undef, undef, undef, undef, undef, undef, undef, undef, undef, undef, undef, undef, undef, undef, undef, undef, undef, undef, undef, undef, undef, undef, undef, undef, undef, undef, undef, undef, undef, undef, undef, undef, undef, undef, undef, undef, undef, undef, undef, undef, undef, undef, undef, undef, undef, undef, undef, undef, undef, undef], defers := [] } w') :
    wpOp Try.prog (opsAt Try.f10 2) Q 25 K { tmps := #[.bool false, .pointer (some ⟨bx, 0, none⟩), x32, undef, undef, a5, a6, a7, x0, x1, x2, x3, x4, x5, x6, x7, x8, x9, x10, x11, x12, x13, x14, x15, x16, x17, x18, x19, x20, x21, x22, x23, x24, x25, x26, x27, x28, x29, x30, x31, undef, undef, undef, undef, undef, undef, undef, undef, undef, undef, undef, undef, undef, undef, undef, undef, undef, undef, undef, undef, undef, undef, undef, undef, undef, undef, undef, undef, undef, undef, undef, undef, undef, undef, undef, undef, undef, undef, undef, undef, undef, undef, undef, undef, undef, undef, undef, undef, undef, undef, undef, undef, undef, undef, undef, undef, undef, undef, undef, undef, undef, undef, undef, undef, undef, undef, undef, undef, undef, undef, undef, undef, undef, undef, undef], defers := [] } W := by
  obtain rfl : x22 = .bool true := q22
  obtain rfl : x24 = .int .i64 3 := q24
  unfold opsAt Try.f10
  simp only [findRegion, Nat.reduceBEq, if_true, if_false, Bool.false_eq_true, Option.getD_some]
  refine wpOp_of_list' rfl ?_
  go_wp2_with fail
  exact hK _ _ rfl (Below.refl _ _)

set_option maxRecDepth 100000 in
set_option maxHeartbeats 1000000 in
theorem h2_26 (bx : Nat) (a5 a6 a7 : Value) (K : Act → World → Prop) (Q : Exit → Act → World → Prop) (W : World) (x0 x1 x2 x3 x4 x5 x6 x7 x8 x9 x10 x11 x12 x13 x14 x15 x16 x17 x18 x19 x20 x21 x22 x23 x24 x25 x26 x27 x28 x29 x30 x31 x32 : Value) (q22 : (hdFs2 22).holds x22 W) (q25 : (hdFs2 25).holds x25 W)
    (hK : ∀ v w', (hdFs2 26).holds v w' → Below W.heap.size W w' → K { tmps := #[.bool false, .pointer (some ⟨bx, 0, none⟩), x32, undef, undef, a5, a6, a7, x0, x1, x2, x3, x4, x5, x6, x7, x8, x9, x10, x11, x12, x13, x14, x15, x16, x17, x18, x19, x20, x21, x22, x23, x24, x25, v, x27, x28, x29, x30, x31, undef, undef, undef, undef, undef, undef, undef, undef, undef, undef, undef, undef, undef, undef, undef, undef, undef, undef, undef, undef, undef, undef, undef, undef, undef, undef, undef, undef, undef, undef, undef, undef, undef, undef, undef, undef, undef, undef, undef, undef, undef, undef, undef, undef, undef, undef, undef, undef, undef, undef, undef, undef, undef, undef, undef, undef, undef, undef, undef, undef, undef, undef, undef, undef, undef, undef, undef, undef, undef, undef, undef, undef, undef, undef, undef], defers := [] } w') :
    wpOp Try.prog (opsAt Try.f10 2) Q 26 K { tmps := #[.bool false, .pointer (some ⟨bx, 0, none⟩), x32, undef, undef, a5, a6, a7, x0, x1, x2, x3, x4, x5, x6, x7, x8, x9, x10, x11, x12, x13, x14, x15, x16, x17, x18, x19, x20, x21, x22, x23, x24, x25, x26, x27, x28, x29, x30, x31, undef, undef, undef, undef, undef, undef, undef, undef, undef, undef, undef, undef, undef, undef, undef, undef, undef, undef, undef, undef, undef, undef, undef, undef, undef, undef, undef, undef, undef, undef, undef, undef, undef, undef, undef, undef, undef, undef, undef, undef, undef, undef, undef, undef, undef, undef, undef, undef, undef, undef, undef, undef, undef, undef, undef, undef, undef, undef, undef, undef, undef, undef, undef, undef, undef, undef, undef, undef, undef, undef, undef, undef, undef, undef, undef], defers := [] } W := by
  obtain rfl : x22 = .bool true := q22
  obtain rfl : x25 = .bool true := q25
  unfold opsAt Try.f10
  simp only [findRegion, Nat.reduceBEq, if_true, if_false, Bool.false_eq_true, Option.getD_some]
  refine wpOp_of_list' rfl ?_
  go_wp2_with fail
  exact hK _ _ rfl (Below.refl _ _)

set_option maxRecDepth 100000 in
set_option maxHeartbeats 1000000 in
theorem h2_27 (bx : Nat) (a5 a6 a7 : Value) (K : Act → World → Prop) (Q : Exit → Act → World → Prop) (W : World) (x0 x1 x2 x3 x4 x5 x6 x7 x8 x9 x10 x11 x12 x13 x14 x15 x16 x17 x18 x19 x20 x21 x22 x23 x24 x25 x26 x27 x28 x29 x30 x31 x32 : Value) (q26 : (hdFs2 26).holds x26 W)
    (hK : ∀ v w', (hdFs2 27).holds v w' → Below W.heap.size W w' → K { tmps := #[.bool false, .pointer (some ⟨bx, 0, none⟩), x32, undef, undef, a5, a6, a7, x0, x1, x2, x3, x4, x5, x6, x7, x8, x9, x10, x11, x12, x13, x14, x15, x16, x17, x18, x19, x20, x21, x22, x23, x24, x25, x26, v, x28, x29, x30, x31, undef, undef, undef, undef, undef, undef, undef, undef, undef, undef, undef, undef, undef, undef, undef, undef, undef, undef, undef, undef, undef, undef, undef, undef, undef, undef, undef, undef, undef, undef, undef, undef, undef, undef, undef, undef, undef, undef, undef, undef, undef, undef, undef, undef, undef, undef, undef, undef, undef, undef, undef, undef, undef, undef, undef, undef, undef, undef, undef, undef, undef, undef, undef, undef, undef, undef, undef, undef, undef, undef, undef, undef, undef, undef, undef], defers := [] } w') :
    wpOp Try.prog (opsAt Try.f10 2) Q 27 K { tmps := #[.bool false, .pointer (some ⟨bx, 0, none⟩), x32, undef, undef, a5, a6, a7, x0, x1, x2, x3, x4, x5, x6, x7, x8, x9, x10, x11, x12, x13, x14, x15, x16, x17, x18, x19, x20, x21, x22, x23, x24, x25, x26, x27, x28, x29, x30, x31, undef, undef, undef, undef, undef, undef, undef, undef, undef, undef, undef, undef, undef, undef, undef, undef, undef, undef, undef, undef, undef, undef, undef, undef, undef, undef, undef, undef, undef, undef, undef, undef, undef, undef, undef, undef, undef, undef, undef, undef, undef, undef, undef, undef, undef, undef, undef, undef, undef, undef, undef, undef, undef, undef, undef, undef, undef, undef, undef, undef, undef, undef, undef, undef, undef, undef, undef, undef, undef, undef, undef, undef, undef, undef, undef], defers := [] } W := by
  obtain rfl : x26 = .bool true := q26
  unfold opsAt Try.f10
  simp only [findRegion, Nat.reduceBEq, if_true, if_false, Bool.false_eq_true, Option.getD_some]
  refine wpOp_of_list' rfl ?_
  go_wp2_with fail
  exact hK _ _ rfl (Below.refl _ _)

set_option maxRecDepth 100000 in
set_option maxHeartbeats 1000000 in
theorem h2_28 (bx : Nat) (a5 a6 a7 : Value) (K : Act → World → Prop) (Q : Exit → Act → World → Prop) (W : World) (x0 x1 x2 x3 x4 x5 x6 x7 x8 x9 x10 x11 x12 x13 x14 x15 x16 x17 x18 x19 x20 x21 x22 x23 x24 x25 x26 x27 x28 x29 x30 x31 x32 : Value) (o1 : Option Addr) (c1 : Nat) (o2 : Option Addr) (c2 : Nat) (k0 : Hid (W.cell? ⟨bx, 0, none⟩ = some (.slice o1 1 c1))) (k1 : Hid (W.cell? ⟨bx, 1, none⟩ = some (.slice o2 2 c2))) (kL : Hid (LasAt W.heap.size W (.agg #[.slice o1 1 c1, .slice o2 2 c2]) [1] [2, 3])) (q27 : (hdFs2 27).holds x27 W)
    (hK : ∀ v w', (hdFs2 28).holds v w' → Below W.heap.size W w' → K { tmps := #[.bool false, .pointer (some ⟨bx, 0, none⟩), x32, undef, undef, a5, a6, a7, x0, x1, x2, x3, x4, x5, x6, x7, x8, x9, x10, x11, x12, x13, x14, x15, x16, x17, x18, x19, x20, x21, x22, x23, x24, x25, x26, x27, v, x29, x30, x31, undef, undef, undef, undef, undef, undef, undef, undef, undef, undef, undef, undef, undef, undef, undef, undef, undef, undef, undef, undef, undef, undef, undef, undef, undef, undef, undef, undef, undef, undef, undef, undef, undef, undef, undef, undef, undef, undef, undef, undef, undef, undef, undef, undef, undef, undef, undef, undef, undef, undef, undef, undef, undef, undef, undef, undef, undef, undef, undef, undef, undef, undef, undef, undef, undef, undef, undef, undef, undef, undef, undef, undef, undef, undef, undef], defers := [] } w') :
    wpOp Try.prog (opsAt Try.f10 2) Q 28 K { tmps := #[.bool false, .pointer (some ⟨bx, 0, none⟩), x32, undef, undef, a5, a6, a7, x0, x1, x2, x3, x4, x5, x6, x7, x8, x9, x10, x11, x12, x13, x14, x15, x16, x17, x18, x19, x20, x21, x22, x23, x24, x25, x26, x27, x28, x29, x30, x31, undef, undef, undef, undef, undef, undef, undef, undef, undef, undef, undef, undef, undef, undef, undef, undef, undef, undef, undef, undef, undef, undef, undef, undef, undef, undef, undef, undef, undef, undef, undef, undef, undef, undef, undef, undef, undef, undef, undef, undef, undef, undef, undef, undef, undef, undef, undef, undef, undef, undef, undef, undef, undef, undef, undef, undef, undef, undef, undef, undef, undef, undef, undef, undef, undef, undef, undef, undef, undef, undef, undef, undef, undef, undef, undef], defers := [] } W := by
  obtain rfl : x27 = .bool true := q27
  have b0 := k0.out
  have b1 := k1.out
  unfold opsAt Try.f10
  simp only [findRegion, Nat.reduceBEq, if_true, if_false, Bool.false_eq_true, Option.getD_some]
  refine wpOp_of_list' rfl ?_
  go_wp2_with fail
  exact hK _ _ kL.out (Below.refl _ _)

set_option maxRecDepth 100000 in
set_option maxHeartbeats 1000000 in
theorem h2_29 (bx : Nat) (a5 a6 a7 : Value) (K : Act → World → Prop) (Q : Exit → Act → World → Prop) (W : World) (x0 x1 x2 x3 x4 x5 x6 x7 x8 x9 x10 x11 x12 x13 x14 x15 x16 x17 x18 x19 x20 x21 x22 x23 x24 x25 x26 x27 x28 x29 x30 x31 x32 : Value) (q27 : (hdFs2 27).holds x27 W) (q28 : (hdFs2 28).holds x28 W)
    (hK : ∀ v w', (hdFs2 29).holds v w' → Below W.heap.size W w' → K { tmps := #[.bool false, .pointer (some ⟨bx, 0, none⟩), x32, undef, undef, a5, a6, a7, x0, x1, x2, x3, x4, x5, x6, x7, x8, x9, x10, x11, x12, x13, x14, x15, x16, x17, x18, x19, x20, x21, x22, x23, x24, x25, x26, x27, x28, v, x30, x31, undef, undef, undef, undef, undef, undef, undef, undef, undef, undef, undef, undef, undef, undef, undef, undef, undef, undef, undef, undef, undef, undef, undef, undef, undef, undef, undef, undef, undef, undef, undef, undef, undef, undef, undef, undef, undef, undef, undef, undef, undef, undef, undef, undef, undef, undef, undef, undef, undef, undef, undef, undef, undef, undef, undef, undef, undef, undef, undef, undef, undef, undef, undef, undef, undef, undef, undef, undef, undef, undef, undef, undef, undef, undef, undef], defers := [] } w') :
    wpOp Try.prog (opsAt Try.f10 2) Q 29 K { tmps := #[.bool false, .pointer (some ⟨bx, 0, none⟩), x32, undef, undef, a5, a6, a7, x0, x1, x2, x3, x4, x5, x6, x7, x8, x9, x10, x11, x12, x13, x14, x15, x16, x17, x18, x19, x20, x21, x22, x23, x24, x25, x26, x27, x28, x29, x30, x31, undef, undef, undef, undef, undef, undef, undef, undef, undef, undef, undef, undef, undef, undef, undef, undef, undef, undef, undef, undef, undef, undef, undef, undef, undef, undef, undef, undef, undef, undef, undef, undef, undef, undef, undef, undef, undef, undef, undef, undef, undef, undef, undef, undef, undef, undef, undef, undef, undef, undef, undef, undef, undef, undef, undef, undef, undef, undef, undef, undef, undef, undef, undef, undef, undef, undef, undef, undef, undef, undef, undef, undef, undef, undef, undef], defers := [] } W := by
  obtain rfl : x27 = .bool true := q27
  replace q28 : LasAt W.heap.size W x28 [1] [2, 3] := q28
  obtain ⟨o28, c28, p28, e28, rfl, i28, j28⟩ := q28.open
  unfold opsAt Try.f10
  simp only [findRegion, Nat.reduceBEq, if_true, if_false, Bool.false_eq_true, Option.getD_some]
  refine wpOp_of_list' rfl ?_
  go_wp2_with (go_at_call 14; refine (at_any W.heap.size _ _ _ (-1) _ q28 (Nat.le_refl _) (by decide)).mono ?_; rintro e W2 ⟨rfl, hb⟩; rw [hd_a2])
  exact hK _ _ rfl hb

set_option maxRecDepth 100000 in
set_option maxHeartbeats 1000000 in
theorem h2_30 (bx : Nat) (a5 a6 a7 : Value) (K : Act → World → Prop) (Q : Exit → Act → World → Prop) (W : World) (x0 x1 x2 x3 x4 x5 x6 x7 x8 x9 x10 x11 x12 x13 x14 x15 x16 x17 x18 x19 x20 x21 x22 x23 x24 x25 x26 x27 x28 x29 x30 x31 x32 : Value) (q27 : (hdFs2 27).holds x27 W) (q29 : (hdFs2 29).holds x29 W)
    (hK : ∀ v w', (hdFs2 30).holds v w' → Below W.heap.size W w' → K { tmps := #[.bool false, .pointer (some ⟨bx, 0, none⟩), x32, undef, undef, a5, a6, a7, x0, x1, x2, x3, x4, x5, x6, x7, x8, x9, x10, x11, x12, x13, x14, x15, x16, x17, x18, x19, x20, x21, x22, x23, x24, x25, x26, x27, x28, x29, v, x31, undef, undef, undef, undef, undef, undef, undef, undef, undef, undef, undef, undef, undef, undef, undef, undef, undef, undef, undef, undef, undef, undef, undef, undef, undef, undef, undef, undef, undef, undef, undef, undef, undef, undef, undef, undef, undef, undef, undef, undef, undef, undef, undef, undef, undef, undef, undef, undef, undef, undef, undef, undef, undef, undef, undef, undef, undef, undef, undef, undef, undef, undef, undef, undef, undef, undef, undef, undef, undef, undef, undef, undef, undef, undef, undef], defers := [] } w') :
    wpOp Try.prog (opsAt Try.f10 2) Q 30 K { tmps := #[.bool false, .pointer (some ⟨bx, 0, none⟩), x32, undef, undef, a5, a6, a7, x0, x1, x2, x3, x4, x5, x6, x7, x8, x9, x10, x11, x12, x13, x14, x15, x16, x17, x18, x19, x20, x21, x22, x23, x24, x25, x26, x27, x28, x29, x30, x31, undef, undef, undef, undef, undef, undef, undef, undef, undef, undef, undef, undef, undef, undef, undef, undef, undef, undef, undef, undef, undef, undef, undef, undef, undef, undef, undef, undef, undef, undef, undef, undef, undef, undef, undef, undef, undef, undef, undef, undef, undef, undef, undef, undef, undef, undef, undef, undef, undef, undef, undef, undef, undef, undef, undef, undef, undef, undef, undef, undef, undef, undef, undef, undef, undef, undef, undef, undef, undef, undef, undef, undef, undef, undef, undef], defers := [] } W := by
  obtain rfl : x27 = .bool true := q27
  obtain rfl : x29 = .int .i64 (-1) := q29
  unfold opsAt Try.f10
  simp only [findRegion, Nat.reduceBEq, if_true, if_false, Bool.false_eq_true, Option.getD_some]
  refine wpOp_of_list' rfl ?_
  go_wp2_with fail
  exact hK _ _ rfl (Below.refl _ _)

set_option maxRecDepth 100000 in
set_option maxHeartbeats 1000000 in
theorem h2_31 (bx : Nat) (a5 a6 a7 : Value) (K : Act → World → Prop) (Q : Exit → Act → World → Prop) (W : World) (x0 x1 x2 x3 x4 x5 x6 x7 x8 x9 x10 x11 x12 x13 x14 x15 x16 x17 x18 x19 x20 x21 x22 x23 x24 x25 x26 x27 x28 x29 x30 x31 x32 : Value) (q27 : (hdFs2 27).holds x27 W) (q30 : (hdFs2 30).holds x30 W)
    (hK : ∀ v w', (hdFs2 31).holds v w' → Below W.heap.size W w' → K { tmps := #[.bool false, .pointer (some ⟨bx, 0, none⟩), x32, undef, undef, a5, a6, a7, x0, x1, x2, x3, x4, x5, x6, x7, x8, x9, x10, x11, x12, x13, x14, x15, x16, x17, x18, x19, x20, x21, x22, x23, x24, x25, x26, x27, x28, x29, x30, v, undef, undef, undef, undef, undef, undef, undef, undef, undef, undef, undef, undef, undef, undef, undef, undef, undef, undef, undef, undef, undef, undef, undef, undef, undef, undef, undef, undef, undef, undef, undef, undef, undef, undef, undef, undef, undef, undef, undef, undef, undef, undef, undef, undef, undef, undef, undef, undef, undef, undef, undef, undef, undef, undef, undef, undef, undef, undef, undef, undef, undef, undef, undef, undef, undef, undef, undef, undef, undef, undef, undef, undef, undef, undef, undef], defers := [] } w') :
    wpOp Try.prog (opsAt Try.f10 2) Q 31 K { tmps := #[.bool false, .pointer (some ⟨bx, 0, none⟩), x32, undef, undef, a5, a6, a7, x0, x1, x2, x3, x4, x5, x6, x7, x8, x9, x10, x11, x12, x13, x14, x15, x16, x17, x18, x19, x20, x21, x22, x23, x24, x25, x26, x27, x28, x29, x30, x31, undef, undef, undef, undef, undef, undef, undef, undef, undef, undef, undef, undef, undef, undef, undef, undef, undef, undef, undef, undef, undef, undef, undef, undef, undef, undef, undef, undef, undef, undef, undef, undef, undef, undef, undef, undef, undef, undef, undef, undef, undef, undef, undef, undef, undef, undef, undef, undef, undef, undef, undef, undef, undef, undef, undef, undef, undef, undef, undef, undef, undef, undef, undef, undef, undef, undef, undef, undef, undef, undef, undef, undef, undef, undef, undef], defers := [] } W := by
  obtain rfl : x27 = .bool true := q27
  obtain rfl : x30 = .bool true := q30
  unfold opsAt Try.f10
  simp only [findRegion, Nat.reduceBEq, if_true, if_false, Bool.false_eq_true, Option.getD_some]
  refine wpOp_of_list' rfl ?_
  go_wp2_with fail
  exact hK _ _ rfl (Below.refl _ _)

set_option maxRecDepth 100000 in
set_option maxHeartbeats 1000000 in
theorem h2_32 (bx : Nat) (a5 a6 a7 : Value) (K : Act → World → Prop) (Q : Exit → Act → World → Prop) (W : World) (x0 x1 x2 x3 x4 x5 x6 x7 x8 x9 x10 x11 x12 x13 x14 x15 x16 x17 x18 x19 x20 x21 x22 x23 x24 x25 x26 x27 x28 x29 x30 x31 x32 : Value) (q31 : (hdFs2 31).holds x31 W)
    (hK : ∀ v w', (hdFs2 32).holds v w' → Below W.heap.size W w' → K { tmps := #[.bool false, .pointer (some ⟨bx, 0, none⟩), v, undef, undef, a5, a6, a7, x0, x1, x2, x3, x4, x5, x6, x7, x8, x9, x10, x11, x12, x13, x14, x15, x16, x17, x18, x19, x20, x21, x22, x23, x24, x25, x26, x27, x28, x29, x30, x31, undef, undef, undef, undef, undef, undef, undef, undef, undef, undef, undef, undef, undef, undef, undef, undef, undef, undef, undef, undef, undef, undef, undef, undef, undef, undef, undef, undef, undef, undef, undef, undef, undef, undef, undef, undef, undef, undef, undef, undef, undef, undef, undef, undef, undef, undef, undef, undef, undef, undef, undef, undef, undef, undef, undef, undef, undef, undef, undef, undef, undef, undef, undef, undef, undef, undef, undef, undef, undef, undef, undef, undef, undef, undef, undef], defers := [] } w') :
    wpOp Try.prog (opsAt Try.f10 2) Q 32 K { tmps := #[.bool false, .pointer (some ⟨bx, 0, none⟩), x32, undef, undef, a5, a6, a7, x0, x1, x2, x3, x4, x5, x6, x7, x8, x9, x10, x11, x12, x13, x14, x15, x16, x17, x18, x19, x20, x21, x22, x23, x24, x25, x26, x27, x28, x29, x30, x31, undef, undef, undef, undef, undef, undef, undef, undef, undef, undef, undef, undef, undef, undef, undef, undef, undef, undef, undef, undef, undef, undef, undef, undef, undef, undef, undef, undef, undef, undef, undef, undef, undef, undef, undef, undef, undef, undef, undef, undef, undef, undef, undef, undef, undef, undef, undef, undef, undef, undef, undef, undef, undef, undef, undef, undef, undef, undef, undef, undef, undef, undef, undef, undef, undef, undef, undef, undef, undef, undef, undef, undef, undef, undef, undef], defers := [] } W := by
  obtain rfl : x31 = .bool true := q31
  unfold opsAt Try.f10
  simp only [findRegion, Nat.reduceBEq, if_true, if_false, Bool.false_eq_true, Option.getD_some]
  refine wpOp_of_list' rfl ?_
  go_wp2_with fail
  exact hK _ _ rfl (Below.refl _ _)

end Go.Proofs.Ytcbddplgleeiiaa
