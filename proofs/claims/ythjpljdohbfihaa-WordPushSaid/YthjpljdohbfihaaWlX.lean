/-
  The last region of the law WordPush, where pushing the second list goes and pushing both does not.
-/
import Derived.Test.YthjpljdohbfihaaWlM
import Derived.Test.YthjpljdohbfihaaFactsG
namespace Go.Proofs.Ythjpljdohbfihaa
open Go.RowKit

theorem refequal_self {s l : List Int} : lasEqB s l s l = true := by unfold lasEqB; simp

def puFr9 (bq g : Nat) (a : List Int) (oa : Option Addr) (ca : Nat) (y1 y2 y3 y4 y5 y8 y11 y12 y13 y14 y15 y16 y17 y18 y19 y20 y21 y22 y23 y24 y25 y26 y27 y28 y29 y30 y31 y32 y33 y34 y35 y36 y37 y38 y39 y40 y41 y42 y43 y44 y45 y46 y47 y48 y49 y50 y51 y52 y53 y54 y55 y56 y57 y58 y59 y60 : Value) (x : Nat → Value) : Act := { tmps := #[.slice oa a.length ca, y1, y2, y3, y4, y5, x 26, .bool true, y8, .pointer (some ⟨bq, 0, none⟩), .pointer (some ⟨g, 0, none⟩), y11, y12, y13, y14, y15, y16, y17, y18, y19, y20, y21, y22, y23, y24, y25, y26, y27, y28, y29, y30, y31, y32, y33, y34, y35, y36, y37, y38, y39, y40, y41, y42, y43, y44, y45, y46, y47, y48, y49, y50, y51, y52, y53, y54, y55, y56, y57, y58, y59, y60, x 0, x 1, x 2, x 3, x 4, x 5, x 6, x 7, x 8, x 9, x 10, x 11, x 12, x 13, x 14, x 15, x 16, x 17, x 18, x 19, x 20, x 21, x 22, x 23, x 24, x 25], defers := [] }

def puG9 (bq g : Nat) (a Q1 Q2 R1 : List Int) (oa p7 p6 p9 p8 : Option Addr) (ca e7 e6 e9 e8 : Nat) (i : Nat) (v : Value) (w : World) : Prop := match i with
  | 0 => v = .bool true
  | 1 => v = .bool true
  | 2 => v = .pointer (some ⟨bq, 1, none⟩)
  | 3 => v = .slice p6 Q2.length e6
  | 4 => v = .int .i64 Q2.length
  | 5 => v = .bool false
  | 6 => v = .bool false
  | 7 => v = .slice oa a.length ca
  | 8 => v = .agg #[.slice p7 Q1.length e7, .slice p6 Q2.length e6]
  | 9 => LasAt w.heap.size w v R1 []
  | 10 => v = .agg #[.slice p9 R1.length e9, .slice p8 0 e8]
  | 11 => v = .bool true
  | 12 => v = .bool true
  | 13 => v = .bool true
  | 14 => v = .bool true
  | 15 => v = .pointer (some ⟨g, 1, none⟩)
  | 16 => v = .slice p8 0 e8
  | 17 => v = .int .i64 0
  | 18 => v = .bool true
  | 19 => v = .bool true
  | 24 => v = .bool true
  | 25 => v = .bool true
  | 26 => v = .bool true
  | _ => True

set_option maxRecDepth 100000 in
set_option maxHeartbeats 1000000 in
theorem p9_0 (W : World) (bq g : Nat) (a : List Int) (oa : Option Addr) (ca : Nat) (y1 y2 y3 y4 y5 y8 y11 y12 y13 y14 y15 y16 y17 y18 y19 y20 y21 y22 y23 y24 y25 y26 y27 y28 y29 y30 y31 y32 y33 y34 y35 y36 y37 y38 y39 y40 y41 y42 y43 y44 y45 y46 y47 y48 y49 y50 y51 y52 y53 y54 y55 y56 y57 y58 y59 y60 : Value) (x0 x1 x2 x3 x4 x5 x6 x7 x8 x9 x10 x11 x12 x13 x14 x15 x16 x17 x18 x19 x20 x21 x22 x23 x24 x25 x26 : Value) (K : Act → World → Prop) (Q : Exit → Act → World → Prop) 
    (hK : K { tmps := #[.slice oa a.length ca, y1, y2, y3, y4, y5, x26, .bool true, y8, .pointer (some ⟨bq, 0, none⟩), .pointer (some ⟨g, 0, none⟩), y11, y12, y13, y14, y15, y16, y17, y18, y19, y20, y21, y22, y23, y24, y25, y26, y27, y28, y29, y30, y31, y32, y33, y34, y35, y36, y37, y38, y39, y40, y41, y42, y43, y44, y45, y46, y47, y48, y49, y50, y51, y52, y53, y54, y55, y56, y57, y58, y59, y60, .bool true, x1, x2, x3, x4, x5, x6, x7, x8, x9, x10, x11, x12, x13, x14, x15, x16, x17, x18, x19, x20, x21, x22, x23, x24, x25], defers := [] } W) :
    wpOp Try.prog (opsAt Try.f8 9) Q 0 K { tmps := #[.slice oa a.length ca, y1, y2, y3, y4, y5, x26, .bool true, y8, .pointer (some ⟨bq, 0, none⟩), .pointer (some ⟨g, 0, none⟩), y11, y12, y13, y14, y15, y16, y17, y18, y19, y20, y21, y22, y23, y24, y25, y26, y27, y28, y29, y30, y31, y32, y33, y34, y35, y36, y37, y38, y39, y40, y41, y42, y43, y44, y45, y46, y47, y48, y49, y50, y51, y52, y53, y54, y55, y56, y57, y58, y59, y60, x0, x1, x2, x3, x4, x5, x6, x7, x8, x9, x10, x11, x12, x13, x14, x15, x16, x17, x18, x19, x20, x21, x22, x23, x24, x25], defers := [] } W := by
  unfold opsAt Try.f8
  simp only [findRegion, Nat.reduceBEq, if_true, if_false, Bool.false_eq_true, Option.getD_some]
  refine wpOp_of_list' rfl ?_
  go_wp2_with fail
  exact hK

set_option maxRecDepth 100000 in
set_option maxHeartbeats 1000000 in
theorem p9_1 (W : World) (bq g : Nat) (a : List Int) (oa : Option Addr) (ca : Nat) (y1 y2 y3 y4 y5 y8 y11 y12 y13 y14 y15 y16 y17 y18 y19 y20 y21 y22 y23 y24 y25 y26 y27 y28 y29 y30 y31 y32 y33 y34 y35 y36 y37 y38 y39 y40 y41 y42 y43 y44 y45 y46 y47 y48 y49 y50 y51 y52 y53 y54 y55 y56 y57 y58 y59 y60 : Value) (x0 x1 x2 x3 x4 x5 x6 x7 x8 x9 x10 x11 x12 x13 x14 x15 x16 x17 x18 x19 x20 x21 x22 x23 x24 x25 x26 : Value) (K : Act → World → Prop) (Q : Exit → Act → World → Prop) (q0 : x0 = .bool true)
    (hK : K { tmps := #[.slice oa a.length ca, y1, y2, y3, y4, y5, x26, .bool true, y8, .pointer (some ⟨bq, 0, none⟩), .pointer (some ⟨g, 0, none⟩), y11, y12, y13, y14, y15, y16, y17, y18, y19, y20, y21, y22, y23, y24, y25, y26, y27, y28, y29, y30, y31, y32, y33, y34, y35, y36, y37, y38, y39, y40, y41, y42, y43, y44, y45, y46, y47, y48, y49, y50, y51, y52, y53, y54, y55, y56, y57, y58, y59, y60, x0, .bool true, x2, x3, x4, x5, x6, x7, x8, x9, x10, x11, x12, x13, x14, x15, x16, x17, x18, x19, x20, x21, x22, x23, x24, x25], defers := [] } W) :
    wpOp Try.prog (opsAt Try.f8 9) Q 1 K { tmps := #[.slice oa a.length ca, y1, y2, y3, y4, y5, x26, .bool true, y8, .pointer (some ⟨bq, 0, none⟩), .pointer (some ⟨g, 0, none⟩), y11, y12, y13, y14, y15, y16, y17, y18, y19, y20, y21, y22, y23, y24, y25, y26, y27, y28, y29, y30, y31, y32, y33, y34, y35, y36, y37, y38, y39, y40, y41, y42, y43, y44, y45, y46, y47, y48, y49, y50, y51, y52, y53, y54, y55, y56, y57, y58, y59, y60, x0, x1, x2, x3, x4, x5, x6, x7, x8, x9, x10, x11, x12, x13, x14, x15, x16, x17, x18, x19, x20, x21, x22, x23, x24, x25], defers := [] } W := by
  subst q0
  unfold opsAt Try.f8
  simp only [findRegion, Nat.reduceBEq, if_true, if_false, Bool.false_eq_true, Option.getD_some]
  refine wpOp_of_list' rfl ?_
  go_wp2_with fail
  exact hK

set_option maxRecDepth 100000 in
set_option maxHeartbeats 1000000 in
theorem p9_2 (W : World) (bq g : Nat) (a : List Int) (oa : Option Addr) (ca : Nat) (y1 y2 y3 y4 y5 y8 y11 y12 y13 y14 y15 y16 y17 y18 y19 y20 y21 y22 y23 y24 y25 y26 y27 y28 y29 y30 y31 y32 y33 y34 y35 y36 y37 y38 y39 y40 y41 y42 y43 y44 y45 y46 y47 y48 y49 y50 y51 y52 y53 y54 y55 y56 y57 y58 y59 y60 : Value) (x0 x1 x2 x3 x4 x5 x6 x7 x8 x9 x10 x11 x12 x13 x14 x15 x16 x17 x18 x19 x20 x21 x22 x23 x24 x25 x26 : Value) (K : Act → World → Prop) (Q : Exit → Act → World → Prop) (q1 : x1 = .bool true)
    (hK : K { tmps := #[.slice oa a.length ca, y1, y2, y3, y4, y5, x26, .bool true, y8, .pointer (some ⟨bq, 0, none⟩), .pointer (some ⟨g, 0, none⟩), y11, y12, y13, y14, y15, y16, y17, y18, y19, y20, y21, y22, y23, y24, y25, y26, y27, y28, y29, y30, y31, y32, y33, y34, y35, y36, y37, y38, y39, y40, y41, y42, y43, y44, y45, y46, y47, y48, y49, y50, y51, y52, y53, y54, y55, y56, y57, y58, y59, y60, x0, x1, .pointer (some ⟨bq, 1, none⟩), x3, x4, x5, x6, x7, x8, x9, x10, x11, x12, x13, x14, x15, x16, x17, x18, x19, x20, x21, x22, x23, x24, x25], defers := [] } W) :
    wpOp Try.prog (opsAt Try.f8 9) Q 2 K { tmps := #[.slice oa a.length ca, y1, y2, y3, y4, y5, x26, .bool true, y8, .pointer (some ⟨bq, 0, none⟩), .pointer (some ⟨g, 0, none⟩), y11, y12, y13, y14, y15, y16, y17, y18, y19, y20, y21, y22, y23, y24, y25, y26, y27, y28, y29, y30, y31, y32, y33, y34, y35, y36, y37, y38, y39, y40, y41, y42, y43, y44, y45, y46, y47, y48, y49, y50, y51, y52, y53, y54, y55, y56, y57, y58, y59, y60, x0, x1, x2, x3, x4, x5, x6, x7, x8, x9, x10, x11, x12, x13, x14, x15, x16, x17, x18, x19, x20, x21, x22, x23, x24, x25], defers := [] } W := by
  subst q1
  unfold opsAt Try.f8
  simp only [findRegion, Nat.reduceBEq, if_true, if_false, Bool.false_eq_true, Option.getD_some]
  refine wpOp_of_list' rfl ?_
  go_wp2_with fail
  exact hK

set_option maxRecDepth 100000 in
set_option maxHeartbeats 1000000 in
theorem p9_3 (W : World) (bq g : Nat) (a Q2 : List Int) (oa p6 : Option Addr) (ca e6 : Nat) (y1 y2 y3 y4 y5 y8 y11 y12 y13 y14 y15 y16 y17 y18 y19 y20 y21 y22 y23 y24 y25 y26 y27 y28 y29 y30 y31 y32 y33 y34 y35 y36 y37 y38 y39 y40 y41 y42 y43 y44 y45 y46 y47 y48 y49 y50 y51 y52 y53 y54 y55 y56 y57 y58 y59 y60 : Value) (x0 x1 x2 x3 x4 x5 x6 x7 x8 x9 x10 x11 x12 x13 x14 x15 x16 x17 x18 x19 x20 x21 x22 x23 x24 x25 x26 : Value) (K : Act → World → Prop) (Q : Exit → Act → World → Prop) (q2 : x2 = .pointer (some ⟨bq, 1, none⟩)) (q1 : x1 = .bool true) (k1 : W.cell? ⟨bq, 1, none⟩ = some (.slice p6 Q2.length e6))
    (hK : K { tmps := #[.slice oa a.length ca, y1, y2, y3, y4, y5, x26, .bool true, y8, .pointer (some ⟨bq, 0, none⟩), .pointer (some ⟨g, 0, none⟩), y11, y12, y13, y14, y15, y16, y17, y18, y19, y20, y21, y22, y23, y24, y25, y26, y27, y28, y29, y30, y31, y32, y33, y34, y35, y36, y37, y38, y39, y40, y41, y42, y43, y44, y45, y46, y47, y48, y49, y50, y51, y52, y53, y54, y55, y56, y57, y58, y59, y60, x0, x1, x2, .slice p6 Q2.length e6, x4, x5, x6, x7, x8, x9, x10, x11, x12, x13, x14, x15, x16, x17, x18, x19, x20, x21, x22, x23, x24, x25], defers := [] } W) :
    wpOp Try.prog (opsAt Try.f8 9) Q 3 K { tmps := #[.slice oa a.length ca, y1, y2, y3, y4, y5, x26, .bool true, y8, .pointer (some ⟨bq, 0, none⟩), .pointer (some ⟨g, 0, none⟩), y11, y12, y13, y14, y15, y16, y17, y18, y19, y20, y21, y22, y23, y24, y25, y26, y27, y28, y29, y30, y31, y32, y33, y34, y35, y36, y37, y38, y39, y40, y41, y42, y43, y44, y45, y46, y47, y48, y49, y50, y51, y52, y53, y54, y55, y56, y57, y58, y59, y60, x0, x1, x2, x3, x4, x5, x6, x7, x8, x9, x10, x11, x12, x13, x14, x15, x16, x17, x18, x19, x20, x21, x22, x23, x24, x25], defers := [] } W := by
  subst q2
  subst q1
  unfold opsAt Try.f8
  simp only [findRegion, Nat.reduceBEq, if_true, if_false, Bool.false_eq_true, Option.getD_some]
  refine wpOp_of_list' rfl ?_
  go_wp2_with fail
  exact hK

set_option maxRecDepth 100000 in
set_option maxHeartbeats 1000000 in
theorem p9_4 (W : World) (bq g : Nat) (a Q2 : List Int) (oa p6 : Option Addr) (ca e6 : Nat) (y1 y2 y3 y4 y5 y8 y11 y12 y13 y14 y15 y16 y17 y18 y19 y20 y21 y22 y23 y24 y25 y26 y27 y28 y29 y30 y31 y32 y33 y34 y35 y36 y37 y38 y39 y40 y41 y42 y43 y44 y45 y46 y47 y48 y49 y50 y51 y52 y53 y54 y55 y56 y57 y58 y59 y60 : Value) (x0 x1 x2 x3 x4 x5 x6 x7 x8 x9 x10 x11 x12 x13 x14 x15 x16 x17 x18 x19 x20 x21 x22 x23 x24 x25 x26 : Value) (K : Act → World → Prop) (Q : Exit → Act → World → Prop) (q3 : x3 = .slice p6 Q2.length e6) (q1 : x1 = .bool true)
    (hK : K { tmps := #[.slice oa a.length ca, y1, y2, y3, y4, y5, x26, .bool true, y8, .pointer (some ⟨bq, 0, none⟩), .pointer (some ⟨g, 0, none⟩), y11, y12, y13, y14, y15, y16, y17, y18, y19, y20, y21, y22, y23, y24, y25, y26, y27, y28, y29, y30, y31, y32, y33, y34, y35, y36, y37, y38, y39, y40, y41, y42, y43, y44, y45, y46, y47, y48, y49, y50, y51, y52, y53, y54, y55, y56, y57, y58, y59, y60, x0, x1, x2, x3, .int .i64 Q2.length, x5, x6, x7, x8, x9, x10, x11, x12, x13, x14, x15, x16, x17, x18, x19, x20, x21, x22, x23, x24, x25], defers := [] } W) :
    wpOp Try.prog (opsAt Try.f8 9) Q 4 K { tmps := #[.slice oa a.length ca, y1, y2, y3, y4, y5, x26, .bool true, y8, .pointer (some ⟨bq, 0, none⟩), .pointer (some ⟨g, 0, none⟩), y11, y12, y13, y14, y15, y16, y17, y18, y19, y20, y21, y22, y23, y24, y25, y26, y27, y28, y29, y30, y31, y32, y33, y34, y35, y36, y37, y38, y39, y40, y41, y42, y43, y44, y45, y46, y47, y48, y49, y50, y51, y52, y53, y54, y55, y56, y57, y58, y59, y60, x0, x1, x2, x3, x4, x5, x6, x7, x8, x9, x10, x11, x12, x13, x14, x15, x16, x17, x18, x19, x20, x21, x22, x23, x24, x25], defers := [] } W := by
  subst q3
  subst q1
  unfold opsAt Try.f8
  simp only [findRegion, Nat.reduceBEq, if_true, if_false, Bool.false_eq_true, Option.getD_some]
  refine wpOp_of_list' rfl ?_
  go_wp2_with fail
  exact hK

set_option maxRecDepth 100000 in
set_option maxHeartbeats 1000000 in
theorem p9_5 (W : World) (bq g : Nat) (a Q2 : List Int) (oa : Option Addr) (ca : Nat) (y1 y2 y3 y4 y5 y8 y11 y12 y13 y14 y15 y16 y17 y18 y19 y20 y21 y22 y23 y24 y25 y26 y27 y28 y29 y30 y31 y32 y33 y34 y35 y36 y37 y38 y39 y40 y41 y42 y43 y44 y45 y46 y47 y48 y49 y50 y51 y52 y53 y54 y55 y56 y57 y58 y59 y60 : Value) (x0 x1 x2 x3 x4 x5 x6 x7 x8 x9 x10 x11 x12 x13 x14 x15 x16 x17 x18 x19 x20 x21 x22 x23 x24 x25 x26 : Value) (K : Act → World → Prop) (Q : Exit → Act → World → Prop) (q4 : x4 = .int .i64 Q2.length) (q1 : x1 = .bool true) (i5 : ((Q2.length : Int) == 0) = false)
    (hK : K { tmps := #[.slice oa a.length ca, y1, y2, y3, y4, y5, x26, .bool true, y8, .pointer (some ⟨bq, 0, none⟩), .pointer (some ⟨g, 0, none⟩), y11, y12, y13, y14, y15, y16, y17, y18, y19, y20, y21, y22, y23, y24, y25, y26, y27, y28, y29, y30, y31, y32, y33, y34, y35, y36, y37, y38, y39, y40, y41, y42, y43, y44, y45, y46, y47, y48, y49, y50, y51, y52, y53, y54, y55, y56, y57, y58, y59, y60, x0, x1, x2, x3, x4, .bool false, x6, x7, x8, x9, x10, x11, x12, x13, x14, x15, x16, x17, x18, x19, x20, x21, x22, x23, x24, x25], defers := [] } W) :
    wpOp Try.prog (opsAt Try.f8 9) Q 5 K { tmps := #[.slice oa a.length ca, y1, y2, y3, y4, y5, x26, .bool true, y8, .pointer (some ⟨bq, 0, none⟩), .pointer (some ⟨g, 0, none⟩), y11, y12, y13, y14, y15, y16, y17, y18, y19, y20, y21, y22, y23, y24, y25, y26, y27, y28, y29, y30, y31, y32, y33, y34, y35, y36, y37, y38, y39, y40, y41, y42, y43, y44, y45, y46, y47, y48, y49, y50, y51, y52, y53, y54, y55, y56, y57, y58, y59, y60, x0, x1, x2, x3, x4, x5, x6, x7, x8, x9, x10, x11, x12, x13, x14, x15, x16, x17, x18, x19, x20, x21, x22, x23, x24, x25], defers := [] } W := by
  subst q4
  subst q1
  unfold opsAt Try.f8
  simp only [findRegion, Nat.reduceBEq, if_true, if_false, Bool.false_eq_true, Option.getD_some]
  refine wpOp_of_list' rfl ?_
  go_wp2_with fail
  exact hK

set_option maxRecDepth 100000 in
set_option maxHeartbeats 1000000 in
theorem p9_6 (W : World) (bq g : Nat) (a : List Int) (oa : Option Addr) (ca : Nat) (y1 y2 y3 y4 y5 y8 y11 y12 y13 y14 y15 y16 y17 y18 y19 y20 y21 y22 y23 y24 y25 y26 y27 y28 y29 y30 y31 y32 y33 y34 y35 y36 y37 y38 y39 y40 y41 y42 y43 y44 y45 y46 y47 y48 y49 y50 y51 y52 y53 y54 y55 y56 y57 y58 y59 y60 : Value) (x0 x1 x2 x3 x4 x5 x6 x7 x8 x9 x10 x11 x12 x13 x14 x15 x16 x17 x18 x19 x20 x21 x22 x23 x24 x25 x26 : Value) (K : Act → World → Prop) (Q : Exit → Act → World → Prop) (q5 : x5 = .bool false) (q1 : x1 = .bool true)
    (hK : K { tmps := #[.slice oa a.length ca, y1, y2, y3, y4, y5, x26, .bool true, y8, .pointer (some ⟨bq, 0, none⟩), .pointer (some ⟨g, 0, none⟩), y11, y12, y13, y14, y15, y16, y17, y18, y19, y20, y21, y22, y23, y24, y25, y26, y27, y28, y29, y30, y31, y32, y33, y34, y35, y36, y37, y38, y39, y40, y41, y42, y43, y44, y45, y46, y47, y48, y49, y50, y51, y52, y53, y54, y55, y56, y57, y58, y59, y60, x0, x1, x2, x3, x4, x5, .bool false, x7, x8, x9, x10, x11, x12, x13, x14, x15, x16, x17, x18, x19, x20, x21, x22, x23, x24, x25], defers := [] } W) :
    wpOp Try.prog (opsAt Try.f8 9) Q 6 K { tmps := #[.slice oa a.length ca, y1, y2, y3, y4, y5, x26, .bool true, y8, .pointer (some ⟨bq, 0, none⟩), .pointer (some ⟨g, 0, none⟩), y11, y12, y13, y14, y15, y16, y17, y18, y19, y20, y21, y22, y23, y24, y25, y26, y27, y28, y29, y30, y31, y32, y33, y34, y35, y36, y37, y38, y39, y40, y41, y42, y43, y44, y45, y46, y47, y48, y49, y50, y51, y52, y53, y54, y55, y56, y57, y58, y59, y60, x0, x1, x2, x3, x4, x5, x6, x7, x8, x9, x10, x11, x12, x13, x14, x15, x16, x17, x18, x19, x20, x21, x22, x23, x24, x25], defers := [] } W := by
  subst q5
  subst q1
  unfold opsAt Try.f8
  simp only [findRegion, Nat.reduceBEq, if_true, if_false, Bool.false_eq_true, Option.getD_some]
  refine wpOp_of_list' rfl ?_
  go_wp2_with fail
  exact hK

set_option maxRecDepth 100000 in
set_option maxHeartbeats 1000000 in
theorem p9_7 (W : World) (bq g : Nat) (a : List Int) (oa : Option Addr) (ca : Nat) (y1 y2 y3 y4 y5 y8 y11 y12 y13 y14 y15 y16 y17 y18 y19 y20 y21 y22 y23 y24 y25 y26 y27 y28 y29 y30 y31 y32 y33 y34 y35 y36 y37 y38 y39 y40 y41 y42 y43 y44 y45 y46 y47 y48 y49 y50 y51 y52 y53 y54 y55 y56 y57 y58 y59 y60 : Value) (x0 x1 x2 x3 x4 x5 x6 x7 x8 x9 x10 x11 x12 x13 x14 x15 x16 x17 x18 x19 x20 x21 x22 x23 x24 x25 x26 : Value) (K : Act → World → Prop) (Q : Exit → Act → World → Prop) (q6 : x6 = .bool false)
    (hK : K { tmps := #[.slice oa a.length ca, y1, y2, y3, y4, y5, x26, .bool true, y8, .pointer (some ⟨bq, 0, none⟩), .pointer (some ⟨g, 0, none⟩), y11, y12, y13, y14, y15, y16, y17, y18, y19, y20, y21, y22, y23, y24, y25, y26, y27, y28, y29, y30, y31, y32, y33, y34, y35, y36, y37, y38, y39, y40, y41, y42, y43, y44, y45, y46, y47, y48, y49, y50, y51, y52, y53, y54, y55, y56, y57, y58, y59, y60, x0, x1, x2, x3, x4, x5, x6, .slice oa a.length ca, x8, x9, x10, x11, x12, x13, x14, x15, x16, x17, x18, x19, x20, x21, x22, x23, x24, x25], defers := [] } W) :
    wpOp Try.prog (opsAt Try.f8 9) Q 7 K { tmps := #[.slice oa a.length ca, y1, y2, y3, y4, y5, x26, .bool true, y8, .pointer (some ⟨bq, 0, none⟩), .pointer (some ⟨g, 0, none⟩), y11, y12, y13, y14, y15, y16, y17, y18, y19, y20, y21, y22, y23, y24, y25, y26, y27, y28, y29, y30, y31, y32, y33, y34, y35, y36, y37, y38, y39, y40, y41, y42, y43, y44, y45, y46, y47, y48, y49, y50, y51, y52, y53, y54, y55, y56, y57, y58, y59, y60, x0, x1, x2, x3, x4, x5, x6, x7, x8, x9, x10, x11, x12, x13, x14, x15, x16, x17, x18, x19, x20, x21, x22, x23, x24, x25], defers := [] } W := by
  subst q6
  unfold opsAt Try.f8
  simp only [findRegion, Nat.reduceBEq, if_true, if_false, Bool.false_eq_true, Option.getD_some]
  refine wpOp_of_list' rfl ?_
  go_wp2_with fail
  exact hK

set_option maxRecDepth 100000 in
set_option maxHeartbeats 1000000 in
theorem p9_8 (W : World) (bq g : Nat) (a Q1 Q2 : List Int) (oa p7 p6 : Option Addr) (ca e7 e6 : Nat) (y1 y2 y3 y4 y5 y8 y11 y12 y13 y14 y15 y16 y17 y18 y19 y20 y21 y22 y23 y24 y25 y26 y27 y28 y29 y30 y31 y32 y33 y34 y35 y36 y37 y38 y39 y40 y41 y42 y43 y44 y45 y46 y47 y48 y49 y50 y51 y52 y53 y54 y55 y56 y57 y58 y59 y60 : Value) (x0 x1 x2 x3 x4 x5 x6 x7 x8 x9 x10 x11 x12 x13 x14 x15 x16 x17 x18 x19 x20 x21 x22 x23 x24 x25 x26 : Value) (K : Act → World → Prop) (Q : Exit → Act → World → Prop) (q6 : x6 = .bool false) (k0 : W.cell? ⟨bq, 0, none⟩ = some (.slice p7 Q1.length e7)) (k1 : W.cell? ⟨bq, 1, none⟩ = some (.slice p6 Q2.length e6))
    (hK : K { tmps := #[.slice oa a.length ca, y1, y2, y3, y4, y5, x26, .bool true, y8, .pointer (some ⟨bq, 0, none⟩), .pointer (some ⟨g, 0, none⟩), y11, y12, y13, y14, y15, y16, y17, y18, y19, y20, y21, y22, y23, y24, y25, y26, y27, y28, y29, y30, y31, y32, y33, y34, y35, y36, y37, y38, y39, y40, y41, y42, y43, y44, y45, y46, y47, y48, y49, y50, y51, y52, y53, y54, y55, y56, y57, y58, y59, y60, x0, x1, x2, x3, x4, x5, x6, x7, .agg #[.slice p7 Q1.length e7, .slice p6 Q2.length e6], x9, x10, x11, x12, x13, x14, x15, x16, x17, x18, x19, x20, x21, x22, x23, x24, x25], defers := [] } W) :
    wpOp Try.prog (opsAt Try.f8 9) Q 8 K { tmps := #[.slice oa a.length ca, y1, y2, y3, y4, y5, x26, .bool true, y8, .pointer (some ⟨bq, 0, none⟩), .pointer (some ⟨g, 0, none⟩), y11, y12, y13, y14, y15, y16, y17, y18, y19, y20, y21, y22, y23, y24, y25, y26, y27, y28, y29, y30, y31, y32, y33, y34, y35, y36, y37, y38, y39, y40, y41, y42, y43, y44, y45, y46, y47, y48, y49, y50, y51, y52, y53, y54, y55, y56, y57, y58, y59, y60, x0, x1, x2, x3, x4, x5, x6, x7, x8, x9, x10, x11, x12, x13, x14, x15, x16, x17, x18, x19, x20, x21, x22, x23, x24, x25], defers := [] } W := by
  subst q6
  unfold opsAt Try.f8
  simp only [findRegion, Nat.reduceBEq, if_true, if_false, Bool.false_eq_true, Option.getD_some]
  refine wpOp_of_list' rfl ?_
  go_wp2_with fail
  exact hK

set_option maxRecDepth 100000 in
set_option maxHeartbeats 1000000 in
theorem p9_9 (W : World) (bq g : Nat) (a Q1 Q2 R1 : List Int) (oa p7 p6 : Option Addr) (ca e7 e6 : Nat) (y1 y2 y3 y4 y5 y8 y11 y12 y13 y14 y15 y16 y17 y18 y19 y20 y21 y22 y23 y24 y25 y26 y27 y28 y29 y30 y31 y32 y33 y34 y35 y36 y37 y38 y39 y40 y41 y42 y43 y44 y45 y46 y47 y48 y49 y50 y51 y52 y53 y54 y55 y56 y57 y58 y59 y60 : Value) (x0 x1 x2 x3 x4 x5 x6 x7 x8 x9 x10 x11 x12 x13 x14 x15 x16 x17 x18 x19 x20 x21 x22 x23 x24 x25 x26 : Value) (K : Act → World → Prop) (Q : Exit → Act → World → Prop) (q7 : x7 = .slice oa a.length ca) (q8 : x8 = .agg #[.slice p7 Q1.length e7, .slice p6 Q2.length e6]) (q6 : x6 = .bool false) (kA : IntsAt W.heap.size W (.slice oa a.length ca) a) (kY : LasAt W.heap.size W (.agg #[.slice p7 Q1.length e7, .slice p6 Q2.length e6]) Q1 Q2) (ha : a.length ≤ 80) (h1 : (pushL a Q1 Q2).1 = R1) (h2 : (pushL a Q1 Q2).2 = [])
    (hK : ∀ v w', LasAt w'.heap.size w' v R1 [] → Below W.heap.size W w' → K { tmps := #[.slice oa a.length ca, y1, y2, y3, y4, y5, x26, .bool true, y8, .pointer (some ⟨bq, 0, none⟩), .pointer (some ⟨g, 0, none⟩), y11, y12, y13, y14, y15, y16, y17, y18, y19, y20, y21, y22, y23, y24, y25, y26, y27, y28, y29, y30, y31, y32, y33, y34, y35, y36, y37, y38, y39, y40, y41, y42, y43, y44, y45, y46, y47, y48, y49, y50, y51, y52, y53, y54, y55, y56, y57, y58, y59, y60, x0, x1, x2, x3, x4, x5, x6, x7, x8, v, x10, x11, x12, x13, x14, x15, x16, x17, x18, x19, x20, x21, x22, x23, x24, x25], defers := [] } w') :
    wpOp Try.prog (opsAt Try.f8 9) Q 9 K { tmps := #[.slice oa a.length ca, y1, y2, y3, y4, y5, x26, .bool true, y8, .pointer (some ⟨bq, 0, none⟩), .pointer (some ⟨g, 0, none⟩), y11, y12, y13, y14, y15, y16, y17, y18, y19, y20, y21, y22, y23, y24, y25, y26, y27, y28, y29, y30, y31, y32, y33, y34, y35, y36, y37, y38, y39, y40, y41, y42, y43, y44, y45, y46, y47, y48, y49, y50, y51, y52, y53, y54, y55, y56, y57, y58, y59, y60, x0, x1, x2, x3, x4, x5, x6, x7, x8, x9, x10, x11, x12, x13, x14, x15, x16, x17, x18, x19, x20, x21, x22, x23, x24, x25], defers := [] } W := by
  subst q7
  subst q8
  subst q6
  unfold opsAt Try.f8
  simp only [findRegion, Nat.reduceBEq, if_true, if_false, Bool.false_eq_true, Option.getD_some]
  refine wpOp_of_list' rfl ?_
  go_wp2_with (go_at_call 26; refine (push_any W.heap.size (.slice oa a.length ca) _ a Q1 Q2 _ kA kY (Nat.le_refl _) (by omega)).mono ?_; rintro e w8 ⟨r8, rfl, hN8, hb8⟩; rw [h1, h2] at hN8)
  exact hK _ _ hN8.las hb8

set_option maxRecDepth 100000 in
set_option maxHeartbeats 1000000 in
theorem p9_10 (W : World) (bq g : Nat) (a R1 : List Int) (oa p9 p8 : Option Addr) (ca e9 e8 : Nat) (y1 y2 y3 y4 y5 y8 y11 y12 y13 y14 y15 y16 y17 y18 y19 y20 y21 y22 y23 y24 y25 y26 y27 y28 y29 y30 y31 y32 y33 y34 y35 y36 y37 y38 y39 y40 y41 y42 y43 y44 y45 y46 y47 y48 y49 y50 y51 y52 y53 y54 y55 y56 y57 y58 y59 y60 : Value) (x0 x1 x2 x3 x4 x5 x6 x7 x8 x9 x10 x11 x12 x13 x14 x15 x16 x17 x18 x19 x20 x21 x22 x23 x24 x25 x26 : Value) (K : Act → World → Prop) (Q : Exit → Act → World → Prop) (q6 : x6 = .bool false) (k0 : W.cell? ⟨g, 0, none⟩ = some (.slice p9 R1.length e9)) (k1 : W.cell? ⟨g, 1, none⟩ = some (.slice p8 0 e8))
    (hK : K { tmps := #[.slice oa a.length ca, y1, y2, y3, y4, y5, x26, .bool true, y8, .pointer (some ⟨bq, 0, none⟩), .pointer (some ⟨g, 0, none⟩), y11, y12, y13, y14, y15, y16, y17, y18, y19, y20, y21, y22, y23, y24, y25, y26, y27, y28, y29, y30, y31, y32, y33, y34, y35, y36, y37, y38, y39, y40, y41, y42, y43, y44, y45, y46, y47, y48, y49, y50, y51, y52, y53, y54, y55, y56, y57, y58, y59, y60, x0, x1, x2, x3, x4, x5, x6, x7, x8, x9, .agg #[.slice p9 R1.length e9, .slice p8 0 e8], x11, x12, x13, x14, x15, x16, x17, x18, x19, x20, x21, x22, x23, x24, x25], defers := [] } W) :
    wpOp Try.prog (opsAt Try.f8 9) Q 10 K { tmps := #[.slice oa a.length ca, y1, y2, y3, y4, y5, x26, .bool true, y8, .pointer (some ⟨bq, 0, none⟩), .pointer (some ⟨g, 0, none⟩), y11, y12, y13, y14, y15, y16, y17, y18, y19, y20, y21, y22, y23, y24, y25, y26, y27, y28, y29, y30, y31, y32, y33, y34, y35, y36, y37, y38, y39, y40, y41, y42, y43, y44, y45, y46, y47, y48, y49, y50, y51, y52, y53, y54, y55, y56, y57, y58, y59, y60, x0, x1, x2, x3, x4, x5, x6, x7, x8, x9, x10, x11, x12, x13, x14, x15, x16, x17, x18, x19, x20, x21, x22, x23, x24, x25], defers := [] } W := by
  subst q6
  unfold opsAt Try.f8
  simp only [findRegion, Nat.reduceBEq, if_true, if_false, Bool.false_eq_true, Option.getD_some]
  refine wpOp_of_list' rfl ?_
  go_wp2_with fail
  exact hK

set_option maxRecDepth 100000 in
set_option maxHeartbeats 1000000 in
theorem p9_11 (W : World) (bq g : Nat) (a R1 : List Int) (oa p9 p8 : Option Addr) (ca e9 e8 : Nat) (y1 y2 y3 y4 y5 y8 y11 y12 y13 y14 y15 y16 y17 y18 y19 y20 y21 y22 y23 y24 y25 y26 y27 y28 y29 y30 y31 y32 y33 y34 y35 y36 y37 y38 y39 y40 y41 y42 y43 y44 y45 y46 y47 y48 y49 y50 y51 y52 y53 y54 y55 y56 y57 y58 y59 y60 : Value) (x0 x1 x2 x3 x4 x5 x6 x7 x8 x9 x10 x11 x12 x13 x14 x15 x16 x17 x18 x19 x20 x21 x22 x23 x24 x25 x26 : Value) (K : Act → World → Prop) (Q : Exit → Act → World → Prop) (q9 : LasAt W.heap.size W x9 R1 []) (q10 : x10 = .agg #[.slice p9 R1.length e9, .slice p8 0 e8]) (q6 : x6 = .bool false) (kB : LasAt W.heap.size W (.agg #[.slice p9 R1.length e9, .slice p8 0 e8]) R1 [])
    (hK : ∀ w', Below W.heap.size W w' → K { tmps := #[.slice oa a.length ca, y1, y2, y3, y4, y5, x26, .bool true, y8, .pointer (some ⟨bq, 0, none⟩), .pointer (some ⟨g, 0, none⟩), y11, y12, y13, y14, y15, y16, y17, y18, y19, y20, y21, y22, y23, y24, y25, y26, y27, y28, y29, y30, y31, y32, y33, y34, y35, y36, y37, y38, y39, y40, y41, y42, y43, y44, y45, y46, y47, y48, y49, y50, y51, y52, y53, y54, y55, y56, y57, y58, y59, y60, x0, x1, x2, x3, x4, x5, x6, x7, x8, x9, x10, .bool true, x12, x13, x14, x15, x16, x17, x18, x19, x20, x21, x22, x23, x24, x25], defers := [] } w') :
    wpOp Try.prog (opsAt Try.f8 9) Q 11 K { tmps := #[.slice oa a.length ca, y1, y2, y3, y4, y5, x26, .bool true, y8, .pointer (some ⟨bq, 0, none⟩), .pointer (some ⟨g, 0, none⟩), y11, y12, y13, y14, y15, y16, y17, y18, y19, y20, y21, y22, y23, y24, y25, y26, y27, y28, y29, y30, y31, y32, y33, y34, y35, y36, y37, y38, y39, y40, y41, y42, y43, y44, y45, y46, y47, y48, y49, y50, y51, y52, y53, y54, y55, y56, y57, y58, y59, y60, x0, x1, x2, x3, x4, x5, x6, x7, x8, x9, x10, x11, x12, x13, x14, x15, x16, x17, x18, x19, x20, x21, x22, x23, x24, x25], defers := [] } W := by
  subst q10
  subst q6
  unfold opsAt Try.f8
  simp only [findRegion, Nat.reduceBEq, if_true, if_false, Bool.false_eq_true, Option.getD_some]
  refine wpOp_of_list' rfl ?_
  go_wp2_with (go_at_call 19; refine (refequal_any W.heap.size x9 _ R1 [] R1 [] _ q9 kB (Nat.le_refl _)).mono ?_; rintro e w8 ⟨rfl, hb8⟩; rw [refequal_self])
  exact hb8

set_option maxRecDepth 100000 in
set_option maxHeartbeats 1000000 in
theorem p9_12 (W : World) (bq g : Nat) (a : List Int) (oa : Option Addr) (ca : Nat) (y1 y2 y3 y4 y5 y8 y11 y12 y13 y14 y15 y16 y17 y18 y19 y20 y21 y22 y23 y24 y25 y26 y27 y28 y29 y30 y31 y32 y33 y34 y35 y36 y37 y38 y39 y40 y41 y42 y43 y44 y45 y46 y47 y48 y49 y50 y51 y52 y53 y54 y55 y56 y57 y58 y59 y60 : Value) (x0 x1 x2 x3 x4 x5 x6 x7 x8 x9 x10 x11 x12 x13 x14 x15 x16 x17 x18 x19 x20 x21 x22 x23 x24 x25 x26 : Value) (K : Act → World → Prop) (Q : Exit → Act → World → Prop) (q6 : x6 = .bool false) (q11 : x11 = .bool true) (q1 : x1 = .bool true)
    (hK : K { tmps := #[.slice oa a.length ca, y1, y2, y3, y4, y5, x26, .bool true, y8, .pointer (some ⟨bq, 0, none⟩), .pointer (some ⟨g, 0, none⟩), y11, y12, y13, y14, y15, y16, y17, y18, y19, y20, y21, y22, y23, y24, y25, y26, y27, y28, y29, y30, y31, y32, y33, y34, y35, y36, y37, y38, y39, y40, y41, y42, y43, y44, y45, y46, y47, y48, y49, y50, y51, y52, y53, y54, y55, y56, y57, y58, y59, y60, x0, x1, x2, x3, x4, x5, x6, x7, x8, x9, x10, x11, .bool true, x13, x14, x15, x16, x17, x18, x19, x20, x21, x22, x23, x24, x25], defers := [] } W) :
    wpOp Try.prog (opsAt Try.f8 9) Q 12 K { tmps := #[.slice oa a.length ca, y1, y2, y3, y4, y5, x26, .bool true, y8, .pointer (some ⟨bq, 0, none⟩), .pointer (some ⟨g, 0, none⟩), y11, y12, y13, y14, y15, y16, y17, y18, y19, y20, y21, y22, y23, y24, y25, y26, y27, y28, y29, y30, y31, y32, y33, y34, y35, y36, y37, y38, y39, y40, y41, y42, y43, y44, y45, y46, y47, y48, y49, y50, y51, y52, y53, y54, y55, y56, y57, y58, y59, y60, x0, x1, x2, x3, x4, x5, x6, x7, x8, x9, x10, x11, x12, x13, x14, x15, x16, x17, x18, x19, x20, x21, x22, x23, x24, x25], defers := [] } W := by
  subst q6
  subst q11
  subst q1
  unfold opsAt Try.f8
  simp only [findRegion, Nat.reduceBEq, if_true, if_false, Bool.false_eq_true, Option.getD_some]
  refine wpOp_of_list' rfl ?_
  go_wp2_with fail
  exact hK

set_option maxRecDepth 100000 in
set_option maxHeartbeats 1000000 in
theorem p9_13 (W : World) (bq g : Nat) (a : List Int) (oa : Option Addr) (ca : Nat) (y1 y2 y3 y4 y5 y8 y11 y12 y13 y14 y15 y16 y17 y18 y19 y20 y21 y22 y23 y24 y25 y26 y27 y28 y29 y30 y31 y32 y33 y34 y35 y36 y37 y38 y39 y40 y41 y42 y43 y44 y45 y46 y47 y48 y49 y50 y51 y52 y53 y54 y55 y56 y57 y58 y59 y60 : Value) (x0 x1 x2 x3 x4 x5 x6 x7 x8 x9 x10 x11 x12 x13 x14 x15 x16 x17 x18 x19 x20 x21 x22 x23 x24 x25 x26 : Value) (K : Act → World → Prop) (Q : Exit → Act → World → Prop) (q1 : x1 = .bool true) (q12 : x12 = .bool true)
    (hK : K { tmps := #[.slice oa a.length ca, y1, y2, y3, y4, y5, x26, .bool true, y8, .pointer (some ⟨bq, 0, none⟩), .pointer (some ⟨g, 0, none⟩), y11, y12, y13, y14, y15, y16, y17, y18, y19, y20, y21, y22, y23, y24, y25, y26, y27, y28, y29, y30, y31, y32, y33, y34, y35, y36, y37, y38, y39, y40, y41, y42, y43, y44, y45, y46, y47, y48, y49, y50, y51, y52, y53, y54, y55, y56, y57, y58, y59, y60, x0, x1, x2, x3, x4, x5, x6, x7, x8, x9, x10, x11, x12, .bool true, x14, x15, x16, x17, x18, x19, x20, x21, x22, x23, x24, x25], defers := [] } W) :
    wpOp Try.prog (opsAt Try.f8 9) Q 13 K { tmps := #[.slice oa a.length ca, y1, y2, y3, y4, y5, x26, .bool true, y8, .pointer (some ⟨bq, 0, none⟩), .pointer (some ⟨g, 0, none⟩), y11, y12, y13, y14, y15, y16, y17, y18, y19, y20, y21, y22, y23, y24, y25, y26, y27, y28, y29, y30, y31, y32, y33, y34, y35, y36, y37, y38, y39, y40, y41, y42, y43, y44, y45, y46, y47, y48, y49, y50, y51, y52, y53, y54, y55, y56, y57, y58, y59, y60, x0, x1, x2, x3, x4, x5, x6, x7, x8, x9, x10, x11, x12, x13, x14, x15, x16, x17, x18, x19, x20, x21, x22, x23, x24, x25], defers := [] } W := by
  subst q1
  subst q12
  unfold opsAt Try.f8
  simp only [findRegion, Nat.reduceBEq, if_true, if_false, Bool.false_eq_true, Option.getD_some]
  refine wpOp_of_list' rfl ?_
  go_wp2_with fail
  exact hK

set_option maxRecDepth 100000 in
set_option maxHeartbeats 1000000 in
theorem p9_14 (W : World) (bq g : Nat) (a : List Int) (oa : Option Addr) (ca : Nat) (y1 y2 y3 y4 y5 y8 y11 y12 y13 y14 y15 y16 y17 y18 y19 y20 y21 y22 y23 y24 y25 y26 y27 y28 y29 y30 y31 y32 y33 y34 y35 y36 y37 y38 y39 y40 y41 y42 y43 y44 y45 y46 y47 y48 y49 y50 y51 y52 y53 y54 y55 y56 y57 y58 y59 y60 : Value) (x0 x1 x2 x3 x4 x5 x6 x7 x8 x9 x10 x11 x12 x13 x14 x15 x16 x17 x18 x19 x20 x21 x22 x23 x24 x25 x26 : Value) (K : Act → World → Prop) (Q : Exit → Act → World → Prop) (q13 : x13 = .bool true)
    (hK : K { tmps := #[.slice oa a.length ca, y1, y2, y3, y4, y5, x26, .bool true, y8, .pointer (some ⟨bq, 0, none⟩), .pointer (some ⟨g, 0, none⟩), y11, y12, y13, y14, y15, y16, y17, y18, y19, y20, y21, y22, y23, y24, y25, y26, y27, y28, y29, y30, y31, y32, y33, y34, y35, y36, y37, y38, y39, y40, y41, y42, y43, y44, y45, y46, y47, y48, y49, y50, y51, y52, y53, y54, y55, y56, y57, y58, y59, y60, x0, x1, x2, x3, x4, x5, x6, x7, x8, x9, x10, x11, x12, x13, .bool true, x15, x16, x17, x18, x19, x20, x21, x22, x23, x24, x25], defers := [] } W) :
    wpOp Try.prog (opsAt Try.f8 9) Q 14 K { tmps := #[.slice oa a.length ca, y1, y2, y3, y4, y5, x26, .bool true, y8, .pointer (some ⟨bq, 0, none⟩), .pointer (some ⟨g, 0, none⟩), y11, y12, y13, y14, y15, y16, y17, y18, y19, y20, y21, y22, y23, y24, y25, y26, y27, y28, y29, y30, y31, y32, y33, y34, y35, y36, y37, y38, y39, y40, y41, y42, y43, y44, y45, y46, y47, y48, y49, y50, y51, y52, y53, y54, y55, y56, y57, y58, y59, y60, x0, x1, x2, x3, x4, x5, x6, x7, x8, x9, x10, x11, x12, x13, x14, x15, x16, x17, x18, x19, x20, x21, x22, x23, x24, x25], defers := [] } W := by
  subst q13
  unfold opsAt Try.f8
  simp only [findRegion, Nat.reduceBEq, if_true, if_false, Bool.false_eq_true, Option.getD_some]
  refine wpOp_of_list' rfl ?_
  go_wp2_with fail
  exact hK

set_option maxRecDepth 100000 in
set_option maxHeartbeats 1000000 in
theorem p9_15 (W : World) (bq g : Nat) (a : List Int) (oa : Option Addr) (ca : Nat) (y1 y2 y3 y4 y5 y8 y11 y12 y13 y14 y15 y16 y17 y18 y19 y20 y21 y22 y23 y24 y25 y26 y27 y28 y29 y30 y31 y32 y33 y34 y35 y36 y37 y38 y39 y40 y41 y42 y43 y44 y45 y46 y47 y48 y49 y50 y51 y52 y53 y54 y55 y56 y57 y58 y59 y60 : Value) (x0 x1 x2 x3 x4 x5 x6 x7 x8 x9 x10 x11 x12 x13 x14 x15 x16 x17 x18 x19 x20 x21 x22 x23 x24 x25 x26 : Value) (K : Act → World → Prop) (Q : Exit → Act → World → Prop) (q14 : x14 = .bool true)
    (hK : K { tmps := #[.slice oa a.length ca, y1, y2, y3, y4, y5, x26, .bool true, y8, .pointer (some ⟨bq, 0, none⟩), .pointer (some ⟨g, 0, none⟩), y11, y12, y13, y14, y15, y16, y17, y18, y19, y20, y21, y22, y23, y24, y25, y26, y27, y28, y29, y30, y31, y32, y33, y34, y35, y36, y37, y38, y39, y40, y41, y42, y43, y44, y45, y46, y47, y48, y49, y50, y51, y52, y53, y54, y55, y56, y57, y58, y59, y60, x0, x1, x2, x3, x4, x5, x6, x7, x8, x9, x10, x11, x12, x13, x14, .pointer (some ⟨g, 1, none⟩), x16, x17, x18, x19, x20, x21, x22, x23, x24, x25], defers := [] } W) :
    wpOp Try.prog (opsAt Try.f8 9) Q 15 K { tmps := #[.slice oa a.length ca, y1, y2, y3, y4, y5, x26, .bool true, y8, .pointer (some ⟨bq, 0, none⟩), .pointer (some ⟨g, 0, none⟩), y11, y12, y13, y14, y15, y16, y17, y18, y19, y20, y21, y22, y23, y24, y25, y26, y27, y28, y29, y30, y31, y32, y33, y34, y35, y36, y37, y38, y39, y40, y41, y42, y43, y44, y45, y46, y47, y48, y49, y50, y51, y52, y53, y54, y55, y56, y57, y58, y59, y60, x0, x1, x2, x3, x4, x5, x6, x7, x8, x9, x10, x11, x12, x13, x14, x15, x16, x17, x18, x19, x20, x21, x22, x23, x24, x25], defers := [] } W := by
  subst q14
  unfold opsAt Try.f8
  simp only [findRegion, Nat.reduceBEq, if_true, if_false, Bool.false_eq_true, Option.getD_some]
  refine wpOp_of_list' rfl ?_
  go_wp2_with fail
  exact hK

set_option maxRecDepth 100000 in
set_option maxHeartbeats 1000000 in
theorem p9_16 (W : World) (bq g : Nat) (a : List Int) (oa p8 : Option Addr) (ca e8 : Nat) (y1 y2 y3 y4 y5 y8 y11 y12 y13 y14 y15 y16 y17 y18 y19 y20 y21 y22 y23 y24 y25 y26 y27 y28 y29 y30 y31 y32 y33 y34 y35 y36 y37 y38 y39 y40 y41 y42 y43 y44 y45 y46 y47 y48 y49 y50 y51 y52 y53 y54 y55 y56 y57 y58 y59 y60 : Value) (x0 x1 x2 x3 x4 x5 x6 x7 x8 x9 x10 x11 x12 x13 x14 x15 x16 x17 x18 x19 x20 x21 x22 x23 x24 x25 x26 : Value) (K : Act → World → Prop) (Q : Exit → Act → World → Prop) (q15 : x15 = .pointer (some ⟨g, 1, none⟩)) (q14 : x14 = .bool true) (k1 : W.cell? ⟨g, 1, none⟩ = some (.slice p8 0 e8))
    (hK : K { tmps := #[.slice oa a.length ca, y1, y2, y3, y4, y5, x26, .bool true, y8, .pointer (some ⟨bq, 0, none⟩), .pointer (some ⟨g, 0, none⟩), y11, y12, y13, y14, y15, y16, y17, y18, y19, y20, y21, y22, y23, y24, y25, y26, y27, y28, y29, y30, y31, y32, y33, y34, y35, y36, y37, y38, y39, y40, y41, y42, y43, y44, y45, y46, y47, y48, y49, y50, y51, y52, y53, y54, y55, y56, y57, y58, y59, y60, x0, x1, x2, x3, x4, x5, x6, x7, x8, x9, x10, x11, x12, x13, x14, x15, .slice p8 0 e8, x17, x18, x19, x20, x21, x22, x23, x24, x25], defers := [] } W) :
    wpOp Try.prog (opsAt Try.f8 9) Q 16 K { tmps := #[.slice oa a.length ca, y1, y2, y3, y4, y5, x26, .bool true, y8, .pointer (some ⟨bq, 0, none⟩), .pointer (some ⟨g, 0, none⟩), y11, y12, y13, y14, y15, y16, y17, y18, y19, y20, y21, y22, y23, y24, y25, y26, y27, y28, y29, y30, y31, y32, y33, y34, y35, y36, y37, y38, y39, y40, y41, y42, y43, y44, y45, y46, y47, y48, y49, y50, y51, y52, y53, y54, y55, y56, y57, y58, y59, y60, x0, x1, x2, x3, x4, x5, x6, x7, x8, x9, x10, x11, x12, x13, x14, x15, x16, x17, x18, x19, x20, x21, x22, x23, x24, x25], defers := [] } W := by
  subst q15
  subst q14
  unfold opsAt Try.f8
  simp only [findRegion, Nat.reduceBEq, if_true, if_false, Bool.false_eq_true, Option.getD_some]
  refine wpOp_of_list' rfl ?_
  go_wp2_with fail
  exact hK

set_option maxRecDepth 100000 in
set_option maxHeartbeats 1000000 in
theorem p9_17 (W : World) (bq g : Nat) (a : List Int) (oa p8 : Option Addr) (ca e8 : Nat) (y1 y2 y3 y4 y5 y8 y11 y12 y13 y14 y15 y16 y17 y18 y19 y20 y21 y22 y23 y24 y25 y26 y27 y28 y29 y30 y31 y32 y33 y34 y35 y36 y37 y38 y39 y40 y41 y42 y43 y44 y45 y46 y47 y48 y49 y50 y51 y52 y53 y54 y55 y56 y57 y58 y59 y60 : Value) (x0 x1 x2 x3 x4 x5 x6 x7 x8 x9 x10 x11 x12 x13 x14 x15 x16 x17 x18 x19 x20 x21 x22 x23 x24 x25 x26 : Value) (K : Act → World → Prop) (Q : Exit → Act → World → Prop) (q16 : x16 = .slice p8 0 e8) (q14 : x14 = .bool true)
    (hK : K { tmps := #[.slice oa a.length ca, y1, y2, y3, y4, y5, x26, .bool true, y8, .pointer (some ⟨bq, 0, none⟩), .pointer (some ⟨g, 0, none⟩), y11, y12, y13, y14, y15, y16, y17, y18, y19, y20, y21, y22, y23, y24, y25, y26, y27, y28, y29, y30, y31, y32, y33, y34, y35, y36, y37, y38, y39, y40, y41, y42, y43, y44, y45, y46, y47, y48, y49, y50, y51, y52, y53, y54, y55, y56, y57, y58, y59, y60, x0, x1, x2, x3, x4, x5, x6, x7, x8, x9, x10, x11, x12, x13, x14, x15, x16, .int .i64 0, x18, x19, x20, x21, x22, x23, x24, x25], defers := [] } W) :
    wpOp Try.prog (opsAt Try.f8 9) Q 17 K { tmps := #[.slice oa a.length ca, y1, y2, y3, y4, y5, x26, .bool true, y8, .pointer (some ⟨bq, 0, none⟩), .pointer (some ⟨g, 0, none⟩), y11, y12, y13, y14, y15, y16, y17, y18, y19, y20, y21, y22, y23, y24, y25, y26, y27, y28, y29, y30, y31, y32, y33, y34, y35, y36, y37, y38, y39, y40, y41, y42, y43, y44, y45, y46, y47, y48, y49, y50, y51, y52, y53, y54, y55, y56, y57, y58, y59, y60, x0, x1, x2, x3, x4, x5, x6, x7, x8, x9, x10, x11, x12, x13, x14, x15, x16, x17, x18, x19, x20, x21, x22, x23, x24, x25], defers := [] } W := by
  subst q16
  subst q14
  unfold opsAt Try.f8
  simp only [findRegion, Nat.reduceBEq, if_true, if_false, Bool.false_eq_true, Option.getD_some]
  refine wpOp_of_list' rfl ?_
  go_wp2_with fail
  exact hK

set_option maxRecDepth 100000 in
set_option maxHeartbeats 1000000 in
theorem p9_18 (W : World) (bq g : Nat) (a : List Int) (oa : Option Addr) (ca : Nat) (y1 y2 y3 y4 y5 y8 y11 y12 y13 y14 y15 y16 y17 y18 y19 y20 y21 y22 y23 y24 y25 y26 y27 y28 y29 y30 y31 y32 y33 y34 y35 y36 y37 y38 y39 y40 y41 y42 y43 y44 y45 y46 y47 y48 y49 y50 y51 y52 y53 y54 y55 y56 y57 y58 y59 y60 : Value) (x0 x1 x2 x3 x4 x5 x6 x7 x8 x9 x10 x11 x12 x13 x14 x15 x16 x17 x18 x19 x20 x21 x22 x23 x24 x25 x26 : Value) (K : Act → World → Prop) (Q : Exit → Act → World → Prop) (q17 : x17 = .int .i64 0) (q14 : x14 = .bool true)
    (hK : K { tmps := #[.slice oa a.length ca, y1, y2, y3, y4, y5, x26, .bool true, y8, .pointer (some ⟨bq, 0, none⟩), .pointer (some ⟨g, 0, none⟩), y11, y12, y13, y14, y15, y16, y17, y18, y19, y20, y21, y22, y23, y24, y25, y26, y27, y28, y29, y30, y31, y32, y33, y34, y35, y36, y37, y38, y39, y40, y41, y42, y43, y44, y45, y46, y47, y48, y49, y50, y51, y52, y53, y54, y55, y56, y57, y58, y59, y60, x0, x1, x2, x3, x4, x5, x6, x7, x8, x9, x10, x11, x12, x13, x14, x15, x16, x17, .bool true, x19, x20, x21, x22, x23, x24, x25], defers := [] } W) :
    wpOp Try.prog (opsAt Try.f8 9) Q 18 K { tmps := #[.slice oa a.length ca, y1, y2, y3, y4, y5, x26, .bool true, y8, .pointer (some ⟨bq, 0, none⟩), .pointer (some ⟨g, 0, none⟩), y11, y12, y13, y14, y15, y16, y17, y18, y19, y20, y21, y22, y23, y24, y25, y26, y27, y28, y29, y30, y31, y32, y33, y34, y35, y36, y37, y38, y39, y40, y41, y42, y43, y44, y45, y46, y47, y48, y49, y50, y51, y52, y53, y54, y55, y56, y57, y58, y59, y60, x0, x1, x2, x3, x4, x5, x6, x7, x8, x9, x10, x11, x12, x13, x14, x15, x16, x17, x18, x19, x20, x21, x22, x23, x24, x25], defers := [] } W := by
  subst q17
  subst q14
  unfold opsAt Try.f8
  simp only [findRegion, Nat.reduceBEq, if_true, if_false, Bool.false_eq_true, Option.getD_some]
  refine wpOp_of_list' rfl ?_
  go_wp2_with fail
  exact hK

set_option maxRecDepth 100000 in
set_option maxHeartbeats 1000000 in
theorem p9_19 (W : World) (bq g : Nat) (a : List Int) (oa : Option Addr) (ca : Nat) (y1 y2 y3 y4 y5 y8 y11 y12 y13 y14 y15 y16 y17 y18 y19 y20 y21 y22 y23 y24 y25 y26 y27 y28 y29 y30 y31 y32 y33 y34 y35 y36 y37 y38 y39 y40 y41 y42 y43 y44 y45 y46 y47 y48 y49 y50 y51 y52 y53 y54 y55 y56 y57 y58 y59 y60 : Value) (x0 x1 x2 x3 x4 x5 x6 x7 x8 x9 x10 x11 x12 x13 x14 x15 x16 x17 x18 x19 x20 x21 x22 x23 x24 x25 x26 : Value) (K : Act → World → Prop) (Q : Exit → Act → World → Prop) (q18 : x18 = .bool true) (q14 : x14 = .bool true)
    (hK : K { tmps := #[.slice oa a.length ca, y1, y2, y3, y4, y5, x26, .bool true, y8, .pointer (some ⟨bq, 0, none⟩), .pointer (some ⟨g, 0, none⟩), y11, y12, y13, y14, y15, y16, y17, y18, y19, y20, y21, y22, y23, y24, y25, y26, y27, y28, y29, y30, y31, y32, y33, y34, y35, y36, y37, y38, y39, y40, y41, y42, y43, y44, y45, y46, y47, y48, y49, y50, y51, y52, y53, y54, y55, y56, y57, y58, y59, y60, x0, x1, x2, x3, x4, x5, x6, x7, x8, x9, x10, x11, x12, x13, x14, x15, x16, x17, x18, .bool true, x20, x21, x22, x23, x24, x25], defers := [] } W) :
    wpOp Try.prog (opsAt Try.f8 9) Q 19 K { tmps := #[.slice oa a.length ca, y1, y2, y3, y4, y5, x26, .bool true, y8, .pointer (some ⟨bq, 0, none⟩), .pointer (some ⟨g, 0, none⟩), y11, y12, y13, y14, y15, y16, y17, y18, y19, y20, y21, y22, y23, y24, y25, y26, y27, y28, y29, y30, y31, y32, y33, y34, y35, y36, y37, y38, y39, y40, y41, y42, y43, y44, y45, y46, y47, y48, y49, y50, y51, y52, y53, y54, y55, y56, y57, y58, y59, y60, x0, x1, x2, x3, x4, x5, x6, x7, x8, x9, x10, x11, x12, x13, x14, x15, x16, x17, x18, x19, x20, x21, x22, x23, x24, x25], defers := [] } W := by
  subst q18
  subst q14
  unfold opsAt Try.f8
  simp only [findRegion, Nat.reduceBEq, if_true, if_false, Bool.false_eq_true, Option.getD_some]
  refine wpOp_of_list' rfl ?_
  go_wp2_with fail
  exact hK

set_option maxRecDepth 100000 in
set_option maxHeartbeats 1000000 in
theorem p9_20 (W : World) (bq g : Nat) (a : List Int) (oa : Option Addr) (ca : Nat) (y1 y2 y3 y4 y5 y8 y11 y12 y13 y14 y15 y16 y17 y18 y19 y20 y21 y22 y23 y24 y25 y26 y27 y28 y29 y30 y31 y32 y33 y34 y35 y36 y37 y38 y39 y40 y41 y42 y43 y44 y45 y46 y47 y48 y49 y50 y51 y52 y53 y54 y55 y56 y57 y58 y59 y60 : Value) (x0 x1 x2 x3 x4 x5 x6 x7 x8 x9 x10 x11 x12 x13 x14 x15 x16 x17 x18 x19 x20 x21 x22 x23 x24 x25 x26 : Value) (K : Act → World → Prop) (Q : Exit → Act → World → Prop) (q19 : x19 = .bool true)
    (hK : K { tmps := #[.slice oa a.length ca, y1, y2, y3, y4, y5, x26, .bool true, y8, .pointer (some ⟨bq, 0, none⟩), .pointer (some ⟨g, 0, none⟩), y11, y12, y13, y14, y15, y16, y17, y18, y19, y20, y21, y22, y23, y24, y25, y26, y27, y28, y29, y30, y31, y32, y33, y34, y35, y36, y37, y38, y39, y40, y41, y42, y43, y44, y45, y46, y47, y48, y49, y50, y51, y52, y53, y54, y55, y56, y57, y58, y59, y60, x0, x1, x2, x3, x4, x5, x6, x7, x8, x9, x10, x11, x12, x13, x14, x15, x16, x17, x18, x19, undef, x21, x22, x23, x24, x25], defers := [] } W) :
    wpOp Try.prog (opsAt Try.f8 9) Q 20 K { tmps := #[.slice oa a.length ca, y1, y2, y3, y4, y5, x26, .bool true, y8, .pointer (some ⟨bq, 0, none⟩), .pointer (some ⟨g, 0, none⟩), y11, y12, y13, y14, y15, y16, y17, y18, y19, y20, y21, y22, y23, y24, y25, y26, y27, y28, y29, y30, y31, y32, y33, y34, y35, y36, y37, y38, y39, y40, y41, y42, y43, y44, y45, y46, y47, y48, y49, y50, y51, y52, y53, y54, y55, y56, y57, y58, y59, y60, x0, x1, x2, x3, x4, x5, x6, x7, x8, x9, x10, x11, x12, x13, x14, x15, x16, x17, x18, x19, x20, x21, x22, x23, x24, x25], defers := [] } W := by
  subst q19
  unfold opsAt Try.f8
  simp only [findRegion, Nat.reduceBEq, if_true, if_false, Bool.false_eq_true, Option.getD_some]
  refine wpOp_of_list' rfl ?_
  go_wp2_with fail
  exact hK

set_option maxRecDepth 100000 in
set_option maxHeartbeats 1000000 in
theorem p9_21 (W : World) (bq g : Nat) (a : List Int) (oa : Option Addr) (ca : Nat) (y1 y2 y3 y4 y5 y8 y11 y12 y13 y14 y15 y16 y17 y18 y19 y20 y21 y22 y23 y24 y25 y26 y27 y28 y29 y30 y31 y32 y33 y34 y35 y36 y37 y38 y39 y40 y41 y42 y43 y44 y45 y46 y47 y48 y49 y50 y51 y52 y53 y54 y55 y56 y57 y58 y59 y60 : Value) (x0 x1 x2 x3 x4 x5 x6 x7 x8 x9 x10 x11 x12 x13 x14 x15 x16 x17 x18 x19 x20 x21 x22 x23 x24 x25 x26 : Value) (K : Act → World → Prop) (Q : Exit → Act → World → Prop) (q19 : x19 = .bool true)
    (hK : K { tmps := #[.slice oa a.length ca, y1, y2, y3, y4, y5, x26, .bool true, y8, .pointer (some ⟨bq, 0, none⟩), .pointer (some ⟨g, 0, none⟩), y11, y12, y13, y14, y15, y16, y17, y18, y19, y20, y21, y22, y23, y24, y25, y26, y27, y28, y29, y30, y31, y32, y33, y34, y35, y36, y37, y38, y39, y40, y41, y42, y43, y44, y45, y46, y47, y48, y49, y50, y51, y52, y53, y54, y55, y56, y57, y58, y59, y60, x0, x1, x2, x3, x4, x5, x6, x7, x8, x9, x10, x11, x12, x13, x14, x15, x16, x17, x18, x19, x20, undef, x22, x23, x24, x25], defers := [] } W) :
    wpOp Try.prog (opsAt Try.f8 9) Q 21 K { tmps := #[.slice oa a.length ca, y1, y2, y3, y4, y5, x26, .bool true, y8, .pointer (some ⟨bq, 0, none⟩), .pointer (some ⟨g, 0, none⟩), y11, y12, y13, y14, y15, y16, y17, y18, y19, y20, y21, y22, y23, y24, y25, y26, y27, y28, y29, y30, y31, y32, y33, y34, y35, y36, y37, y38, y39, y40, y41, y42, y43, y44, y45, y46, y47, y48, y49, y50, y51, y52, y53, y54, y55, y56, y57, y58, y59, y60, x0, x1, x2, x3, x4, x5, x6, x7, x8, x9, x10, x11, x12, x13, x14, x15, x16, x17, x18, x19, x20, x21, x22, x23, x24, x25], defers := [] } W := by
  subst q19
  unfold opsAt Try.f8
  simp only [findRegion, Nat.reduceBEq, if_true, if_false, Bool.false_eq_true, Option.getD_some]
  refine wpOp_of_list' rfl ?_
  go_wp2_with fail
  exact hK

set_option maxRecDepth 100000 in
set_option maxHeartbeats 1000000 in
theorem p9_22 (W : World) (bq g : Nat) (a : List Int) (oa : Option Addr) (ca : Nat) (y1 y2 y3 y4 y5 y8 y11 y12 y13 y14 y15 y16 y17 y18 y19 y20 y21 y22 y23 y24 y25 y26 y27 y28 y29 y30 y31 y32 y33 y34 y35 y36 y37 y38 y39 y40 y41 y42 y43 y44 y45 y46 y47 y48 y49 y50 y51 y52 y53 y54 y55 y56 y57 y58 y59 y60 : Value) (x0 x1 x2 x3 x4 x5 x6 x7 x8 x9 x10 x11 x12 x13 x14 x15 x16 x17 x18 x19 x20 x21 x22 x23 x24 x25 x26 : Value) (K : Act → World → Prop) (Q : Exit → Act → World → Prop) (q19 : x19 = .bool true)
    (hK : K { tmps := #[.slice oa a.length ca, y1, y2, y3, y4, y5, x26, .bool true, y8, .pointer (some ⟨bq, 0, none⟩), .pointer (some ⟨g, 0, none⟩), y11, y12, y13, y14, y15, y16, y17, y18, y19, y20, y21, y22, y23, y24, y25, y26, y27, y28, y29, y30, y31, y32, y33, y34, y35, y36, y37, y38, y39, y40, y41, y42, y43, y44, y45, y46, y47, y48, y49, y50, y51, y52, y53, y54, y55, y56, y57, y58, y59, y60, x0, x1, x2, x3, x4, x5, x6, x7, x8, x9, x10, x11, x12, x13, x14, x15, x16, x17, x18, x19, x20, x21, undef, x23, x24, x25], defers := [] } W) :
    wpOp Try.prog (opsAt Try.f8 9) Q 22 K { tmps := #[.slice oa a.length ca, y1, y2, y3, y4, y5, x26, .bool true, y8, .pointer (some ⟨bq, 0, none⟩), .pointer (some ⟨g, 0, none⟩), y11, y12, y13, y14, y15, y16, y17, y18, y19, y20, y21, y22, y23, y24, y25, y26, y27, y28, y29, y30, y31, y32, y33, y34, y35, y36, y37, y38, y39, y40, y41, y42, y43, y44, y45, y46, y47, y48, y49, y50, y51, y52, y53, y54, y55, y56, y57, y58, y59, y60, x0, x1, x2, x3, x4, x5, x6, x7, x8, x9, x10, x11, x12, x13, x14, x15, x16, x17, x18, x19, x20, x21, x22, x23, x24, x25], defers := [] } W := by
  subst q19
  unfold opsAt Try.f8
  simp only [findRegion, Nat.reduceBEq, if_true, if_false, Bool.false_eq_true, Option.getD_some]
  refine wpOp_of_list' rfl ?_
  go_wp2_with fail
  exact hK

set_option maxRecDepth 100000 in
set_option maxHeartbeats 1000000 in
theorem p9_23 (W : World) (bq g : Nat) (a : List Int) (oa : Option Addr) (ca : Nat) (y1 y2 y3 y4 y5 y8 y11 y12 y13 y14 y15 y16 y17 y18 y19 y20 y21 y22 y23 y24 y25 y26 y27 y28 y29 y30 y31 y32 y33 y34 y35 y36 y37 y38 y39 y40 y41 y42 y43 y44 y45 y46 y47 y48 y49 y50 y51 y52 y53 y54 y55 y56 y57 y58 y59 y60 : Value) (x0 x1 x2 x3 x4 x5 x6 x7 x8 x9 x10 x11 x12 x13 x14 x15 x16 x17 x18 x19 x20 x21 x22 x23 x24 x25 x26 : Value) (K : Act → World → Prop) (Q : Exit → Act → World → Prop) (q19 : x19 = .bool true)
    (hK : K { tmps := #[.slice oa a.length ca, y1, y2, y3, y4, y5, x26, .bool true, y8, .pointer (some ⟨bq, 0, none⟩), .pointer (some ⟨g, 0, none⟩), y11, y12, y13, y14, y15, y16, y17, y18, y19, y20, y21, y22, y23, y24, y25, y26, y27, y28, y29, y30, y31, y32, y33, y34, y35, y36, y37, y38, y39, y40, y41, y42, y43, y44, y45, y46, y47, y48, y49, y50, y51, y52, y53, y54, y55, y56, y57, y58, y59, y60, x0, x1, x2, x3, x4, x5, x6, x7, x8, x9, x10, x11, x12, x13, x14, x15, x16, x17, x18, x19, x20, x21, x22, undef, x24, x25], defers := [] } W) :
    wpOp Try.prog (opsAt Try.f8 9) Q 23 K { tmps := #[.slice oa a.length ca, y1, y2, y3, y4, y5, x26, .bool true, y8, .pointer (some ⟨bq, 0, none⟩), .pointer (some ⟨g, 0, none⟩), y11, y12, y13, y14, y15, y16, y17, y18, y19, y20, y21, y22, y23, y24, y25, y26, y27, y28, y29, y30, y31, y32, y33, y34, y35, y36, y37, y38, y39, y40, y41, y42, y43, y44, y45, y46, y47, y48, y49, y50, y51, y52, y53, y54, y55, y56, y57, y58, y59, y60, x0, x1, x2, x3, x4, x5, x6, x7, x8, x9, x10, x11, x12, x13, x14, x15, x16, x17, x18, x19, x20, x21, x22, x23, x24, x25], defers := [] } W := by
  subst q19
  unfold opsAt Try.f8
  simp only [findRegion, Nat.reduceBEq, if_true, if_false, Bool.false_eq_true, Option.getD_some]
  refine wpOp_of_list' rfl ?_
  go_wp2_with fail
  exact hK

set_option maxRecDepth 100000 in
set_option maxHeartbeats 1000000 in
theorem p9_24 (W : World) (bq g : Nat) (a : List Int) (oa : Option Addr) (ca : Nat) (y1 y2 y3 y4 y5 y8 y11 y12 y13 y14 y15 y16 y17 y18 y19 y20 y21 y22 y23 y24 y25 y26 y27 y28 y29 y30 y31 y32 y33 y34 y35 y36 y37 y38 y39 y40 y41 y42 y43 y44 y45 y46 y47 y48 y49 y50 y51 y52 y53 y54 y55 y56 y57 y58 y59 y60 : Value) (x0 x1 x2 x3 x4 x5 x6 x7 x8 x9 x10 x11 x12 x13 x14 x15 x16 x17 x18 x19 x20 x21 x22 x23 x24 x25 x26 : Value) (K : Act → World → Prop) (Q : Exit → Act → World → Prop) (q19 : x19 = .bool true) (q14 : x14 = .bool true)
    (hK : K { tmps := #[.slice oa a.length ca, y1, y2, y3, y4, y5, x26, .bool true, y8, .pointer (some ⟨bq, 0, none⟩), .pointer (some ⟨g, 0, none⟩), y11, y12, y13, y14, y15, y16, y17, y18, y19, y20, y21, y22, y23, y24, y25, y26, y27, y28, y29, y30, y31, y32, y33, y34, y35, y36, y37, y38, y39, y40, y41, y42, y43, y44, y45, y46, y47, y48, y49, y50, y51, y52, y53, y54, y55, y56, y57, y58, y59, y60, x0, x1, x2, x3, x4, x5, x6, x7, x8, x9, x10, x11, x12, x13, x14, x15, x16, x17, x18, x19, x20, x21, x22, x23, .bool true, x25], defers := [] } W) :
    wpOp Try.prog (opsAt Try.f8 9) Q 24 K { tmps := #[.slice oa a.length ca, y1, y2, y3, y4, y5, x26, .bool true, y8, .pointer (some ⟨bq, 0, none⟩), .pointer (some ⟨g, 0, none⟩), y11, y12, y13, y14, y15, y16, y17, y18, y19, y20, y21, y22, y23, y24, y25, y26, y27, y28, y29, y30, y31, y32, y33, y34, y35, y36, y37, y38, y39, y40, y41, y42, y43, y44, y45, y46, y47, y48, y49, y50, y51, y52, y53, y54, y55, y56, y57, y58, y59, y60, x0, x1, x2, x3, x4, x5, x6, x7, x8, x9, x10, x11, x12, x13, x14, x15, x16, x17, x18, x19, x20, x21, x22, x23, x24, x25], defers := [] } W := by
  subst q19
  subst q14
  unfold opsAt Try.f8
  simp only [findRegion, Nat.reduceBEq, if_true, if_false, Bool.false_eq_true, Option.getD_some]
  refine wpOp_of_list' rfl ?_
  go_wp2_with fail
  exact hK

set_option maxRecDepth 100000 in
set_option maxHeartbeats 1000000 in
theorem p9_25 (W : World) (bq g : Nat) (a : List Int) (oa : Option Addr) (ca : Nat) (y1 y2 y3 y4 y5 y8 y11 y12 y13 y14 y15 y16 y17 y18 y19 y20 y21 y22 y23 y24 y25 y26 y27 y28 y29 y30 y31 y32 y33 y34 y35 y36 y37 y38 y39 y40 y41 y42 y43 y44 y45 y46 y47 y48 y49 y50 y51 y52 y53 y54 y55 y56 y57 y58 y59 y60 : Value) (x0 x1 x2 x3 x4 x5 x6 x7 x8 x9 x10 x11 x12 x13 x14 x15 x16 x17 x18 x19 x20 x21 x22 x23 x24 x25 x26 : Value) (K : Act → World → Prop) (Q : Exit → Act → World → Prop) (q14 : x14 = .bool true) (q24 : x24 = .bool true)
    (hK : K { tmps := #[.slice oa a.length ca, y1, y2, y3, y4, y5, x26, .bool true, y8, .pointer (some ⟨bq, 0, none⟩), .pointer (some ⟨g, 0, none⟩), y11, y12, y13, y14, y15, y16, y17, y18, y19, y20, y21, y22, y23, y24, y25, y26, y27, y28, y29, y30, y31, y32, y33, y34, y35, y36, y37, y38, y39, y40, y41, y42, y43, y44, y45, y46, y47, y48, y49, y50, y51, y52, y53, y54, y55, y56, y57, y58, y59, y60, x0, x1, x2, x3, x4, x5, x6, x7, x8, x9, x10, x11, x12, x13, x14, x15, x16, x17, x18, x19, x20, x21, x22, x23, x24, .bool true], defers := [] } W) :
    wpOp Try.prog (opsAt Try.f8 9) Q 25 K { tmps := #[.slice oa a.length ca, y1, y2, y3, y4, y5, x26, .bool true, y8, .pointer (some ⟨bq, 0, none⟩), .pointer (some ⟨g, 0, none⟩), y11, y12, y13, y14, y15, y16, y17, y18, y19, y20, y21, y22, y23, y24, y25, y26, y27, y28, y29, y30, y31, y32, y33, y34, y35, y36, y37, y38, y39, y40, y41, y42, y43, y44, y45, y46, y47, y48, y49, y50, y51, y52, y53, y54, y55, y56, y57, y58, y59, y60, x0, x1, x2, x3, x4, x5, x6, x7, x8, x9, x10, x11, x12, x13, x14, x15, x16, x17, x18, x19, x20, x21, x22, x23, x24, x25], defers := [] } W := by
  subst q14
  subst q24
  unfold opsAt Try.f8
  simp only [findRegion, Nat.reduceBEq, if_true, if_false, Bool.false_eq_true, Option.getD_some]
  refine wpOp_of_list' rfl ?_
  go_wp2_with fail
  exact hK

set_option maxRecDepth 100000 in
set_option maxHeartbeats 1000000 in
theorem p9_26 (W : World) (bq g : Nat) (a : List Int) (oa : Option Addr) (ca : Nat) (y1 y2 y3 y4 y5 y8 y11 y12 y13 y14 y15 y16 y17 y18 y19 y20 y21 y22 y23 y24 y25 y26 y27 y28 y29 y30 y31 y32 y33 y34 y35 y36 y37 y38 y39 y40 y41 y42 y43 y44 y45 y46 y47 y48 y49 y50 y51 y52 y53 y54 y55 y56 y57 y58 y59 y60 : Value) (x0 x1 x2 x3 x4 x5 x6 x7 x8 x9 x10 x11 x12 x13 x14 x15 x16 x17 x18 x19 x20 x21 x22 x23 x24 x25 x26 : Value) (K : Act → World → Prop) (Q : Exit → Act → World → Prop) (q25 : x25 = .bool true)
    (hK : K { tmps := #[.slice oa a.length ca, y1, y2, y3, y4, y5, .bool true, .bool true, y8, .pointer (some ⟨bq, 0, none⟩), .pointer (some ⟨g, 0, none⟩), y11, y12, y13, y14, y15, y16, y17, y18, y19, y20, y21, y22, y23, y24, y25, y26, y27, y28, y29, y30, y31, y32, y33, y34, y35, y36, y37, y38, y39, y40, y41, y42, y43, y44, y45, y46, y47, y48, y49, y50, y51, y52, y53, y54, y55, y56, y57, y58, y59, y60, x0, x1, x2, x3, x4, x5, x6, x7, x8, x9, x10, x11, x12, x13, x14, x15, x16, x17, x18, x19, x20, x21, x22, x23, x24, x25], defers := [] } W) :
    wpOp Try.prog (opsAt Try.f8 9) Q 26 K { tmps := #[.slice oa a.length ca, y1, y2, y3, y4, y5, x26, .bool true, y8, .pointer (some ⟨bq, 0, none⟩), .pointer (some ⟨g, 0, none⟩), y11, y12, y13, y14, y15, y16, y17, y18, y19, y20, y21, y22, y23, y24, y25, y26, y27, y28, y29, y30, y31, y32, y33, y34, y35, y36, y37, y38, y39, y40, y41, y42, y43, y44, y45, y46, y47, y48, y49, y50, y51, y52, y53, y54, y55, y56, y57, y58, y59, y60, x0, x1, x2, x3, x4, x5, x6, x7, x8, x9, x10, x11, x12, x13, x14, x15, x16, x17, x18, x19, x20, x21, x22, x23, x24, x25], defers := [] } W := by
  subst q25
  unfold opsAt Try.f8
  simp only [findRegion, Nat.reduceBEq, if_true, if_false, Bool.false_eq_true, Option.getD_some]
  refine wpOp_of_list' rfl ?_
  go_wp2_with fail
  exact hK

theorem puG9_st (bq g : Nat) (a Q1 Q2 R1 : List Int) (oa p7 p6 p9 p8 : Option Addr) (ca e7 e6 e9 e8 : Nat) (i : Nat) (v : Value) (w w' : World) (h : puG9 bq g a Q1 Q2 R1 oa p7 p6 p9 p8 ca e7 e6 e9 e8 i v w) (hB : Below w.heap.size w w') : puG9 bq g a Q1 Q2 R1 oa p7 p6 p9 p8 ca e7 e6 e9 e8 i v w' := by
  unfold puG9 at h ⊢
  split at h
  all_goals first | exact h | exact LasAt.next h hB

set_option maxRecDepth 100000 in
set_option maxHeartbeats 4000000 in
theorem push_r9 (X : World) (bq g : Nat) (a Q1 Q2 R1 : List Int) (oa p7 p6 p9 p8 : Option Addr) (ca e7 e6 e9 e8 : Nat) (y1 y2 y3 y4 y5 y8 y11 y12 y13 y14 y15 y16 y17 y18 y19 y20 y21 y22 y23 y24 y25 y26 y27 y28 y29 y30 y31 y32 y33 y34 y35 y36 y37 y38 y39 y40 y41 y42 y43 y44 y45 y46 y47 y48 y49 y50 y51 y52 y53 y54 y55 y56 y57 y58 y59 y60 : Value) (Q : Exit → Act → World → Prop) (hbq : bq < X.heap.size) (hg : g < X.heap.size)
    (p0 : X.cell? ⟨bq, 0, none⟩ = some (.slice p7 Q1.length e7)) (p1 : X.cell? ⟨bq, 1, none⟩ = some (.slice p6 Q2.length e6)) (g0 : X.cell? ⟨g, 0, none⟩ = some (.slice p9 R1.length e9)) (g1 : X.cell? ⟨g, 1, none⟩ = some (.slice p8 0 e8))
    (kA : Hid (IntsAt X.heap.size X (.slice oa a.length ca) a)) (kY : Hid (LasAt X.heap.size X (.agg #[.slice p7 Q1.length e7, .slice p6 Q2.length e6]) Q1 Q2)) (kB : Hid (LasAt X.heap.size X (.agg #[.slice p9 R1.length e9, .slice p8 0 e8]) R1 [])) (ha : a.length ≤ 80) (h1 : (pushL a Q1 Q2).1 = R1) (h2 : (pushL a Q1 Q2).2 = []) (i5 : ((Q2.length : Int) == 0) = false)
    (hend : ∀ x W, Below X.heap.size X W → x 26 = .bool true → Q .normal (puFr9 bq g a oa ca y1 y2 y3 y4 y5 y8 y11 y12 y13 y14 y15 y16 y17 y18 y19 y20 y21 y22 y23 y24 y25 y26 y27 y28 y29 y30 y31 y32 y33 y34 y35 y36 y37 y38 y39 y40 y41 y42 y43 y44 y45 y46 y47 y48 y49 y50 y51 y52 y53 y54 y55 y56 y57 y58 y59 y60 x) W) :
    (Code.region 9 (opsAt Try.f8 9) true).wp Try.prog Q (puFr9 bq g a oa ca y1 y2 y3 y4 y5 y8 y11 y12 y13 y14 y15 y16 y17 y18 y19 y20 y21 y22 y23 y24 y25 y26 y27 y28 y29 y30 y31 y32 y33 y34 y35 y36 y37 y38 y39 y40 y41 y42 y43 y44 y45 y46 y47 y48 y49 y50 y51 y52 y53 y54 y55 y56 y57 y58 y59 y60 fun i => if i = 26 then .bool false else undef) X := by
  have hsz : (opsAt Try.f8 9).size = 27 := by kernel_rfl
  refine wp_region_gen (by kernel_rfl) (by kernel_rfl) (puG9 bq g a Q1 Q2 R1 oa p7 p6 p9 p8 ca e7 e6 e9 e8) (fun W => Below X.heap.size X W) (puFr9 bq g a oa ca y1 y2 y3 y4 y5 y8 y11 y12 y13 y14 y15 y16 y17 y18 y19 y20 y21 y22 y23 y24 y25 y26 y27 y28 y29 y30 y31 y32 y33 y34 y35 y36 y37 y38 y39 y40 y41 y42 y43 y44 y45 y46 y47 y48 y49 y50 y51 y52 y53 y54 y55 y56 y57 y58 y59 y60) _ (puG9_st bq g a Q1 Q2 R1 oa p7 p6 p9 p8 ca e7 e6 e9 e8) (fun _ _ h k => h.trans (k.mono h.size)) (Below.refl _ _).drew ?_ ?_
  · intro i x W K hi hS hd hK
    have t0 := (hS.cell (p := ⟨bq, 0, none⟩) hbq).trans p0
    have t1 := (hS.cell (p := ⟨bq, 1, none⟩) hbq).trans p1
    have r0 := (hS.cell (p := ⟨g, 0, none⟩) hg).trans g0
    have r1 := (hS.cell (p := ⟨g, 1, none⟩) hg).trans g1
    match i, hi, hd, hK with
    | 0, _, hd, hK => exact p9_0 W bq g a oa ca y1 y2 y3 y4 y5 y8 y11 y12 y13 y14 y15 y16 y17 y18 y19 y20 y21 y22 y23 y24 y25 y26 y27 y28 y29 y30 y31 y32 y33 y34 y35 y36 y37 y38 y39 y40 y41 y42 y43 y44 y45 y46 y47 y48 y49 y50 y51 y52 y53 y54 y55 y56 y57 y58 y59 y60 (x 0) (x 1) (x 2) (x 3) (x 4) (x 5) (x 6) (x 7) (x 8) (x 9) (x 10) (x 11) (x 12) (x 13) (x 14) (x 15) (x 16) (x 17) (x 18) (x 19) (x 20) (x 21) (x 22) (x 23) (x 24) (x 25) (x 26) K Q  (hK (.bool true) W rfl (Below.refl _ _))
    | 1, _, hd, hK => exact p9_1 W bq g a oa ca y1 y2 y3 y4 y5 y8 y11 y12 y13 y14 y15 y16 y17 y18 y19 y20 y21 y22 y23 y24 y25 y26 y27 y28 y29 y30 y31 y32 y33 y34 y35 y36 y37 y38 y39 y40 y41 y42 y43 y44 y45 y46 y47 y48 y49 y50 y51 y52 y53 y54 y55 y56 y57 y58 y59 y60 (x 0) (x 1) (x 2) (x 3) (x 4) (x 5) (x 6) (x 7) (x 8) (x 9) (x 10) (x 11) (x 12) (x 13) (x 14) (x 15) (x 16) (x 17) (x 18) (x 19) (x 20) (x 21) (x 22) (x 23) (x 24) (x 25) (x 26) K Q (hd 0 (by kernel_rfl)) (hK (.bool true) W rfl (Below.refl _ _))
    | 2, _, hd, hK => exact p9_2 W bq g a oa ca y1 y2 y3 y4 y5 y8 y11 y12 y13 y14 y15 y16 y17 y18 y19 y20 y21 y22 y23 y24 y25 y26 y27 y28 y29 y30 y31 y32 y33 y34 y35 y36 y37 y38 y39 y40 y41 y42 y43 y44 y45 y46 y47 y48 y49 y50 y51 y52 y53 y54 y55 y56 y57 y58 y59 y60 (x 0) (x 1) (x 2) (x 3) (x 4) (x 5) (x 6) (x 7) (x 8) (x 9) (x 10) (x 11) (x 12) (x 13) (x 14) (x 15) (x 16) (x 17) (x 18) (x 19) (x 20) (x 21) (x 22) (x 23) (x 24) (x 25) (x 26) K Q (hd 1 (by kernel_rfl)) (hK (.pointer (some ⟨bq, 1, none⟩)) W rfl (Below.refl _ _))
    | 3, _, hd, hK => exact p9_3 W bq g a Q2 oa p6 ca e6 y1 y2 y3 y4 y5 y8 y11 y12 y13 y14 y15 y16 y17 y18 y19 y20 y21 y22 y23 y24 y25 y26 y27 y28 y29 y30 y31 y32 y33 y34 y35 y36 y37 y38 y39 y40 y41 y42 y43 y44 y45 y46 y47 y48 y49 y50 y51 y52 y53 y54 y55 y56 y57 y58 y59 y60 (x 0) (x 1) (x 2) (x 3) (x 4) (x 5) (x 6) (x 7) (x 8) (x 9) (x 10) (x 11) (x 12) (x 13) (x 14) (x 15) (x 16) (x 17) (x 18) (x 19) (x 20) (x 21) (x 22) (x 23) (x 24) (x 25) (x 26) K Q (hd 2 (by kernel_rfl)) (hd 1 (by kernel_rfl)) t1 (hK (.slice p6 Q2.length e6) W rfl (Below.refl _ _))
    | 4, _, hd, hK => exact p9_4 W bq g a Q2 oa p6 ca e6 y1 y2 y3 y4 y5 y8 y11 y12 y13 y14 y15 y16 y17 y18 y19 y20 y21 y22 y23 y24 y25 y26 y27 y28 y29 y30 y31 y32 y33 y34 y35 y36 y37 y38 y39 y40 y41 y42 y43 y44 y45 y46 y47 y48 y49 y50 y51 y52 y53 y54 y55 y56 y57 y58 y59 y60 (x 0) (x 1) (x 2) (x 3) (x 4) (x 5) (x 6) (x 7) (x 8) (x 9) (x 10) (x 11) (x 12) (x 13) (x 14) (x 15) (x 16) (x 17) (x 18) (x 19) (x 20) (x 21) (x 22) (x 23) (x 24) (x 25) (x 26) K Q (hd 3 (by kernel_rfl)) (hd 1 (by kernel_rfl)) (hK (.int .i64 Q2.length) W rfl (Below.refl _ _))
    | 5, _, hd, hK => exact p9_5 W bq g a Q2 oa ca y1 y2 y3 y4 y5 y8 y11 y12 y13 y14 y15 y16 y17 y18 y19 y20 y21 y22 y23 y24 y25 y26 y27 y28 y29 y30 y31 y32 y33 y34 y35 y36 y37 y38 y39 y40 y41 y42 y43 y44 y45 y46 y47 y48 y49 y50 y51 y52 y53 y54 y55 y56 y57 y58 y59 y60 (x 0) (x 1) (x 2) (x 3) (x 4) (x 5) (x 6) (x 7) (x 8) (x 9) (x 10) (x 11) (x 12) (x 13) (x 14) (x 15) (x 16) (x 17) (x 18) (x 19) (x 20) (x 21) (x 22) (x 23) (x 24) (x 25) (x 26) K Q (hd 4 (by kernel_rfl)) (hd 1 (by kernel_rfl)) i5 (hK (.bool false) W rfl (Below.refl _ _))
    | 6, _, hd, hK => exact p9_6 W bq g a oa ca y1 y2 y3 y4 y5 y8 y11 y12 y13 y14 y15 y16 y17 y18 y19 y20 y21 y22 y23 y24 y25 y26 y27 y28 y29 y30 y31 y32 y33 y34 y35 y36 y37 y38 y39 y40 y41 y42 y43 y44 y45 y46 y47 y48 y49 y50 y51 y52 y53 y54 y55 y56 y57 y58 y59 y60 (x 0) (x 1) (x 2) (x 3) (x 4) (x 5) (x 6) (x 7) (x 8) (x 9) (x 10) (x 11) (x 12) (x 13) (x 14) (x 15) (x 16) (x 17) (x 18) (x 19) (x 20) (x 21) (x 22) (x 23) (x 24) (x 25) (x 26) K Q (hd 5 (by kernel_rfl)) (hd 1 (by kernel_rfl)) (hK (.bool false) W rfl (Below.refl _ _))
    | 7, _, hd, hK => exact p9_7 W bq g a oa ca y1 y2 y3 y4 y5 y8 y11 y12 y13 y14 y15 y16 y17 y18 y19 y20 y21 y22 y23 y24 y25 y26 y27 y28 y29 y30 y31 y32 y33 y34 y35 y36 y37 y38 y39 y40 y41 y42 y43 y44 y45 y46 y47 y48 y49 y50 y51 y52 y53 y54 y55 y56 y57 y58 y59 y60 (x 0) (x 1) (x 2) (x 3) (x 4) (x 5) (x 6) (x 7) (x 8) (x 9) (x 10) (x 11) (x 12) (x 13) (x 14) (x 15) (x 16) (x 17) (x 18) (x 19) (x 20) (x 21) (x 22) (x 23) (x 24) (x 25) (x 26) K Q (hd 6 (by kernel_rfl)) (hK (.slice oa a.length ca) W rfl (Below.refl _ _))
    | 8, _, hd, hK => exact p9_8 W bq g a Q1 Q2 oa p7 p6 ca e7 e6 y1 y2 y3 y4 y5 y8 y11 y12 y13 y14 y15 y16 y17 y18 y19 y20 y21 y22 y23 y24 y25 y26 y27 y28 y29 y30 y31 y32 y33 y34 y35 y36 y37 y38 y39 y40 y41 y42 y43 y44 y45 y46 y47 y48 y49 y50 y51 y52 y53 y54 y55 y56 y57 y58 y59 y60 (x 0) (x 1) (x 2) (x 3) (x 4) (x 5) (x 6) (x 7) (x 8) (x 9) (x 10) (x 11) (x 12) (x 13) (x 14) (x 15) (x 16) (x 17) (x 18) (x 19) (x 20) (x 21) (x 22) (x 23) (x 24) (x 25) (x 26) K Q (hd 6 (by kernel_rfl)) t0 t1 (hK (.agg #[.slice p7 Q1.length e7, .slice p6 Q2.length e6]) W rfl (Below.refl _ _))
    | 9, _, hd, hK => exact p9_9 W bq g a Q1 Q2 R1 oa p7 p6 ca e7 e6 y1 y2 y3 y4 y5 y8 y11 y12 y13 y14 y15 y16 y17 y18 y19 y20 y21 y22 y23 y24 y25 y26 y27 y28 y29 y30 y31 y32 y33 y34 y35 y36 y37 y38 y39 y40 y41 y42 y43 y44 y45 y46 y47 y48 y49 y50 y51 y52 y53 y54 y55 y56 y57 y58 y59 y60 (x 0) (x 1) (x 2) (x 3) (x 4) (x 5) (x 6) (x 7) (x 8) (x 9) (x 10) (x 11) (x 12) (x 13) (x 14) (x 15) (x 16) (x 17) (x 18) (x 19) (x 20) (x 21) (x 22) (x 23) (x 24) (x 25) (x 26) K Q (hd 7 (by kernel_rfl)) (hd 8 (by kernel_rfl)) (hd 6 (by kernel_rfl)) (kA.out.next hS) (kY.out.next hS) ha h1 h2 (fun v w' h hB => hK v w' h hB)
    | 10, _, hd, hK => exact p9_10 W bq g a R1 oa p9 p8 ca e9 e8 y1 y2 y3 y4 y5 y8 y11 y12 y13 y14 y15 y16 y17 y18 y19 y20 y21 y22 y23 y24 y25 y26 y27 y28 y29 y30 y31 y32 y33 y34 y35 y36 y37 y38 y39 y40 y41 y42 y43 y44 y45 y46 y47 y48 y49 y50 y51 y52 y53 y54 y55 y56 y57 y58 y59 y60 (x 0) (x 1) (x 2) (x 3) (x 4) (x 5) (x 6) (x 7) (x 8) (x 9) (x 10) (x 11) (x 12) (x 13) (x 14) (x 15) (x 16) (x 17) (x 18) (x 19) (x 20) (x 21) (x 22) (x 23) (x 24) (x 25) (x 26) K Q (hd 6 (by kernel_rfl)) r0 r1 (hK (.agg #[.slice p9 R1.length e9, .slice p8 0 e8]) W rfl (Below.refl _ _))
    | 11, _, hd, hK => exact p9_11 W bq g a R1 oa p9 p8 ca e9 e8 y1 y2 y3 y4 y5 y8 y11 y12 y13 y14 y15 y16 y17 y18 y19 y20 y21 y22 y23 y24 y25 y26 y27 y28 y29 y30 y31 y32 y33 y34 y35 y36 y37 y38 y39 y40 y41 y42 y43 y44 y45 y46 y47 y48 y49 y50 y51 y52 y53 y54 y55 y56 y57 y58 y59 y60 (x 0) (x 1) (x 2) (x 3) (x 4) (x 5) (x 6) (x 7) (x 8) (x 9) (x 10) (x 11) (x 12) (x 13) (x 14) (x 15) (x 16) (x 17) (x 18) (x 19) (x 20) (x 21) (x 22) (x 23) (x 24) (x 25) (x 26) K Q (hd 9 (by kernel_rfl)) (hd 10 (by kernel_rfl)) (hd 6 (by kernel_rfl)) (kB.out.next hS) (fun w' hB => hK (.bool true) w' rfl hB)
    | 12, _, hd, hK => exact p9_12 W bq g a oa ca y1 y2 y3 y4 y5 y8 y11 y12 y13 y14 y15 y16 y17 y18 y19 y20 y21 y22 y23 y24 y25 y26 y27 y28 y29 y30 y31 y32 y33 y34 y35 y36 y37 y38 y39 y40 y41 y42 y43 y44 y45 y46 y47 y48 y49 y50 y51 y52 y53 y54 y55 y56 y57 y58 y59 y60 (x 0) (x 1) (x 2) (x 3) (x 4) (x 5) (x 6) (x 7) (x 8) (x 9) (x 10) (x 11) (x 12) (x 13) (x 14) (x 15) (x 16) (x 17) (x 18) (x 19) (x 20) (x 21) (x 22) (x 23) (x 24) (x 25) (x 26) K Q (hd 6 (by kernel_rfl)) (hd 11 (by kernel_rfl)) (hd 1 (by kernel_rfl)) (hK (.bool true) W rfl (Below.refl _ _))
    | 13, _, hd, hK => exact p9_13 W bq g a oa ca y1 y2 y3 y4 y5 y8 y11 y12 y13 y14 y15 y16 y17 y18 y19 y20 y21 y22 y23 y24 y25 y26 y27 y28 y29 y30 y31 y32 y33 y34 y35 y36 y37 y38 y39 y40 y41 y42 y43 y44 y45 y46 y47 y48 y49 y50 y51 y52 y53 y54 y55 y56 y57 y58 y59 y60 (x 0) (x 1) (x 2) (x 3) (x 4) (x 5) (x 6) (x 7) (x 8) (x 9) (x 10) (x 11) (x 12) (x 13) (x 14) (x 15) (x 16) (x 17) (x 18) (x 19) (x 20) (x 21) (x 22) (x 23) (x 24) (x 25) (x 26) K Q (hd 1 (by kernel_rfl)) (hd 12 (by kernel_rfl)) (hK (.bool true) W rfl (Below.refl _ _))
    | 14, _, hd, hK => exact p9_14 W bq g a oa ca y1 y2 y3 y4 y5 y8 y11 y12 y13 y14 y15 y16 y17 y18 y19 y20 y21 y22 y23 y24 y25 y26 y27 y28 y29 y30 y31 y32 y33 y34 y35 y36 y37 y38 y39 y40 y41 y42 y43 y44 y45 y46 y47 y48 y49 y50 y51 y52 y53 y54 y55 y56 y57 y58 y59 y60 (x 0) (x 1) (x 2) (x 3) (x 4) (x 5) (x 6) (x 7) (x 8) (x 9) (x 10) (x 11) (x 12) (x 13) (x 14) (x 15) (x 16) (x 17) (x 18) (x 19) (x 20) (x 21) (x 22) (x 23) (x 24) (x 25) (x 26) K Q (hd 13 (by kernel_rfl)) (hK (.bool true) W rfl (Below.refl _ _))
    | 15, _, hd, hK => exact p9_15 W bq g a oa ca y1 y2 y3 y4 y5 y8 y11 y12 y13 y14 y15 y16 y17 y18 y19 y20 y21 y22 y23 y24 y25 y26 y27 y28 y29 y30 y31 y32 y33 y34 y35 y36 y37 y38 y39 y40 y41 y42 y43 y44 y45 y46 y47 y48 y49 y50 y51 y52 y53 y54 y55 y56 y57 y58 y59 y60 (x 0) (x 1) (x 2) (x 3) (x 4) (x 5) (x 6) (x 7) (x 8) (x 9) (x 10) (x 11) (x 12) (x 13) (x 14) (x 15) (x 16) (x 17) (x 18) (x 19) (x 20) (x 21) (x 22) (x 23) (x 24) (x 25) (x 26) K Q (hd 14 (by kernel_rfl)) (hK (.pointer (some ⟨g, 1, none⟩)) W rfl (Below.refl _ _))
    | 16, _, hd, hK => exact p9_16 W bq g a oa p8 ca e8 y1 y2 y3 y4 y5 y8 y11 y12 y13 y14 y15 y16 y17 y18 y19 y20 y21 y22 y23 y24 y25 y26 y27 y28 y29 y30 y31 y32 y33 y34 y35 y36 y37 y38 y39 y40 y41 y42 y43 y44 y45 y46 y47 y48 y49 y50 y51 y52 y53 y54 y55 y56 y57 y58 y59 y60 (x 0) (x 1) (x 2) (x 3) (x 4) (x 5) (x 6) (x 7) (x 8) (x 9) (x 10) (x 11) (x 12) (x 13) (x 14) (x 15) (x 16) (x 17) (x 18) (x 19) (x 20) (x 21) (x 22) (x 23) (x 24) (x 25) (x 26) K Q (hd 15 (by kernel_rfl)) (hd 14 (by kernel_rfl)) r1 (hK (.slice p8 0 e8) W rfl (Below.refl _ _))
    | 17, _, hd, hK => exact p9_17 W bq g a oa p8 ca e8 y1 y2 y3 y4 y5 y8 y11 y12 y13 y14 y15 y16 y17 y18 y19 y20 y21 y22 y23 y24 y25 y26 y27 y28 y29 y30 y31 y32 y33 y34 y35 y36 y37 y38 y39 y40 y41 y42 y43 y44 y45 y46 y47 y48 y49 y50 y51 y52 y53 y54 y55 y56 y57 y58 y59 y60 (x 0) (x 1) (x 2) (x 3) (x 4) (x 5) (x 6) (x 7) (x 8) (x 9) (x 10) (x 11) (x 12) (x 13) (x 14) (x 15) (x 16) (x 17) (x 18) (x 19) (x 20) (x 21) (x 22) (x 23) (x 24) (x 25) (x 26) K Q (hd 16 (by kernel_rfl)) (hd 14 (by kernel_rfl)) (hK (.int .i64 0) W rfl (Below.refl _ _))
    | 18, _, hd, hK => exact p9_18 W bq g a oa ca y1 y2 y3 y4 y5 y8 y11 y12 y13 y14 y15 y16 y17 y18 y19 y20 y21 y22 y23 y24 y25 y26 y27 y28 y29 y30 y31 y32 y33 y34 y35 y36 y37 y38 y39 y40 y41 y42 y43 y44 y45 y46 y47 y48 y49 y50 y51 y52 y53 y54 y55 y56 y57 y58 y59 y60 (x 0) (x 1) (x 2) (x 3) (x 4) (x 5) (x 6) (x 7) (x 8) (x 9) (x 10) (x 11) (x 12) (x 13) (x 14) (x 15) (x 16) (x 17) (x 18) (x 19) (x 20) (x 21) (x 22) (x 23) (x 24) (x 25) (x 26) K Q (hd 17 (by kernel_rfl)) (hd 14 (by kernel_rfl)) (hK (.bool true) W rfl (Below.refl _ _))
    | 19, _, hd, hK => exact p9_19 W bq g a oa ca y1 y2 y3 y4 y5 y8 y11 y12 y13 y14 y15 y16 y17 y18 y19 y20 y21 y22 y23 y24 y25 y26 y27 y28 y29 y30 y31 y32 y33 y34 y35 y36 y37 y38 y39 y40 y41 y42 y43 y44 y45 y46 y47 y48 y49 y50 y51 y52 y53 y54 y55 y56 y57 y58 y59 y60 (x 0) (x 1) (x 2) (x 3) (x 4) (x 5) (x 6) (x 7) (x 8) (x 9) (x 10) (x 11) (x 12) (x 13) (x 14) (x 15) (x 16) (x 17) (x 18) (x 19) (x 20) (x 21) (x 22) (x 23) (x 24) (x 25) (x 26) K Q (hd 18 (by kernel_rfl)) (hd 14 (by kernel_rfl)) (hK (.bool true) W rfl (Below.refl _ _))
    | 20, _, hd, hK => exact p9_20 W bq g a oa ca y1 y2 y3 y4 y5 y8 y11 y12 y13 y14 y15 y16 y17 y18 y19 y20 y21 y22 y23 y24 y25 y26 y27 y28 y29 y30 y31 y32 y33 y34 y35 y36 y37 y38 y39 y40 y41 y42 y43 y44 y45 y46 y47 y48 y49 y50 y51 y52 y53 y54 y55 y56 y57 y58 y59 y60 (x 0) (x 1) (x 2) (x 3) (x 4) (x 5) (x 6) (x 7) (x 8) (x 9) (x 10) (x 11) (x 12) (x 13) (x 14) (x 15) (x 16) (x 17) (x 18) (x 19) (x 20) (x 21) (x 22) (x 23) (x 24) (x 25) (x 26) K Q (hd 19 (by kernel_rfl)) (hK undef W trivial (Below.refl _ _))
    | 21, _, hd, hK => exact p9_21 W bq g a oa ca y1 y2 y3 y4 y5 y8 y11 y12 y13 y14 y15 y16 y17 y18 y19 y20 y21 y22 y23 y24 y25 y26 y27 y28 y29 y30 y31 y32 y33 y34 y35 y36 y37 y38 y39 y40 y41 y42 y43 y44 y45 y46 y47 y48 y49 y50 y51 y52 y53 y54 y55 y56 y57 y58 y59 y60 (x 0) (x 1) (x 2) (x 3) (x 4) (x 5) (x 6) (x 7) (x 8) (x 9) (x 10) (x 11) (x 12) (x 13) (x 14) (x 15) (x 16) (x 17) (x 18) (x 19) (x 20) (x 21) (x 22) (x 23) (x 24) (x 25) (x 26) K Q (hd 19 (by kernel_rfl)) (hK undef W trivial (Below.refl _ _))
    | 22, _, hd, hK => exact p9_22 W bq g a oa ca y1 y2 y3 y4 y5 y8 y11 y12 y13 y14 y15 y16 y17 y18 y19 y20 y21 y22 y23 y24 y25 y26 y27 y28 y29 y30 y31 y32 y33 y34 y35 y36 y37 y38 y39 y40 y41 y42 y43 y44 y45 y46 y47 y48 y49 y50 y51 y52 y53 y54 y55 y56 y57 y58 y59 y60 (x 0) (x 1) (x 2) (x 3) (x 4) (x 5) (x 6) (x 7) (x 8) (x 9) (x 10) (x 11) (x 12) (x 13) (x 14) (x 15) (x 16) (x 17) (x 18) (x 19) (x 20) (x 21) (x 22) (x 23) (x 24) (x 25) (x 26) K Q (hd 19 (by kernel_rfl)) (hK undef W trivial (Below.refl _ _))
    | 23, _, hd, hK => exact p9_23 W bq g a oa ca y1 y2 y3 y4 y5 y8 y11 y12 y13 y14 y15 y16 y17 y18 y19 y20 y21 y22 y23 y24 y25 y26 y27 y28 y29 y30 y31 y32 y33 y34 y35 y36 y37 y38 y39 y40 y41 y42 y43 y44 y45 y46 y47 y48 y49 y50 y51 y52 y53 y54 y55 y56 y57 y58 y59 y60 (x 0) (x 1) (x 2) (x 3) (x 4) (x 5) (x 6) (x 7) (x 8) (x 9) (x 10) (x 11) (x 12) (x 13) (x 14) (x 15) (x 16) (x 17) (x 18) (x 19) (x 20) (x 21) (x 22) (x 23) (x 24) (x 25) (x 26) K Q (hd 19 (by kernel_rfl)) (hK undef W trivial (Below.refl _ _))
    | 24, _, hd, hK => exact p9_24 W bq g a oa ca y1 y2 y3 y4 y5 y8 y11 y12 y13 y14 y15 y16 y17 y18 y19 y20 y21 y22 y23 y24 y25 y26 y27 y28 y29 y30 y31 y32 y33 y34 y35 y36 y37 y38 y39 y40 y41 y42 y43 y44 y45 y46 y47 y48 y49 y50 y51 y52 y53 y54 y55 y56 y57 y58 y59 y60 (x 0) (x 1) (x 2) (x 3) (x 4) (x 5) (x 6) (x 7) (x 8) (x 9) (x 10) (x 11) (x 12) (x 13) (x 14) (x 15) (x 16) (x 17) (x 18) (x 19) (x 20) (x 21) (x 22) (x 23) (x 24) (x 25) (x 26) K Q (hd 19 (by kernel_rfl)) (hd 14 (by kernel_rfl)) (hK (.bool true) W rfl (Below.refl _ _))
    | 25, _, hd, hK => exact p9_25 W bq g a oa ca y1 y2 y3 y4 y5 y8 y11 y12 y13 y14 y15 y16 y17 y18 y19 y20 y21 y22 y23 y24 y25 y26 y27 y28 y29 y30 y31 y32 y33 y34 y35 y36 y37 y38 y39 y40 y41 y42 y43 y44 y45 y46 y47 y48 y49 y50 y51 y52 y53 y54 y55 y56 y57 y58 y59 y60 (x 0) (x 1) (x 2) (x 3) (x 4) (x 5) (x 6) (x 7) (x 8) (x 9) (x 10) (x 11) (x 12) (x 13) (x 14) (x 15) (x 16) (x 17) (x 18) (x 19) (x 20) (x 21) (x 22) (x 23) (x 24) (x 25) (x 26) K Q (hd 14 (by kernel_rfl)) (hd 24 (by kernel_rfl)) (hK (.bool true) W rfl (Below.refl _ _))
    | 26, _, hd, hK => exact p9_26 W bq g a oa ca y1 y2 y3 y4 y5 y8 y11 y12 y13 y14 y15 y16 y17 y18 y19 y20 y21 y22 y23 y24 y25 y26 y27 y28 y29 y30 y31 y32 y33 y34 y35 y36 y37 y38 y39 y40 y41 y42 y43 y44 y45 y46 y47 y48 y49 y50 y51 y52 y53 y54 y55 y56 y57 y58 y59 y60 (x 0) (x 1) (x 2) (x 3) (x 4) (x 5) (x 6) (x 7) (x 8) (x 9) (x 10) (x 11) (x 12) (x 13) (x 14) (x 15) (x 16) (x 17) (x 18) (x 19) (x 20) (x 21) (x 22) (x 23) (x 24) (x 25) (x 26) K Q (hd 25 (by kernel_rfl)) (hK (.bool true) W rfl (Below.refl _ _))
    | n + 27, hi, _, _ => exact absurd hi (by rw [hsz]; omega)
  · intro x W hS h
    exact hend x W hS (h 26 (by rw [hsz]; omega))

end Go.Proofs.Ythjpljdohbfihaa
