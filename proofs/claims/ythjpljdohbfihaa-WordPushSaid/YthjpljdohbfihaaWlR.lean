/-
  The region of the law WordPush that appends both lists and pushes them: its operations.
-/
import Derived.Test.YthjpljdohbfihaaWlM
import Derived.Test.YthjpljdohbfihaaFactsI
namespace Go.Proofs.Ythjpljdohbfihaa
open Go.RowKit

theorem resB_grown {X Y : World} {g : Nat} {row : Option Nat} (h : ResB X g) (hg : X.grownBy Y row) (hr : row ≠ some g) : ResB Y g := by
  obtain ⟨u, t, h⟩ := h
  exact ⟨u, t, (hg.block g (Array.getElem?_eq_some_iff.1 h).1 (fun e => hr e.symm)).trans h⟩
theorem resB_new (X : World) : ResB (X.alloc (.cells #[.slice none 0 0, .slice none 0 0] 24)) X.heap.size := (ResAt.new X).resB
theorem own_ne {X : World} {B g n : Nat} {v : Value} {xs : List Value} (h : X.ownsRow B 3 1 v n xs) (hr : ResB X g) : v.ownBlock ≠ some g := by
  intro e
  obtain ⟨u, t, hr⟩ := hr
  obtain ⟨-, ⟨hv, _⟩ | ⟨b, cap, arr, rfl, -, hh, -⟩⟩ := h
  · rw [hv] at e
    simp [Value.ownBlock] at e
  · simp only [Value.ownBlock, Option.some.injEq] at e
    subst e
    rw [hh] at hr
    simp at hr
theorem resB_lt {X : World} {g : Nat} (h : ResB X g) : g < X.heap.size := by
  obtain ⟨u, t, h⟩ := h
  exact (Array.getElem?_eq_some_iff.1 h).1
/-- a row of no numbers that was made just now -/
theorem own_zero (W : World) (base : Nat) (hb : base ≤ W.heap.size) : (W.alloc (.cells #[] 3)).ownsRow base 3 1 (.slice (some ⟨W.heap.size, 0, none⟩) 0 0) 0 [] :=
  ⟨rfl, .inr ⟨W.heap.size, 0, #[], rfl, hb, heap_alloc_new W _, Nat.le_refl _, by decide, rfl, rfl⟩⟩

set_option maxRecDepth 100000 in
set_option maxHeartbeats 1000000 in
theorem p8_0 (W : World) (B bw : Nat) (a b s l : List Int) (oa : Option Addr) (ca : Nat) (ob : Option Addr) (cb : Nat) (o1 : Option Addr) (c1 : Nat) (o2 : Option Addr) (c2 : Nat) (y2 y3 y4 y6 y7 y8 y9 y11 y12 y13 y14 y15 y16 y17 y18 y19 y20 y21 y22 y23 y24 y25 y26 y27 y28 y29 y30 y31 y32 y33 y34 y35 y36 y37 y38 y39 y40 y41 y42 y43 y44 y45 y46 y47 y48 y49 y50 y51 y52 y53 : Value) (x0 x1 x2 x3 x4 x5 x6 x7 : Value) (K : Act → World → Prop) (Q : Exit → Act → World → Prop) (hB : B ≤ W.heap.size)
    
    (hK : ∀ v w', w'.ownsRow B 3 1 v 0 [] → Below W.heap.size W w' → K { tmps := #[.slice oa a.length ca, .slice ob b.length cb, y2, y3, y4, .pointer (some ⟨bw, 0, none⟩), y6, y7, y8, y9, x7, y11, y12, y13, y14, y15, y16, y17, y18, y19, y20, y21, y22, y23, y24, y25, y26, y27, y28, y29, y30, y31, y32, y33, y34, y35, y36, y37, y38, y39, y40, y41, y42, y43, y44, y45, y46, y47, y48, y49, y50, y51, y52, y53, v, x1, x2, x3, x4, x5, x6, undef, undef, undef, undef, undef, undef, undef, undef, undef, undef, undef, undef, undef, undef, undef, undef, undef, undef, undef, undef, undef, undef, undef, undef, undef, undef], defers := [] } w') :
    wpOp Try.prog (opsAt Try.f8 8) Q 0 K { tmps := #[.slice oa a.length ca, .slice ob b.length cb, y2, y3, y4, .pointer (some ⟨bw, 0, none⟩), y6, y7, y8, y9, x7, y11, y12, y13, y14, y15, y16, y17, y18, y19, y20, y21, y22, y23, y24, y25, y26, y27, y28, y29, y30, y31, y32, y33, y34, y35, y36, y37, y38, y39, y40, y41, y42, y43, y44, y45, y46, y47, y48, y49, y50, y51, y52, y53, x0, x1, x2, x3, x4, x5, x6, undef, undef, undef, undef, undef, undef, undef, undef, undef, undef, undef, undef, undef, undef, undef, undef, undef, undef, undef, undef, undef, undef, undef, undef, undef, undef], defers := [] } W := by
  unfold opsAt Try.f8
  simp only [findRegion, Nat.reduceBEq, if_true, if_false, Bool.false_eq_true, Option.getD_some]
  refine wpOp_of_list' rfl ?_
  go_wp2_with fail
  exact hK _ _ (own_zero W B hB) (below_new _ _)
set_option maxRecDepth 100000 in
set_option maxHeartbeats 1000000 in
theorem p8_1 (W : World) (B bw : Nat) (a b s l : List Int) (oa : Option Addr) (ca : Nat) (ob : Option Addr) (cb : Nat) (o1 : Option Addr) (c1 : Nat) (o2 : Option Addr) (c2 : Nat) (y2 y3 y4 y6 y7 y8 y9 y11 y12 y13 y14 y15 y16 y17 y18 y19 y20 y21 y22 y23 y24 y25 y26 y27 y28 y29 y30 y31 y32 y33 y34 y35 y36 y37 y38 y39 y40 y41 y42 y43 y44 y45 y46 y47 y48 y49 y50 y51 y52 y53 : Value) (x0 x1 x2 x3 x4 x5 x6 x7 : Value) (K : Act → World → Prop) (Q : Exit → Act → World → Prop) (hB : B ≤ W.heap.size)
    
    (hK : K { tmps := #[.slice oa a.length ca, .slice ob b.length cb, y2, y3, y4, .pointer (some ⟨bw, 0, none⟩), y6, y7, y8, y9, x7, y11, y12, y13, y14, y15, y16, y17, y18, y19, y20, y21, y22, y23, y24, y25, y26, y27, y28, y29, y30, y31, y32, y33, y34, y35, y36, y37, y38, y39, y40, y41, y42, y43, y44, y45, y46, y47, y48, y49, y50, y51, y52, y53, x0, .slice oa a.length ca, x2, x3, x4, x5, x6, undef, undef, undef, undef, undef, undef, undef, undef, undef, undef, undef, undef, undef, undef, undef, undef, undef, undef, undef, undef, undef, undef, undef, undef, undef, undef], defers := [] } W) :
    wpOp Try.prog (opsAt Try.f8 8) Q 1 K { tmps := #[.slice oa a.length ca, .slice ob b.length cb, y2, y3, y4, .pointer (some ⟨bw, 0, none⟩), y6, y7, y8, y9, x7, y11, y12, y13, y14, y15, y16, y17, y18, y19, y20, y21, y22, y23, y24, y25, y26, y27, y28, y29, y30, y31, y32, y33, y34, y35, y36, y37, y38, y39, y40, y41, y42, y43, y44, y45, y46, y47, y48, y49, y50, y51, y52, y53, x0, x1, x2, x3, x4, x5, x6, undef, undef, undef, undef, undef, undef, undef, undef, undef, undef, undef, undef, undef, undef, undef, undef, undef, undef, undef, undef, undef, undef, undef, undef, undef, undef], defers := [] } W := by
  unfold opsAt Try.f8
  simp only [findRegion, Nat.reduceBEq, if_true, if_false, Bool.false_eq_true, Option.getD_some]
  refine wpOp_of_list' rfl ?_
  go_wp2_with fail
  exact hK
set_option maxRecDepth 100000 in
set_option maxHeartbeats 1000000 in
theorem p8_2 (W : World) (B bw : Nat) (a b s l : List Int) (oa : Option Addr) (ca : Nat) (ob : Option Addr) (cb : Nat) (o1 : Option Addr) (c1 : Nat) (o2 : Option Addr) (c2 : Nat) (y2 y3 y4 y6 y7 y8 y9 y11 y12 y13 y14 y15 y16 y17 y18 y19 y20 y21 y22 y23 y24 y25 y26 y27 y28 y29 y30 y31 y32 y33 y34 y35 y36 y37 y38 y39 y40 y41 y42 y43 y44 y45 y46 y47 y48 y49 y50 y51 y52 y53 : Value) (x0 x1 x2 x3 x4 x5 x6 x7 : Value) (K : Act → World → Prop) (Q : Exit → Act → World → Prop) (hB : B ≤ W.heap.size)
    (q0 : W.ownsRow B 3 1 x0 0 []) (q1 : x1 = .slice oa a.length ca) (kA : IntsAt W.heap.size W (.slice oa a.length ca) a) (ha : a.length ≤ 80)
    (hK : ∀ v w', w'.ownsRow B 3 1 v a.length (a.map (Value.int .i64)) → W.grownBy w' x0.ownBlock → K { tmps := #[.slice oa a.length ca, .slice ob b.length cb, y2, y3, y4, .pointer (some ⟨bw, 0, none⟩), y6, y7, y8, y9, x7, y11, y12, y13, y14, y15, y16, y17, y18, y19, y20, y21, y22, y23, y24, y25, y26, y27, y28, y29, y30, y31, y32, y33, y34, y35, y36, y37, y38, y39, y40, y41, y42, y43, y44, y45, y46, y47, y48, y49, y50, y51, y52, y53, x0, x1, v, x3, x4, x5, x6, undef, undef, undef, undef, undef, undef, undef, undef, undef, undef, undef, undef, undef, undef, undef, undef, undef, undef, undef, undef, undef, undef, undef, undef, undef, undef], defers := [] } w') :
    wpOp Try.prog (opsAt Try.f8 8) Q 2 K { tmps := #[.slice oa a.length ca, .slice ob b.length cb, y2, y3, y4, .pointer (some ⟨bw, 0, none⟩), y6, y7, y8, y9, x7, y11, y12, y13, y14, y15, y16, y17, y18, y19, y20, y21, y22, y23, y24, y25, y26, y27, y28, y29, y30, y31, y32, y33, y34, y35, y36, y37, y38, y39, y40, y41, y42, y43, y44, y45, y46, y47, y48, y49, y50, y51, y52, y53, x0, x1, x2, x3, x4, x5, x6, undef, undef, undef, undef, undef, undef, undef, undef, undef, undef, undef, undef, undef, undef, undef, undef, undef, undef, undef, undef, undef, undef, undef, undef, undef, undef], defers := [] } W := by
  subst q1
  unfold opsAt Try.f8
  simp only [findRegion, Nat.reduceBEq, if_true, if_false, Bool.false_eq_true, Option.getD_some]
  refine wpOp_of_list' rfl ?_
  refine wpList_append_ints rfl (.tmp 54) (.tmp 55) rfl B x0 0 [] (by simp [Act.eval]) q0 hB W.heap.size (.slice oa a.length ca) a (by simp [Act.eval]) kA (by omega) ?_
  intro v6 w6 hown6 hgrow6
  rw [Nat.zero_add, List.nil_append] at hown6
  have hK6 := hK _ _ hown6 hgrow6
  clear hown6 hgrow6 q0 hK
  go_wp2_with fail
  exact hK6
set_option maxRecDepth 100000 in
set_option maxHeartbeats 1000000 in
theorem p8_3 (W : World) (B bw : Nat) (a b s l : List Int) (oa : Option Addr) (ca : Nat) (ob : Option Addr) (cb : Nat) (o1 : Option Addr) (c1 : Nat) (o2 : Option Addr) (c2 : Nat) (y2 y3 y4 y6 y7 y8 y9 y11 y12 y13 y14 y15 y16 y17 y18 y19 y20 y21 y22 y23 y24 y25 y26 y27 y28 y29 y30 y31 y32 y33 y34 y35 y36 y37 y38 y39 y40 y41 y42 y43 y44 y45 y46 y47 y48 y49 y50 y51 y52 y53 : Value) (x0 x1 x2 x3 x4 x5 x6 x7 : Value) (K : Act → World → Prop) (Q : Exit → Act → World → Prop) (hB : B ≤ W.heap.size)
    
    (hK : K { tmps := #[.slice oa a.length ca, .slice ob b.length cb, y2, y3, y4, .pointer (some ⟨bw, 0, none⟩), y6, y7, y8, y9, x7, y11, y12, y13, y14, y15, y16, y17, y18, y19, y20, y21, y22, y23, y24, y25, y26, y27, y28, y29, y30, y31, y32, y33, y34, y35, y36, y37, y38, y39, y40, y41, y42, y43, y44, y45, y46, y47, y48, y49, y50, y51, y52, y53, x0, x1, x2, .slice ob b.length cb, x4, x5, x6, undef, undef, undef, undef, undef, undef, undef, undef, undef, undef, undef, undef, undef, undef, undef, undef, undef, undef, undef, undef, undef, undef, undef, undef, undef, undef], defers := [] } W) :
    wpOp Try.prog (opsAt Try.f8 8) Q 3 K { tmps := #[.slice oa a.length ca, .slice ob b.length cb, y2, y3, y4, .pointer (some ⟨bw, 0, none⟩), y6, y7, y8, y9, x7, y11, y12, y13, y14, y15, y16, y17, y18, y19, y20, y21, y22, y23, y24, y25, y26, y27, y28, y29, y30, y31, y32, y33, y34, y35, y36, y37, y38, y39, y40, y41, y42, y43, y44, y45, y46, y47, y48, y49, y50, y51, y52, y53, x0, x1, x2, x3, x4, x5, x6, undef, undef, undef, undef, undef, undef, undef, undef, undef, undef, undef, undef, undef, undef, undef, undef, undef, undef, undef, undef, undef, undef, undef, undef, undef, undef], defers := [] } W := by
  unfold opsAt Try.f8
  simp only [findRegion, Nat.reduceBEq, if_true, if_false, Bool.false_eq_true, Option.getD_some]
  refine wpOp_of_list' rfl ?_
  go_wp2_with fail
  exact hK
set_option maxRecDepth 100000 in
set_option maxHeartbeats 1000000 in
theorem p8_4 (W : World) (B bw : Nat) (a b s l : List Int) (oa : Option Addr) (ca : Nat) (ob : Option Addr) (cb : Nat) (o1 : Option Addr) (c1 : Nat) (o2 : Option Addr) (c2 : Nat) (y2 y3 y4 y6 y7 y8 y9 y11 y12 y13 y14 y15 y16 y17 y18 y19 y20 y21 y22 y23 y24 y25 y26 y27 y28 y29 y30 y31 y32 y33 y34 y35 y36 y37 y38 y39 y40 y41 y42 y43 y44 y45 y46 y47 y48 y49 y50 y51 y52 y53 : Value) (x0 x1 x2 x3 x4 x5 x6 x7 : Value) (K : Act → World → Prop) (Q : Exit → Act → World → Prop) (hB : B ≤ W.heap.size)
    (q2 : W.ownsRow B 3 1 x2 a.length (a.map (Value.int .i64))) (q3 : x3 = .slice ob b.length cb) (kB : IntsAt W.heap.size W (.slice ob b.length cb) b) (ha : a.length ≤ 80) (hb : b.length ≤ 80)
    (hK : ∀ v w', w'.ownsRow B 3 1 v (a.length + b.length) ((a ++ b).map (Value.int .i64)) → W.grownBy w' x2.ownBlock → K { tmps := #[.slice oa a.length ca, .slice ob b.length cb, y2, y3, y4, .pointer (some ⟨bw, 0, none⟩), y6, y7, y8, y9, x7, y11, y12, y13, y14, y15, y16, y17, y18, y19, y20, y21, y22, y23, y24, y25, y26, y27, y28, y29, y30, y31, y32, y33, y34, y35, y36, y37, y38, y39, y40, y41, y42, y43, y44, y45, y46, y47, y48, y49, y50, y51, y52, y53, x0, x1, x2, x3, v, x5, x6, undef, undef, undef, undef, undef, undef, undef, undef, undef, undef, undef, undef, undef, undef, undef, undef, undef, undef, undef, undef, undef, undef, undef, undef, undef, undef], defers := [] } w') :
    wpOp Try.prog (opsAt Try.f8 8) Q 4 K { tmps := #[.slice oa a.length ca, .slice ob b.length cb, y2, y3, y4, .pointer (some ⟨bw, 0, none⟩), y6, y7, y8, y9, x7, y11, y12, y13, y14, y15, y16, y17, y18, y19, y20, y21, y22, y23, y24, y25, y26, y27, y28, y29, y30, y31, y32, y33, y34, y35, y36, y37, y38, y39, y40, y41, y42, y43, y44, y45, y46, y47, y48, y49, y50, y51, y52, y53, x0, x1, x2, x3, x4, x5, x6, undef, undef, undef, undef, undef, undef, undef, undef, undef, undef, undef, undef, undef, undef, undef, undef, undef, undef, undef, undef, undef, undef, undef, undef, undef, undef], defers := [] } W := by
  subst q3
  unfold opsAt Try.f8
  simp only [findRegion, Nat.reduceBEq, if_true, if_false, Bool.false_eq_true, Option.getD_some]
  refine wpOp_of_list' rfl ?_
  refine wpList_append_ints rfl (.tmp 56) (.tmp 57) rfl B x2 a.length (a.map (Value.int .i64)) (by simp [Act.eval]) q2 hB W.heap.size (.slice ob b.length cb) b (by simp [Act.eval]) kB (by omega) ?_
  intro v7 w7 hown7 hgrow7
  rw [← List.map_append] at hown7
  have hK7 := hK _ _ hown7 hgrow7
  clear hown7 hgrow7 q2 hK
  go_wp2_with fail
  exact hK7
set_option maxRecDepth 100000 in
set_option maxHeartbeats 1000000 in
theorem p8_5 (W : World) (B bw : Nat) (a b s l : List Int) (oa : Option Addr) (ca : Nat) (ob : Option Addr) (cb : Nat) (o1 : Option Addr) (c1 : Nat) (o2 : Option Addr) (c2 : Nat) (y2 y3 y4 y6 y7 y8 y9 y11 y12 y13 y14 y15 y16 y17 y18 y19 y20 y21 y22 y23 y24 y25 y26 y27 y28 y29 y30 y31 y32 y33 y34 y35 y36 y37 y38 y39 y40 y41 y42 y43 y44 y45 y46 y47 y48 y49 y50 y51 y52 y53 : Value) (x0 x1 x2 x3 x4 x5 x6 x7 : Value) (K : Act → World → Prop) (Q : Exit → Act → World → Prop) (hB : B ≤ W.heap.size)
    (k0 : W.cell? ⟨bw, 0, none⟩ = some (.slice o1 s.length c1)) (k1 : W.cell? ⟨bw, 1, none⟩ = some (.slice o2 l.length c2))
    (hK : K { tmps := #[.slice oa a.length ca, .slice ob b.length cb, y2, y3, y4, .pointer (some ⟨bw, 0, none⟩), y6, y7, y8, y9, x7, y11, y12, y13, y14, y15, y16, y17, y18, y19, y20, y21, y22, y23, y24, y25, y26, y27, y28, y29, y30, y31, y32, y33, y34, y35, y36, y37, y38, y39, y40, y41, y42, y43, y44, y45, y46, y47, y48, y49, y50, y51, y52, y53, x0, x1, x2, x3, x4, .agg #[.slice o1 s.length c1, .slice o2 l.length c2], x6, undef, undef, undef, undef, undef, undef, undef, undef, undef, undef, undef, undef, undef, undef, undef, undef, undef, undef, undef, undef, undef, undef, undef, undef, undef, undef], defers := [] } W) :
    wpOp Try.prog (opsAt Try.f8 8) Q 5 K { tmps := #[.slice oa a.length ca, .slice ob b.length cb, y2, y3, y4, .pointer (some ⟨bw, 0, none⟩), y6, y7, y8, y9, x7, y11, y12, y13, y14, y15, y16, y17, y18, y19, y20, y21, y22, y23, y24, y25, y26, y27, y28, y29, y30, y31, y32, y33, y34, y35, y36, y37, y38, y39, y40, y41, y42, y43, y44, y45, y46, y47, y48, y49, y50, y51, y52, y53, x0, x1, x2, x3, x4, x5, x6, undef, undef, undef, undef, undef, undef, undef, undef, undef, undef, undef, undef, undef, undef, undef, undef, undef, undef, undef, undef, undef, undef, undef, undef, undef, undef], defers := [] } W := by
  unfold opsAt Try.f8
  simp only [findRegion, Nat.reduceBEq, if_true, if_false, Bool.false_eq_true, Option.getD_some]
  refine wpOp_of_list' rfl ?_
  go_wp2_with fail
  exact hK
set_option maxRecDepth 100000 in
set_option maxHeartbeats 1000000 in
theorem p8_6 (W : World) (B bw : Nat) (a b s l : List Int) (oa : Option Addr) (ca : Nat) (ob : Option Addr) (cb : Nat) (o1 : Option Addr) (c1 : Nat) (o2 : Option Addr) (c2 : Nat) (y2 y3 y4 y6 y7 y8 y9 y11 y12 y13 y14 y15 y16 y17 y18 y19 y20 y21 y22 y23 y24 y25 y26 y27 y28 y29 y30 y31 y32 y33 y34 y35 y36 y37 y38 y39 y40 y41 y42 y43 y44 y45 y46 y47 y48 y49 y50 y51 y52 y53 : Value) (x0 x1 x2 x3 x4 x5 x6 x7 : Value) (K : Act → World → Prop) (Q : Exit → Act → World → Prop) (hB : B ≤ W.heap.size)
    (q4 : IntsAt W.heap.size W x4 (a ++ b)) (q5 : x5 = .agg #[.slice o1 s.length c1, .slice o2 l.length c2]) (kL : LasAt W.heap.size W (.agg #[.slice o1 s.length c1, .slice o2 l.length c2]) s l) (ha : a.length ≤ 80) (hb : b.length ≤ 80)
    (hK : ∀ v w', NewLas W.heap.size w' v (pushL (a ++ b) s l).1 (pushL (a ++ b) s l).2 → Below W.heap.size W w' → K { tmps := #[.slice oa a.length ca, .slice ob b.length cb, y2, y3, y4, .pointer (some ⟨bw, 0, none⟩), y6, y7, y8, y9, x7, y11, y12, y13, y14, y15, y16, y17, y18, y19, y20, y21, y22, y23, y24, y25, y26, y27, y28, y29, y30, y31, y32, y33, y34, y35, y36, y37, y38, y39, y40, y41, y42, y43, y44, y45, y46, y47, y48, y49, y50, y51, y52, y53, x0, x1, x2, x3, x4, x5, v, undef, undef, undef, undef, undef, undef, undef, undef, undef, undef, undef, undef, undef, undef, undef, undef, undef, undef, undef, undef, undef, undef, undef, undef, undef, undef], defers := [] } w') :
    wpOp Try.prog (opsAt Try.f8 8) Q 6 K { tmps := #[.slice oa a.length ca, .slice ob b.length cb, y2, y3, y4, .pointer (some ⟨bw, 0, none⟩), y6, y7, y8, y9, x7, y11, y12, y13, y14, y15, y16, y17, y18, y19, y20, y21, y22, y23, y24, y25, y26, y27, y28, y29, y30, y31, y32, y33, y34, y35, y36, y37, y38, y39, y40, y41, y42, y43, y44, y45, y46, y47, y48, y49, y50, y51, y52, y53, x0, x1, x2, x3, x4, x5, x6, undef, undef, undef, undef, undef, undef, undef, undef, undef, undef, undef, undef, undef, undef, undef, undef, undef, undef, undef, undef, undef, undef, undef, undef, undef, undef], defers := [] } W := by
  subst q5
  unfold opsAt Try.f8
  simp only [findRegion, Nat.reduceBEq, if_true, if_false, Bool.false_eq_true, Option.getD_some]
  refine wpOp_of_list' rfl ?_
  go_wp2_with (go_at_call 26; refine (push_any W.heap.size x4 _ (a ++ b) s l _ q4 kL (Nat.le_refl _) (by rw [List.length_append]; omega)).mono ?_; rintro e w8 ⟨r8, rfl, hN8, hb8⟩)
  exact hK _ _ hN8 hb8
set_option maxRecDepth 100000 in
set_option maxHeartbeats 1000000 in
theorem p8_7 (W : World) (B bw : Nat) (a b s l : List Int) (oa : Option Addr) (ca : Nat) (ob : Option Addr) (cb : Nat) (o1 : Option Addr) (c1 : Nat) (o2 : Option Addr) (c2 : Nat) (y2 y3 y4 y6 y7 y8 y9 y11 y12 y13 y14 y15 y16 y17 y18 y19 y20 y21 y22 y23 y24 y25 y26 y27 y28 y29 y30 y31 y32 y33 y34 y35 y36 y37 y38 y39 y40 y41 y42 y43 y44 y45 y46 y47 y48 y49 y50 y51 y52 y53 : Value) (x0 x1 x2 x3 x4 x5 x6 x7 : Value) (K : Act → World → Prop) (Q : Exit → Act → World → Prop) (hB : B ≤ W.heap.size)
    
    (hK : K { tmps := #[.slice oa a.length ca, .slice ob b.length cb, y2, y3, y4, .pointer (some ⟨bw, 0, none⟩), y6, y7, y8, y9, .pointer (some ⟨W.heap.size, 0, none⟩), y11, y12, y13, y14, y15, y16, y17, y18, y19, y20, y21, y22, y23, y24, y25, y26, y27, y28, y29, y30, y31, y32, y33, y34, y35, y36, y37, y38, y39, y40, y41, y42, y43, y44, y45, y46, y47, y48, y49, y50, y51, y52, y53, x0, x1, x2, x3, x4, x5, x6, undef, undef, undef, undef, undef, undef, undef, undef, undef, undef, undef, undef, undef, undef, undef, undef, undef, undef, undef, undef, undef, undef, undef, undef, undef, undef], defers := [] } (W.alloc (.cells #[.slice none 0 0, .slice none 0 0] 24))) :
    wpOp Try.prog (opsAt Try.f8 8) Q 7 K { tmps := #[.slice oa a.length ca, .slice ob b.length cb, y2, y3, y4, .pointer (some ⟨bw, 0, none⟩), y6, y7, y8, y9, x7, y11, y12, y13, y14, y15, y16, y17, y18, y19, y20, y21, y22, y23, y24, y25, y26, y27, y28, y29, y30, y31, y32, y33, y34, y35, y36, y37, y38, y39, y40, y41, y42, y43, y44, y45, y46, y47, y48, y49, y50, y51, y52, y53, x0, x1, x2, x3, x4, x5, x6, undef, undef, undef, undef, undef, undef, undef, undef, undef, undef, undef, undef, undef, undef, undef, undef, undef, undef, undef, undef, undef, undef, undef, undef, undef, undef], defers := [] } W := by
  unfold opsAt Try.f8
  simp only [findRegion, Nat.reduceBEq, if_true, if_false, Bool.false_eq_true, Option.getD_some]
  refine wpOp_of_list' rfl ?_
  go_wp2_with fail
  exact hK
set_option maxRecDepth 100000 in
set_option maxHeartbeats 1000000 in
theorem p8_8 (W : World) (B bw : Nat) (a b s l : List Int) (oa : Option Addr) (ca : Nat) (ob : Option Addr) (cb : Nat) (o1 : Option Addr) (c1 : Nat) (o2 : Option Addr) (c2 : Nat) (y2 y3 y4 y6 y7 y8 y9 y11 y12 y13 y14 y15 y16 y17 y18 y19 y20 y21 y22 y23 y24 y25 y26 y27 y28 y29 y30 y31 y32 y33 y34 y35 y36 y37 y38 y39 y40 y41 y42 y43 y44 y45 y46 y47 y48 y49 y50 y51 y52 y53 : Value) (x0 x1 x2 x3 x4 x5 x6 x7 : Value) (K : Act → World → Prop) (Q : Exit → Act → World → Prop) (hB : B ≤ W.heap.size)
    (u t : Value) (q6 : x6 = .agg #[u, t]) (g : Nat) (q7 : x7 = .pointer (some ⟨g, 0, none⟩)) (z : ResB W g) (hu : ∃ o n c, u = .slice o n c) (ht : ∃ o n c, t = .slice o n c)
    (hK : K { tmps := #[.slice oa a.length ca, .slice ob b.length cb, y2, y3, y4, .pointer (some ⟨bw, 0, none⟩), y6, y7, y8, y9, x7, y11, y12, y13, y14, y15, y16, y17, y18, y19, y20, y21, y22, y23, y24, y25, y26, y27, y28, y29, y30, y31, y32, y33, y34, y35, y36, y37, y38, y39, y40, y41, y42, y43, y44, y45, y46, y47, y48, y49, y50, y51, y52, y53, x0, x1, x2, x3, x4, x5, x6, undef, undef, undef, undef, undef, undef, undef, undef, undef, undef, undef, undef, undef, undef, undef, undef, undef, undef, undef, undef, undef, undef, undef, undef, undef, undef], defers := [] } ((W.setCell ⟨g, 0, none⟩ u).setCell ⟨g, 1, none⟩ t)) :
    wpOp Try.prog (opsAt Try.f8 8) Q 8 K { tmps := #[.slice oa a.length ca, .slice ob b.length cb, y2, y3, y4, .pointer (some ⟨bw, 0, none⟩), y6, y7, y8, y9, x7, y11, y12, y13, y14, y15, y16, y17, y18, y19, y20, y21, y22, y23, y24, y25, y26, y27, y28, y29, y30, y31, y32, y33, y34, y35, y36, y37, y38, y39, y40, y41, y42, y43, y44, y45, y46, y47, y48, y49, y50, y51, y52, y53, x0, x1, x2, x3, x4, x5, x6, undef, undef, undef, undef, undef, undef, undef, undef, undef, undef, undef, undef, undef, undef, undef, undef, undef, undef, undef, undef, undef, undef, undef, undef, undef, undef], defers := [] } W := by
  subst q6 q7
  obtain ⟨p, n, c, rfl⟩ := hu
  obtain ⟨p', n', c', rfl⟩ := ht
  obtain ⟨f0, f1, z0, z1, y0, y1⟩ := z.cells
  unfold opsAt Try.f8
  simp only [findRegion, Nat.reduceBEq, if_true, if_false, Bool.false_eq_true, Option.getD_some]
  refine wpOp_of_list' rfl ?_
  go_wp2_with fail
  exact hK

end Go.Proofs.Ythjpljdohbfihaa
