/-
  The contract of the law's head: it returns true.
-/
import Derived.Test.YtcbddplgleeiiaaWlE
namespace Go.Proofs.Ytcbddplgleeiiaa
open Go.RowKit

theorem tab_two (W : World) (u v : Value) (r s : List Int) (h : IntsAt W.heap.size W u r) (k : IntsAt W.heap.size W v s) : TabAt (W.alloc (.cells #[u, v] 22)).heap.size (W.alloc (.cells #[u, v] 22)) (.slice (some ⟨W.heap.size, 0, none⟩) 2 2) [r, s] := by
  have hB : Below W.heap.size W (W.alloc (.cells #[u, v] 22)) := (Below.refl _ _).alloc (Nat.le_refl _) _
  refine .inr ⟨W.heap.size, 0, 2, rfl, by simp, Nat.le_refl _, by decide, fun i hi => ?_⟩
  match i, hi with
  | 0, _ => exact ⟨u, cell_of_row _ _ 0 _ _ _ (heap_alloc_new W _), (h.below hB (Nat.le_refl _)).mono hB.size⟩
  | 1, _ => exact ⟨v, cell_of_row _ _ 1 _ _ _ (heap_alloc_new W _), (k.below hB (Nat.le_refl _)).mono hB.size⟩

theorem IntsAt.next {w w' : World} {v : Value} {xs : List Int} (h : IntsAt w.heap.size w v xs) (hB : Below w.heap.size w w') : IntsAt w'.heap.size w' v xs := (h.below hB (Nat.le_refl _)).mono hB.size
theorem LasAt.next {w w' : World} {v : Value} {s l : List Int} (h : LasAt w.heap.size w v s l) (hB : Below w.heap.size w w') : LasAt w'.heap.size w' v s l := (h.below hB (Nat.le_refl _)).mono hB.size
theorem TabAt.next {w w' : World} {v : Value} {T : List (List Int)} (h : TabAt w.heap.size w v T) (hB : Below w.heap.size w w') : TabAt w'.heap.size w' v T := (h.below hB (Nat.le_refl _)).mono hB.size
theorem below_new (w : World) (o : Obj) : Below w.heap.size w (w.alloc o) := (Below.refl _ _).alloc (Nat.le_refl _) _
theorem ints_made' (w : World) (xs : List Int) (n : Nat) (hn : n = xs.length) (h : xs.all (fun x => decide (-9223372036854775808 ≤ x) && decide (x ≤ 9223372036854775807)) = true) (hl : xs.length ≤ 500000) :
    IntsAt (w.alloc (.cells (xs.map (Value.int .i64)).toArray 3)).heap.size (w.alloc (.cells (xs.map (Value.int .i64)).toArray 3)) (.slice (some ⟨w.heap.size, 0, none⟩) n n) xs := (ints_made w xs n hn h hl).mono (by simp)

set_option maxRecDepth 100000 in
set_option maxHeartbeats 4000000 in
theorem head_any (w : World) : Calls Try.prog 10 #[] w fun e w' => e = .returned (.bool true) ∧ Below w.heap.size w w' := by
  go_enter Try.func10, Try.ntmps10
  go_wp2_with fail
  have i1 : IntsAt (w.alloc (.cells #[.int .i64 1] 3)).heap.size (w.alloc (.cells #[.int .i64 1] 3)) (.slice (some ⟨w.heap.size, 0, none⟩) 1 1) [1] := ints_made' w [1] 1 rfl (by decide) (by decide)
  have b1 := below_new w (.cells #[.int .i64 1] 3)
  have b2 := below_new (w.alloc (.cells #[.int .i64 1] 3)) (.cells #[.int .i64 2, .int .i64 3] 3)
  replace i1 := i1.next b2
  have i2 : IntsAt ((w.alloc (.cells #[.int .i64 1] 3)).alloc (.cells #[.int .i64 2, .int .i64 3] 3)).heap.size ((w.alloc (.cells #[.int .i64 1] 3)).alloc (.cells #[.int .i64 2, .int .i64 3] 3)) (.slice (some ⟨(w.alloc (.cells #[.int .i64 1] 3)).heap.size, 0, none⟩) 2 2) [2, 3] := ints_made' _ [2, 3] 2 rfl (by decide) (by decide)
  have hB := b1.trans (b2.mono b1.size)
  rw [World.size_alloc w] at i2
  refine (lasso_any _ _ _ _ _ _ _).mono ?_
  rintro e w1 ⟨rfl, hb1⟩
  replace i1 := i1.next hb1
  replace i2 := i2.next hb1
  replace hB := hB.trans (hb1.mono hB.size)
  clear b1 b2 hb1
  go_wp2_with fail
  have b3 := below_new w1 (.cells #[.slice (some ⟨w.heap.size, 0, none⟩) 1 1, .slice (some ⟨w.heap.size + 1, 0, none⟩) 2 2] 24)
  have k0 := hidi (box0 w1 (.slice (some ⟨w.heap.size, 0, none⟩) 1 1) (.slice (some ⟨w.heap.size + 1, 0, none⟩) 2 2) 24)
  have k1 := hidi (box1 w1 (.slice (some ⟨w.heap.size, 0, none⟩) 1 1) (.slice (some ⟨w.heap.size + 1, 0, none⟩) 2 2) 24)
  have kL : Hid (LasAt (w1.alloc (.cells #[.slice (some ⟨w.heap.size, 0, none⟩) 1 1, .slice (some ⟨w.heap.size + 1, 0, none⟩) 2 2] 24)).heap.size (w1.alloc (.cells #[.slice (some ⟨w.heap.size, 0, none⟩) 1 1, .slice (some ⟨w.heap.size + 1, 0, none⟩) 2 2] 24)) (.agg #[.slice (some ⟨w.heap.size, 0, none⟩) 1 1, .slice (some ⟨w.heap.size + 1, 0, none⟩) 2 2]) [1] [2, 3]) := ⟨_, _, rfl, i1.next b3, i2.next b3⟩
  have hbx := box_lt w1 (.cells #[.slice (some ⟨w.heap.size, 0, none⟩) 1 1, .slice (some ⟨w.heap.size + 1, 0, none⟩) 2 2] 24)
  replace hB := hB.trans (b3.mono hB.size)
  clear i1 i2 b3
  revert k0 k1 kL hbx hB
  generalize w1.alloc (.cells #[.slice (some ⟨w.heap.size, 0, none⟩) 1 1, .slice (some ⟨w.heap.size + 1, 0, none⟩) 2 2] 24) = Wb
  generalize w1.heap.size = bx
  intro k0 k1 kL hbx hB
  refine head_r2 Wb bx _ _ _ _ _ 1 _ 2 hbx k0 k1 kL ?_
  intro x W hW hx
  unfold hdFr2
  rw [hx]
  replace hB := hB.trans (hW.mono hB.size)
  replace k0 := hidi ((hW.cell (p := ⟨bx, 0, none⟩) hbx).trans k0.out)
  replace k1 := hidi ((hW.cell (p := ⟨bx, 1, none⟩) hbx).trans k1.out)
  replace kL := hidi (kL.out.next hW)
  replace hbx := Nat.lt_of_lt_of_le hbx hW.size
  clear hW hx
  go_wp2_with fail
  have i1 : IntsAt (W.alloc (.cells #[.int .i64 0, .int .i64 1] 3)).heap.size (W.alloc (.cells #[.int .i64 0, .int .i64 1] 3)) (.slice (some ⟨W.heap.size, 0, none⟩) 2 2) [0, 1] := ints_made' W [0, 1] 2 rfl (by decide) (by decide)
  have c1 := below_new W (.cells #[.int .i64 0, .int .i64 1] 3)
  refine (lasso_any _ _ _ _ _ _ _).mono ?_
  rintro e w2 ⟨rfl, hb2⟩
  replace i1 := i1.next hb2
  have cc := c1.trans (hb2.mono c1.size)
  clear c1 hb2
  go_wp2_with fail
  have i2 : IntsAt (w2.alloc (.cells #[.int .i64 0, .int .i64 0, .int .i64 1] 3)).heap.size (w2.alloc (.cells #[.int .i64 0, .int .i64 0, .int .i64 1] 3)) (.slice (some ⟨w2.heap.size, 0, none⟩) 3 3) [0, 0, 1] := ints_made' w2 [0, 0, 1] 3 rfl (by decide) (by decide)
  have c1 := below_new w2 (.cells #[.int .i64 0, .int .i64 0, .int .i64 1] 3)
  refine (lasso_any _ _ _ _ _ _ _).mono ?_
  rintro e w3 ⟨rfl, hb3⟩
  replace i2 := i2.next hb3
  replace c1 := c1.trans (hb3.mono c1.size)
  replace i1 := i1.next c1
  replace cc := cc.trans (c1.mono cc.size)
  clear c1 hb3
  go_wp2_with fail
  have i3 : IntsAt (w3.alloc (.cells #[.int .i64 0, .int .i64 1] 3)).heap.size (w3.alloc (.cells #[.int .i64 0, .int .i64 1] 3)) (.slice (some ⟨w3.heap.size, 0, none⟩) 2 2) [0, 1] := ints_made' w3 [0, 1] 2 rfl (by decide) (by decide)
  have c1 := below_new w3 (.cells #[.int .i64 0, .int .i64 1] 3)
  have i4 : IntsAt ((w3.alloc (.cells #[.int .i64 0, .int .i64 1] 3)).alloc (.cells #[.int .i64 1, .int .i64 0] 3)).heap.size ((w3.alloc (.cells #[.int .i64 0, .int .i64 1] 3)).alloc (.cells #[.int .i64 1, .int .i64 0] 3)) (.slice (some ⟨(w3.alloc (.cells #[.int .i64 0, .int .i64 1] 3)).heap.size, 0, none⟩) 2 2) [1, 0] := ints_made' _ [1, 0] 2 rfl (by decide) (by decide)
  have c2 := below_new (w3.alloc (.cells #[.int .i64 0, .int .i64 1] 3)) (.cells #[.int .i64 1, .int .i64 0] 3)
  replace i3 := i3.next c2
  rw [World.size_alloc w3] at i4
  have t1 := tab_two _ _ _ _ _ i3 i4
  have c3 := below_new ((w3.alloc (.cells #[.int .i64 0, .int .i64 1] 3)).alloc (.cells #[.int .i64 1, .int .i64 0] 3)) (.cells #[.slice (some ⟨w3.heap.size, 0, none⟩) 2 2, .slice (some ⟨w3.heap.size + 1, 0, none⟩) 2 2] 22)
  replace c1 := (c1.trans (c2.mono c1.size))
  replace c1 := (c1.trans (c3.mono c1.size))
  replace i1 := i1.next c1
  replace i2 := i2.next c1
  replace cc := cc.trans (c1.mono cc.size)
  clear c1 c2 c3 i3 i4
  rw [show ((w3.alloc (.cells #[.int .i64 0, .int .i64 1] 3)).alloc (.cells #[.int .i64 1, .int .i64 0] 3)).heap.size = w3.heap.size + 1 + 1 by simp] at t1
  refine (zip_any _ _ _ _ [] [0, 1] [] [0, 0, 1] [[0, 1], [1, 0]] _ ⟨_, _, rfl, .inl ⟨_, _, rfl, rfl⟩, i1⟩ ⟨_, _, rfl, .inl ⟨_, _, rfl, rfl⟩, i2⟩ t1 (Nat.le_refl _)).mono ?_
  rintro e w4 ⟨r, rfl, hN, hb4⟩
  rw [hd_z1] at hN
  obtain ⟨u5, u4, rfl, J5, J4, -, -⟩ := hN.ex
  obtain ⟨x5, e5, rfl⟩ := J5.shape
  obtain ⟨x4, e4, rfl⟩ := J4.shape
  replace cc := cc.trans (hb4.mono cc.size)
  clear hN hb4 i1 i2 t1
  go_wp2_with fail
  have c5 := below_new w4 (.cells #[.slice x5 0 e5, .slice x4 6 e4] 24)
  have m0 := hidi (box0 w4 (.slice x5 0 e5) (.slice x4 6 e4) 24)
  have m1 := hidi (box1 w4 (.slice x5 0 e5) (.slice x4 6 e4) 24)
  have mL : Hid (LasAt (w4.alloc (.cells #[.slice x5 0 e5, .slice x4 6 e4] 24)).heap.size (w4.alloc (.cells #[.slice x5 0 e5, .slice x4 6 e4] 24)) (.agg #[.slice x5 0 e5, .slice x4 6 e4]) [] [0, 1, 1, 1, 0, 0]) := ⟨_, _, rfl, J5.next c5, J4.next c5⟩
  have hbz := box_lt w4 (.cells #[.slice x5 0 e5, .slice x4 6 e4] 24)
  replace cc := cc.trans (c5.mono cc.size)
  clear c5 J5 J4
  revert m0 m1 mL hbz cc
  generalize w4.alloc (.cells #[.slice x5 0 e5, .slice x4 6 e4] 24) = Wc
  generalize w4.heap.size = bz
  intro m0 m1 mL hbz cc
  replace hB := hB.trans (cc.mono hB.size)
  replace k0 := hidi ((cc.cell (p := ⟨bx, 0, none⟩) hbx).trans k0.out)
  replace k1 := hidi ((cc.cell (p := ⟨bx, 1, none⟩) hbx).trans k1.out)
  replace kL := hidi (kL.out.next cc)
  replace hbx := Nat.lt_of_lt_of_le hbx cc.size
  clear cc
  refine head_r4 Wc bx bz _ _ _ x _ _ _ _ _ _ _ _ _ _ 1 _ 2 hbx k0 k1 kL _ e5 _ e4 hbz m0 m1 mL ?_
  intro x2 W2 hW hx
  unfold hdFr4
  rw [hx]
  replace hB := hB.trans (hW.mono hB.size)
  have k0' := hidi ((hW.cell (p := ⟨bx, 0, none⟩) hbx).trans k0.out)
  have k1' := hidi ((hW.cell (p := ⟨bx, 1, none⟩) hbx).trans k1.out)
  replace kL := hidi (kL.out.next hW)
  replace hbx := Nat.lt_of_lt_of_le hbx hW.size
  clear hW hx k0 k1 m0 m1 mL hbz
  have d0 := k0'.out
  have d1 := k1'.out
  have hC : Below W2.heap.size W2 W2 := Below.refl _ _
  go_wp2_with (first
    | (go_at_call 12; (with_reducible refine (valid_any W2.heap.size _ 4 [1] [2, 3] _ (kL.out.below hC (Nat.le_refl _)) hC.size).mono ?_); rintro e w5 ⟨rfl, hb⟩; rw [hd_v1]; have hC := hC.trans (hb.mono hC.size); clear hb; have d0 := (hC.cell (p := ⟨bx, 0, none⟩) hbx).trans k0'.out; have d1 := (hC.cell (p := ⟨bx, 1, none⟩) hbx).trans k1'.out)
    | (go_at_call 12; (with_reducible refine (valid_any W2.heap.size _ 3 [1] [2, 3] _ (kL.out.below hC (Nat.le_refl _)) hC.size).mono ?_); rintro e w6 ⟨rfl, hb⟩; rw [hd_v2]; have hC := hC.trans (hb.mono hC.size); clear hb; have d0 := (hC.cell (p := ⟨bx, 0, none⟩) hbx).trans k0'.out; have d1 := (hC.cell (p := ⟨bx, 1, none⟩) hbx).trans k1'.out)
    | (go_at_call 33; refine (lasso_any _ _ _ _ _ _ _).mono ?_; rintro e w7 ⟨rfl, hb⟩; have hC := (hC.alloc hC.size (.cells #[.int .i64 1] 3)); have hC := hC.trans (hb.mono hC.size); have i1 := (show IntsAt (w6.alloc (.cells #[.int .i64 1] 3)).heap.size (w6.alloc (.cells #[.int .i64 1] 3)) (.slice (some ⟨w6.heap.size, 0, none⟩) 1 1) [1] from ints_made' w6 [1] 1 rfl (by decide) (by decide)).next hb)
    | (go_at_call 12; refine (valid_any _ _ 4 [1] [] _ ⟨_, _, rfl, i1, .inl ⟨_, _, rfl, rfl⟩⟩ (Nat.le_refl _)).mono ?_; rintro e w8 ⟨rfl, hb⟩; rw [hd_v3]; have hC := hC.trans (hb.mono hC.size); clear hb; have d0 := (hC.cell (p := ⟨bx, 0, none⟩) hbx).trans k0'.out; have d1 := (hC.cell (p := ⟨bx, 1, none⟩) hbx).trans k1'.out)
    | (go_at_call 17; (with_reducible refine (prefix_any W2.heap.size _ [1] [2, 3] 4 _ (kL.out.below hC (Nat.le_refl _)) hC.size).mono ?_); rintro e w9 ⟨r, rfl, hN, hb⟩; rw [hd_x1] at hN; obtain ⟨o9, c9, rfl⟩ := hN.1.shape; have hC := hC.trans (hb.mono hC.size); clear hb)
    | (go_at_call 16; refine (ints_any _ _ _ [1, 2, 3, 2] [1, 2, 3, 2] _ (hN.1.next (below_new w9 (.cells #[.int .i64 1, .int .i64 2, .int .i64 3, .int .i64 2] 3))) (show IntsAt (w9.alloc (.cells #[.int .i64 1, .int .i64 2, .int .i64 3, .int .i64 2] 3)).heap.size (w9.alloc (.cells #[.int .i64 1, .int .i64 2, .int .i64 3, .int .i64 2] 3)) (.slice (some ⟨w9.heap.size, 0, none⟩) 4 4) [1, 2, 3, 2] from ints_made' w9 [1, 2, 3, 2] 4 rfl (by decide) (by decide)) (Nat.le_refl _)).mono ?_; rintro e w10 ⟨rfl, hb⟩; rw [decide_eq_true rfl]; have hC := (hC.alloc hC.size (.cells #[.int .i64 1, .int .i64 2, .int .i64 3, .int .i64 2] 3)); have hC := hC.trans (hb.mono hC.size); clear hb; have d0 := (hC.cell (p := ⟨bx, 0, none⟩) hbx).trans k0'.out; have d1 := (hC.cell (p := ⟨bx, 1, none⟩) hbx).trans k1'.out)
    | (go_at_call 17; refine (prefix_any W2.heap.size _ [1] [2, 3] 501 _ (kL.out.below hC (Nat.le_refl _)) hC.size).mono ?_; rintro e w11 ⟨r, rfl, hN2, hb⟩; rw [hd_x2] at hN2; obtain ⟨o11, c11, rfl⟩ := hN2.1.shape; have hC := hC.trans (hb.mono hC.size); clear hb))
  go_ret
  exact ⟨rfl, hB.trans (hC.mono hB.size)⟩

end Go.Proofs.Ytcbddplgleeiiaa
