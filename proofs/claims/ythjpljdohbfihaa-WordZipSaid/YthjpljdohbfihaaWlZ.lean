/-
  The walk of the law WordZip.
-/
import Derived.Test.YthjpljdohbfihaaWlJ
namespace Go.Proofs.Ythjpljdohbfihaa
open Go.RowKit

theorem refequal_eq {s l : List Int} : lasEqB s l s l = true := by unfold lasEqB; simp

set_option maxRecDepth 100000 in
set_option maxHeartbeats 4000000 in
theorem wzip_any (u v tv : Value) (sa la sb lb : List Int) (T : List (List Int)) (n : Int) (w : World) (hu' : LasAt w.heap.size w u sa la) (hv' : LasAt w.heap.size w v sb lb) (hT' : TabAt w.heap.size w tv T) (hn0 : 0 ≤ n) (hn1 : n ≤ 255) :
    Calls Try.prog 9 #[u, v, tv, .int .u8 n] w fun e w' => e = .returned (.bool true) ∧ Below w.heap.size w w' := by
  obtain ⟨o1, c1, o2, c2, rfl, -, -⟩ := hu'.open
  obtain ⟨o3, c3, o4, c4, rfl, -, -⟩ := hv'.open
  obtain ⟨oT, cT, rfl⟩ := hT'.shape
  obtain ⟨W0, hW0, hA, hT2⟩ := two_open w (.slice o1 sa.length c1) (.slice o2 la.length c2) (.slice o3 sb.length c3) (.slice o4 lb.length c4)
  have hC : Below W0.heap.size W0 W0 := Below.refl _ _
  cases hf : formedB sa la
  · go_enter Try.func9, Try.ntmps9
    go_wp2_with fail
    rw [hW0.out]
    go_wp2_with (first | (go_at_call 10; refine (head_any _).mono ?_; rintro e w1 ⟨rfl, hb⟩; have hC := hC.trans (hb.mono hC.size); clear hb; obtain ⟨d0, d1, d2, d3, -, -, -, -⟩ := (hT2.out.below hC).cells) | (go_at_call 30; (with_reducible refine (refformed_any w.heap.size (.agg #[.slice o1 sa.length c1, .slice o2 la.length c2]) sa la _ (hu'.below (hA.trans (hC.mono hA.size)) (Nat.le_refl _)) (Nat.le_trans hA.size hC.size)).mono ?_); rintro e w2 ⟨rfl, hb⟩; rw [hf]; have hC := hC.trans (hb.mono hC.size); clear hb; obtain ⟨d0, d1, d2, d3, -, -, -, -⟩ := (hT2.out.below hC).cells))
    go_ret
    exact ⟨rfl, hA.trans (hC.mono hA.size)⟩
  · cases hg : formedB sb lb
    · go_enter Try.func9, Try.ntmps9
      go_wp2_with fail
      rw [hW0.out]
      go_wp2_with (first | (go_at_call 10; refine (head_any _).mono ?_; rintro e w1 ⟨rfl, hb⟩; have hC := hC.trans (hb.mono hC.size); clear hb; obtain ⟨d0, d1, d2, d3, -, -, -, -⟩ := (hT2.out.below hC).cells) | (go_at_call 30; (with_reducible refine (refformed_any w.heap.size (.agg #[.slice o1 sa.length c1, .slice o2 la.length c2]) sa la _ (hu'.below (hA.trans (hC.mono hA.size)) (Nat.le_refl _)) (Nat.le_trans hA.size hC.size)).mono ?_); rintro e w2 ⟨rfl, hb⟩; rw [hf]; have hC := hC.trans (hb.mono hC.size); clear hb; obtain ⟨d0, d1, d2, d3, -, -, -, -⟩ := (hT2.out.below hC).cells) | (go_at_call 30; refine (refformed_any w.heap.size (.agg #[.slice o3 sb.length c3, .slice o4 lb.length c4]) sb lb _ (hv'.below (hA.trans (hC.mono hA.size)) (Nat.le_refl _)) (Nat.le_trans hA.size hC.size)).mono ?_; rintro e w3 ⟨rfl, hb⟩; rw [hg]; have hC := hC.trans (hb.mono hC.size); clear hb; obtain ⟨d0, d1, d2, d3, -, -, -, -⟩ := (hT2.out.below hC).cells))
      go_ret
      exact ⟨rfl, hA.trans (hC.mono hA.size)⟩
    · by_cases h64 : (64 : Int) < (T.length : Int)
      · go_enter Try.func9, Try.ntmps9
        go_wp2_with fail
        rw [hW0.out]
        go_wp2_with (first | (go_at_call 10; refine (head_any _).mono ?_; rintro e w1 ⟨rfl, hb⟩; have hC := hC.trans (hb.mono hC.size); clear hb; obtain ⟨d0, d1, d2, d3, -, -, -, -⟩ := (hT2.out.below hC).cells) | (go_at_call 30; (with_reducible refine (refformed_any w.heap.size (.agg #[.slice o1 sa.length c1, .slice o2 la.length c2]) sa la _ (hu'.below (hA.trans (hC.mono hA.size)) (Nat.le_refl _)) (Nat.le_trans hA.size hC.size)).mono ?_); rintro e w2 ⟨rfl, hb⟩; rw [hf]; have hC := hC.trans (hb.mono hC.size); clear hb; obtain ⟨d0, d1, d2, d3, -, -, -, -⟩ := (hT2.out.below hC).cells) | (go_at_call 30; refine (refformed_any w.heap.size (.agg #[.slice o3 sb.length c3, .slice o4 lb.length c4]) sb lb _ (hv'.below (hA.trans (hC.mono hA.size)) (Nat.le_refl _)) (Nat.le_trans hA.size hC.size)).mono ?_; rintro e w3 ⟨rfl, hb⟩; rw [hg]; have hC := hC.trans (hb.mono hC.size); clear hb; obtain ⟨d0, d1, d2, d3, -, -, -, -⟩ := (hT2.out.below hC).cells))
        go_ret
        exact ⟨rfl, hA.trans (hC.mono hA.size)⟩
      · obtain ⟨Z1, hZ1⟩ : ∃ Z1, Hid (Z1 = (zipL T sa la sb lb).1) := ⟨_, rfl⟩
        obtain ⟨Z2, hZ2⟩ : ∃ Z2, Hid (Z2 = (zipL T sa la sb lb).2) := ⟨_, rfl⟩
        have hF := hidi (zip_first hf hg)
        have hFS : Hid (sameB (normL sa la).1 (normL sa la).2 sa la = true) := by unfold Hid; rw [same_symm hf (norm_formed hf), same_norm hf]
        have hAC := fun {X : World} (h : Below W0.heap.size W0 X) => hA.trans (h.mono hA.size)
        have U : ∀ {X : World}, Below W0.heap.size W0 X → LasAt X.heap.size X (.agg #[.slice o1 sa.length c1, .slice o2 la.length c2]) sa la := fun h => hu'.next (hAC h)
        have V : ∀ {X : World}, Below W0.heap.size W0 X → LasAt X.heap.size X (.agg #[.slice o3 sb.length c3, .slice o4 lb.length c4]) sb lb := fun h => hv'.next (hAC h)
        have UT : ∀ {X : World}, Below W0.heap.size W0 X → TabAt X.heap.size X (.slice oT T.length cT) T := fun h => (hT'.below (hAC h) (Nat.le_refl _)).mono (hAC h).size
        have keep : ∀ {X : World}, Below W0.heap.size W0 X → X.cell? ⟨w.heap.size, 0, none⟩ = some (.slice o1 sa.length c1) ∧ X.cell? ⟨w.heap.size, 1, none⟩ = some (.slice o2 la.length c2) ∧ X.cell? ⟨w.heap.size + 1, 0, none⟩ = some (.slice o3 sb.length c3) ∧ X.cell? ⟨w.heap.size + 1, 1, none⟩ = some (.slice o4 lb.length c4) ∧ Below W0.heap.size W0 X := fun h => by
          obtain ⟨d0, d1, d2, d3, -, -, -, -⟩ := (hT2.out.below h).cells
          exact ⟨d0, d1, d2, d3, h⟩
        go_enter Try.func9, Try.ntmps9
        go_wp2_with fail
        rw [hW0.out]
        go_wp2_with (first | (go_at_call 10; refine (head_any _).mono ?_; rintro e w1 ⟨rfl, hb⟩; have hC := hC.trans (hb.mono hC.size); clear hb; obtain ⟨d0, d1, d2, d3, -, -, -, -⟩ := (hT2.out.below hC).cells) | (go_at_call 30; (with_reducible refine (refformed_any w.heap.size (.agg #[.slice o1 sa.length c1, .slice o2 la.length c2]) sa la _ (hu'.below (hA.trans (hC.mono hA.size)) (Nat.le_refl _)) (Nat.le_trans hA.size hC.size)).mono ?_); rintro e w2 ⟨rfl, hb⟩; rw [hf]; have hC := hC.trans (hb.mono hC.size); clear hb; obtain ⟨d0, d1, d2, d3, -, -, -, -⟩ := (hT2.out.below hC).cells) | (go_at_call 30; refine (refformed_any w.heap.size (.agg #[.slice o3 sb.length c3, .slice o4 lb.length c4]) sb lb _ (hv'.below (hA.trans (hC.mono hA.size)) (Nat.le_refl _)) (Nat.le_trans hA.size hC.size)).mono ?_; rintro e w3 ⟨rfl, hb⟩; rw [hg]; have hC := hC.trans (hb.mono hC.size); clear hb; obtain ⟨d0, d1, d2, d3, -, -, -, -⟩ := (hT2.out.below hC).cells))
        have hst := keep hC.drew
        clear d0 d1 d2 d3
        go_region_held3 (fun X => X.cell? ⟨w.heap.size, 0, none⟩ = some (.slice o1 sa.length c1) ∧ X.cell? ⟨w.heap.size, 1, none⟩ = some (.slice o2 la.length c2) ∧ X.cell? ⟨w.heap.size + 1, 0, none⟩ = some (.slice o3 sb.length c3) ∧ X.cell? ⟨w.heap.size + 1, 1, none⟩ = some (.slice o4 lb.length c4) ∧ Below W0.heap.size W0 X) (first | exact hst | exact keep q6) (first
          | (obtain ⟨-, -, -, -, q9⟩ : _ ∧ _ ∧ _ ∧ _ ∧ Below W0.heap.size W0 _ := (by assumption); go_at_call 32; refine (lawfirst_any _).mono ?_; rintro e w4 ⟨r4, rfl, hT4, hb4⟩; have q6 := q9.trans (hb4.mono q9.size))
          | (obtain ⟨-, -, -, -, q9⟩ : _ ∧ _ ∧ _ ∧ _ ∧ Below W0.heap.size W0 _ := (by assumption); go_at_call 28; refine (zip_any _ (.agg #[.slice o1 sa.length c1, .slice o2 la.length c2]) (.agg #[.slice o3 sb.length c3, .slice o4 lb.length c4]) r4 sa la sb lb firstT _ (U q9) (V q9) hT4 (Nat.le_refl _)).mono ?_; rintro e w5 ⟨r5, rfl, hN5, hb5⟩; rw [hF.out] at hN5; have hL5 := hN5.las; have q6 := q9.trans (hb5.mono q9.size))
          | (obtain ⟨-, -, -, -, q9⟩ : _ ∧ _ ∧ _ ∧ _ ∧ Below W0.heap.size W0 _ := (by assumption); go_at_call 22; refine (same_any _ r5 (.agg #[.slice o1 sa.length c1, .slice o2 la.length c2]) _ _ sa la _ hL5 (U q9) (Nat.le_refl _)).mono ?_; rintro e w6 ⟨rfl, hb6⟩; rw [hFS.out]; have q6 := q9.trans (hb6.mono q9.size)))
        have hC := q6
        obtain ⟨d0, d1, d2, d3, -⟩ := keep q6
        by_cases hz : Z2.length = 0
        · have i3 : ((Z2.length : Int) == 0) = true := by simp [hz]
          go_wp2_with (go_at_call 28; refine (zip_any _ (.agg #[.slice o1 sa.length c1, .slice o2 la.length c2]) (.agg #[.slice o3 sb.length c3, .slice o4 lb.length c4]) (.slice oT T.length cT) sa la sb lb T _ (U hC) (V hC) (UT hC) (Nat.le_refl _)).mono ?_; rintro e w7 ⟨r7, rfl, hN7, hb7⟩; rw [← hZ1.out, ← hZ2.out] at hN7; obtain ⟨u5, u4, rfl, J5, J4, -, -⟩ := hN7.ex; obtain ⟨x5, e5, rfl⟩ := J5.shape; obtain ⟨x4, e4, rfl⟩ := J4.shape; have hC := hC.trans (hb7.mono hC.size); clear hb7; have f0 := box0 w7 (.slice x5 Z1.length e5) (.slice x4 Z2.length e4) 24; have f1 := box1 w7 (.slice x5 Z1.length e5) (.slice x4 Z2.length e4) 24)
          go_ret
          exact ⟨rfl, hA.trans ((hC.alloc hC.size _).mono hA.size)⟩
        · have i3 : ((Z2.length : Int) == 0) = false := by simp [hz]
          have hzl : 0 < (zipL T sa la sb lb).2.length := by rw [← hZ2.out]; omega
          have hLet := fun k => zip_letter hf hg hzl k
          have hSuf := fun k => zip_suffix hf hg hzl k
          obtain ⟨hZf, hZm⟩ := zip_pos hf hg hzl
          rw [← hZm] at hZf
          rw [← hZ1.out, ← hZ2.out] at hZf
          simp only [← hZ1.out, ← hZ2.out] at hLet hSuf
          clear hZm
          go_wp2_with (go_at_call 28; refine (zip_any _ (.agg #[.slice o1 sa.length c1, .slice o2 la.length c2]) (.agg #[.slice o3 sb.length c3, .slice o4 lb.length c4]) (.slice oT T.length cT) sa la sb lb T _ (U hC) (V hC) (UT hC) (Nat.le_refl _)).mono ?_; rintro e w7 ⟨r7, rfl, hN7, hb7⟩; rw [← hZ1.out, ← hZ2.out] at hN7; obtain ⟨u5, u4, rfl, J5, J4, -, -⟩ := hN7.ex; obtain ⟨x5, e5, rfl⟩ := J5.shape; obtain ⟨x4, e4, rfl⟩ := J4.shape; have hC := hC.trans (hb7.mono hC.size); clear hb7; have f0 := box0 w7 (.slice x5 Z1.length e5) (.slice x4 Z2.length e4) 24; have f1 := box1 w7 (.slice x5 Z1.length e5) (.slice x4 Z2.length e4) 24)
          have b5 := below_new w7 (.cells #[.slice x5 Z1.length e5, .slice x4 Z2.length e4] 24)
          have m0 := hidi f0
          have m1 := hidi f1
          have mL : Hid (LasAt (w7.alloc (.cells #[.slice x5 Z1.length e5, .slice x4 Z2.length e4] 24)).heap.size (w7.alloc (.cells #[.slice x5 Z1.length e5, .slice x4 Z2.length e4] 24)) (.agg #[.slice x5 Z1.length e5, .slice x4 Z2.length e4]) Z1 Z2) := ⟨_, _, rfl, J5.next b5, J4.next b5⟩
          have hbz := box_lt w7 (.cells #[.slice x5 Z1.length e5, .slice x4 Z2.length e4] 24)
          replace hC := hC.trans (b5.mono hC.size)
          clear b5 J5 J4 hN7 d0 d1 d2 d3 f0 f1
          revert m0 m1 mL hbz hC
          generalize w7.alloc (.cells #[.slice x5 Z1.length e5, .slice x4 Z2.length e4] 24) = Wb
          generalize w7.heap.size = bz
          intro m0 m1 mL hbz hC
          have hCB := fun {X : World} (h : Below Wb.heap.size Wb X) => hC.trans (h.mono hC.size)
          have VZ : ∀ {X : World}, Below Wb.heap.size Wb X → LasAt X.heap.size X (.agg #[.slice x5 Z1.length e5, .slice x4 Z2.length e4]) Z1 Z2 := fun h => mL.out.next h
          have keepZ : ∀ {X : World}, Below Wb.heap.size Wb X → X.cell? ⟨w.heap.size, 0, none⟩ = some (.slice o1 sa.length c1) ∧ X.cell? ⟨w.heap.size, 1, none⟩ = some (.slice o2 la.length c2) ∧ X.cell? ⟨w.heap.size + 1, 0, none⟩ = some (.slice o3 sb.length c3) ∧ X.cell? ⟨w.heap.size + 1, 1, none⟩ = some (.slice o4 lb.length c4) ∧ X.cell? ⟨bz, 0, none⟩ = some (.slice x5 Z1.length e5) ∧ X.cell? ⟨bz, 1, none⟩ = some (.slice x4 Z2.length e4) ∧ Below Wb.heap.size Wb X := fun h => by
            obtain ⟨d0, d1, d2, d3, -⟩ := keep (hCB h)
            exact ⟨d0, d1, d2, d3, (h.cell (p := ⟨bz, 0, none⟩) hbz).trans m0.out, (h.cell (p := ⟨bz, 1, none⟩) hbz).trans m1.out, h⟩
          go_loopw [11] (fun i wr => ∃ k : Nat, k ≤ 200 ∧ i = .int .i64 k ∧ Below Wb.heap.size Wb wr) (fun i _ => 200 - (intOf i).toNat)
          case atStart => exact ⟨0, by omega, rfl, Below.refl _ _⟩
          case round =>
            obtain ⟨k, hk, rfl, hB⟩ := hrel
            obtain ⟨d0, d1, d2, d3, -, -, -⟩ := keepZ hB
            by_cases hlt : (k : Int) < 200
            · obtain ⟨l1, l2, l3⟩ := hLet k
              obtain ⟨x, hx⟩ : ∃ x : Nat, Hid (x = (letAt sa la k).toNat) := ⟨_, rfl⟩
              obtain ⟨y, hy⟩ : ∃ y : Nat, Hid (y = (letAt sb lb k).toNat) := ⟨_, rfl⟩
              have hxv : Hid (atI sa la k = (x : Int)) := by unfold Hid; rw [atI_formed hf, hx.out]; have := letAt_bd hf k; omega
              have hyv : Hid (atI sb lb k = (y : Int)) := by unfold Hid; rw [atI_formed hg, hy.out]; have := letAt_bd hg k; omega
              rw [← hx.out] at l1
              rw [← hx.out, ← hy.out] at l2 l3
              obtain ⟨bT, offT, capT, eT, bT1, -, -, cT'⟩ : ∃ b off cap, Value.slice oT T.length cT = .slice (some ⟨b, off, none⟩) T.length cap ∧ b < w.heap.size ∧ T.length ≤ cap ∧ cap ≤ 9223372036854775807 ∧ ∀ k (h : k < T.length), ∃ u, w.cell? ⟨b, off + k, none⟩ = some u ∧ IntsAt w.heap.size w u T[k] := by
                rcases hT' with ⟨o', c', -, hT0⟩ | h
                · rw [hT0] at l1; simp at l1
                · exact h
              obtain ⟨rfl, rfl⟩ : oT = some ⟨bT, offT, none⟩ ∧ cT = capT := by simpa using eT
              obtain ⟨R, hRr⟩ : ∃ R, Hid (R = T.getD x []) := ⟨_, rfl⟩
              have hRx : R = T[x] := by rw [hRr.out]; simp [l1]
              rw [← hRr.out] at l2 l3
              obtain ⟨ur, cr1, cr2⟩ := cT' x l1
              rw [← hRx] at cr2
              obtain ⟨oR, cR, rfl⟩ := cr2.shape
              obtain ⟨bR, offR, rfl, bR1, -, -, cR'⟩ := cr2.at (by omega)
              obtain ⟨q, hq⟩ : ∃ q, Hid (q = R.getD y (-1)) := ⟨_, rfl⟩
              have cr3 := (cR' y l2).1
              rw [show R[y] = q by rw [hq.out]; simp [l2]] at cr3
              have hqv : Hid (atI Z1 Z2 k = q) := by unfold Hid; rw [atI_formed hZf, l3, ← hq.out]
              have n1 : decide (T.length ≤ x) = false := by rw [decide_eq_false_iff_not]; omega
              have n2 : decide (R.length ≤ y) = false := by rw [decide_eq_false_iff_not]; omega
              have n3 : (q != q) = false := by simp
              have g1 : (0 : Int) ≤ (x : Int) := by omega
              have g2 : (x : Int) < (T.length : Int) := by omega
              have g3 : (0 : Int) ≤ (y : Int) := by omega
              have g4 : (y : Int) < (R.length : Int) := by omega
              have keepE : ∀ {X : World}, Below Wb.heap.size Wb X → X.cell? ⟨bz, 0, none⟩ = some (.slice x5 Z1.length e5) ∧ X.cell? ⟨bz, 1, none⟩ = some (.slice x4 Z2.length e4) ∧ X.cell? ⟨bT, offT + x, none⟩ = some (.slice (some ⟨bR, offR, none⟩) R.length cR) ∧ X.cell? ⟨bR, offR + y, none⟩ = some (.int .i64 q) ∧ Below Wb.heap.size Wb X := fun h =>
                ⟨(h.cell (p := ⟨bz, 0, none⟩) hbz).trans m0.out, (h.cell (p := ⟨bz, 1, none⟩) hbz).trans m1.out, ((hAC (hCB h)).cell (p := ⟨bT, offT + x, none⟩) bT1).trans cr1, ((hAC (hCB h)).cell (p := ⟨bR, offR + y, none⟩) bR1).trans cr3, h⟩
              clear hRx l1 l2 l3 cT' cR' eT
              go_wp2_with (first
                | (go_at_call 14; (with_reducible refine (at_any _ (.agg #[.slice o1 sa.length c1, .slice o2 la.length c2]) sa la k _ (U (hCB hB)) (Nat.le_refl _) (by omega)).mono ?_); rintro e w8 ⟨rfl, hb8⟩; rw [hxv.out]; have hB := hB.trans (hb8.mono hB.size); clear hb8; obtain ⟨d0, d1, d2, d3, -, -, -⟩ := keepZ hB)
                | (go_at_call 14; refine (at_any _ (.agg #[.slice o3 sb.length c3, .slice o4 lb.length c4]) sb lb k _ (V (hCB hB)) (Nat.le_refl _) (by omega)).mono ?_; rintro e w9 ⟨rfl, hb9⟩; rw [hyv.out]; have hB := hB.trans (hb9.mono hB.size); clear hb9))
              have hst := keepE hB.drew
              clear d0 d1 d2 d3
              go_region_held3 (fun X => X.cell? ⟨bz, 0, none⟩ = some (.slice x5 Z1.length e5) ∧ X.cell? ⟨bz, 1, none⟩ = some (.slice x4 Z2.length e4) ∧ X.cell? ⟨bT, offT + x, none⟩ = some (.slice (some ⟨bR, offR, none⟩) R.length cR) ∧ X.cell? ⟨bR, offR + y, none⟩ = some (.int .i64 q) ∧ Below Wb.heap.size Wb X) (first | exact hst | exact keepE q6) (first
                | (obtain ⟨-, -, -, -, q9⟩ : _ ∧ _ ∧ _ ∧ _ ∧ Below Wb.heap.size Wb _ := (by assumption); go_at_call 14; refine (at_any _ (.agg #[.slice x5 Z1.length e5, .slice x4 Z2.length e4]) Z1 Z2 k _ (VZ q9) (Nat.le_refl _) (by omega)).mono ?_; rintro e w10 ⟨rfl, hb10⟩; rw [hqv.out]; have q6 := q9.trans (hb10.mono q9.size)))
              all_goals go_wp2
              all_goals go_roundw
              case rel => exact ⟨k + 1, by omega, by go_num, q6⟩
              case measure => simp [intOf]; omega
            · have i8 : ¬ (k : Int) < 200 := by omega
              obtain ⟨m, rfl⟩ := Int.eq_ofNat_of_zero_le hn0
              obtain ⟨p, hp⟩ : ∃ p, Hid (p = m % 200) := ⟨_, rfl⟩
              have hp1 : p < 200 := by rw [hp.out]; omega
              have v1 : IntKind.i64.wrap (m : Int) = (m : Int) := by rw [IntKind.wrap_i64]; omega
              have t1 : (m : Int).tmod 200 = (p : Int) := by rw [Int.tmod_eq_emod_of_nonneg (by omega), hp.out]; omega
              have v2 : IntKind.i64.wrap (p : Int) = (p : Int) := by rw [IntKind.wrap_i64]; omega
              have hSp := hidi (hSuf p)
              clear hSuf hLet
              have hst := keepZ hB.drew
              clear d0 d1 d2 d3
              go_wp2_with fail
              go_region_held3 (fun X => X.cell? ⟨w.heap.size, 0, none⟩ = some (.slice o1 sa.length c1) ∧ X.cell? ⟨w.heap.size, 1, none⟩ = some (.slice o2 la.length c2) ∧ X.cell? ⟨w.heap.size + 1, 0, none⟩ = some (.slice o3 sb.length c3) ∧ X.cell? ⟨w.heap.size + 1, 1, none⟩ = some (.slice o4 lb.length c4) ∧ X.cell? ⟨bz, 0, none⟩ = some (.slice x5 Z1.length e5) ∧ X.cell? ⟨bz, 1, none⟩ = some (.slice x4 Z2.length e4) ∧ Below Wb.heap.size Wb X) (first | exact hst | exact keepZ q6) (first
                | (obtain ⟨-, -, -, -, -, -, q9⟩ : _ ∧ _ ∧ _ ∧ _ ∧ _ ∧ _ ∧ Below Wb.heap.size Wb _ := (by assumption); go_at_call 24; (with_reducible refine (suffix_any _ (.agg #[.slice x5 Z1.length e5, .slice x4 Z2.length e4]) Z1 Z2 p _ (VZ q9) (Nat.le_refl _) (by omega)).mono ?_); rintro e w10 ⟨ra, rfl, hNa, hb10⟩; have hLa := hNa.las; have q6 := q9.trans (hb10.mono q9.size))
                | (obtain ⟨-, -, -, -, -, -, q9⟩ : _ ∧ _ ∧ _ ∧ _ ∧ _ ∧ _ ∧ Below Wb.heap.size Wb _ := (by assumption); go_at_call 24; (with_reducible refine (suffix_any _ (.agg #[.slice o1 sa.length c1, .slice o2 la.length c2]) sa la p _ (U (hCB q9)) (Nat.le_refl _) (by omega)).mono ?_); rintro e w11 ⟨rb, rfl, hNb, hb11⟩; have hLb := hNb.las; have hLa := hLa.next hb11; have q6 := q9.trans (hb11.mono q9.size))
                | (obtain ⟨-, -, -, -, -, -, q9⟩ : _ ∧ _ ∧ _ ∧ _ ∧ _ ∧ _ ∧ Below Wb.heap.size Wb _ := (by assumption); go_at_call 24; (with_reducible refine (suffix_any _ (.agg #[.slice o3 sb.length c3, .slice o4 lb.length c4]) sb lb p _ (V (hCB q9)) (Nat.le_refl _) (by omega)).mono ?_); rintro e w12 ⟨rc, rfl, hNc, hb12⟩; have hLc := hNc.las; have hLa := hLa.next hb12; have hLb := hLb.next hb12; have q6 := q9.trans (hb12.mono q9.size))
                | (obtain ⟨-, -, -, -, -, -, q9⟩ : _ ∧ _ ∧ _ ∧ _ ∧ _ ∧ _ ∧ Below Wb.heap.size Wb _ := (by assumption); go_at_call 28; refine (zip_any _ rb rc (.slice oT T.length cT) _ _ _ _ T _ hLb hLc (UT (hCB q9)) (Nat.le_refl _)).mono ?_; rintro e w13 ⟨rd, rfl, hNd, hb13⟩; rw [← hSp.out] at hNd; have hLa := hLa.next hb13; have q6 := q9.trans (hb13.mono q9.size))
                | (obtain ⟨-, -, -, -, -, -, q9⟩ : _ ∧ _ ∧ _ ∧ _ ∧ _ ∧ _ ∧ Below Wb.heap.size Wb _ := (by assumption); go_at_call 19; refine (refequal_any _ ra rd _ _ _ _ _ hLa hNd.las (Nat.le_refl _)).mono ?_; rintro e w14 ⟨rfl, hb14⟩; rw [refequal_eq]; have q6 := q9.trans (hb14.mono q9.size)))
              all_goals go_wp2
              all_goals go_ret
              all_goals exact ⟨rfl, hAC (hCB q6)⟩

end Go.Proofs.Ythjpljdohbfihaa
