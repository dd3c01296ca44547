/-
  The walk of the law WordMatchesReference.
-/
import Derived.Test.YtcbddplgleeiiaaWrB
import Derived.Test.YtcbddplgleeiiaaWrC
namespace Go.Proofs.Ytcbddplgleeiiaa
open Go.RowKit

theorem refequal_eq {s l : List Int} : lasEqB s l s l = true := by unfold lasEqB; simp

set_option maxRecDepth 100000 in
set_option maxHeartbeats 4000000 in
theorem wmatch_any (u v lv tv : Value) (letters i : Int) (sa la sb lb l : List Int) (T : List (List Int)) (w : World) (hu' : LasAt w.heap.size w u sa la) (hv' : LasAt w.heap.size w v sb lb) (hL' : IntsAt w.heap.size w lv l) (hT' : TabAt w.heap.size w tv T) (hi1 : i ≤ 9223372036854775807) :
    Calls Try.prog 3 #[u, v, .int .i64 letters, .int .i64 i, lv, tv] w fun e w' => e = .returned (.bool true) ∧ Below w.heap.size w w' := by
  obtain ⟨o1, c1, o2, c2, rfl, -, -⟩ := hu'.open
  obtain ⟨o3, c3, o4, c4, rfl, -, -⟩ := hv'.open
  obtain ⟨oL, cL, rfl⟩ := hL'.shape
  obtain ⟨oT, cT, rfl⟩ := hT'.shape
  have hLl := hL'.len
  have hTl := hT'.len
  obtain ⟨W0, hW0, hA, hT2⟩ := two_open w (.slice o1 sa.length c1) (.slice o2 la.length c2) (.slice o3 sb.length c3) (.slice o4 lb.length c4)
  have hC : Below W0.heap.size W0 W0 := Below.refl _ _
  cases hsa : shortB sa la
  · go_enter Try.func3, Try.ntmps3
    go_wp2_with fail
    rw [hW0.out]
    go_wp2_with (first | (go_at_call 10; refine (head_any _).mono ?_; rintro e w1 ⟨rfl, hb⟩; have hC := hC.trans (hb.mono hC.size); clear hb; obtain ⟨d0, d1, d2, d3, -, -, -, -⟩ := (hT2.out.below hC).cells) | (go_at_call 11; (with_reducible refine (refShort_any w.heap.size (.agg #[.slice o1 sa.length c1, .slice o2 la.length c2]) sa la _ (hu'.below (hA.trans (hC.mono hA.size)) (Nat.le_refl _))).mono ?_); rintro e w2 ⟨rfl, hb⟩; rw [hsa]; have hC := hC.trans (hb.mono hC.size); clear hb; obtain ⟨d0, d1, d2, d3, -, -, -, -⟩ := (hT2.out.below hC).cells))
    go_ret
    exact ⟨rfl, hA.trans (hC.mono hA.size)⟩
  · cases hsb : shortB sb lb
    · go_enter Try.func3, Try.ntmps3
      go_wp2_with fail
      rw [hW0.out]
      go_wp2_with (first | (go_at_call 10; refine (head_any _).mono ?_; rintro e w1 ⟨rfl, hb⟩; have hC := hC.trans (hb.mono hC.size); clear hb; obtain ⟨d0, d1, d2, d3, -, -, -, -⟩ := (hT2.out.below hC).cells) | (go_at_call 11; (with_reducible refine (refShort_any w.heap.size (.agg #[.slice o1 sa.length c1, .slice o2 la.length c2]) sa la _ (hu'.below (hA.trans (hC.mono hA.size)) (Nat.le_refl _))).mono ?_); rintro e w2 ⟨rfl, hb⟩; rw [hsa]; have hC := hC.trans (hb.mono hC.size); clear hb; obtain ⟨d0, d1, d2, d3, -, -, -, -⟩ := (hT2.out.below hC).cells) | (go_at_call 11; (refine (refShort_any w.heap.size (.agg #[.slice o3 sb.length c3, .slice o4 lb.length c4]) sb lb _ (hv'.below (hA.trans (hC.mono hA.size)) (Nat.le_refl _))).mono ?_); rintro e w2 ⟨rfl, hb⟩; rw [hsb]; have hC := hC.trans (hb.mono hC.size); clear hb; obtain ⟨d0, d1, d2, d3, -, -, -, -⟩ := (hT2.out.below hC).cells))
      go_ret
      exact ⟨rfl, hA.trans (hC.mono hA.size)⟩
    · by_cases h80 : (80 : Int) < (l.length : Int)
      · go_enter Try.func3, Try.ntmps3
        go_wp2_with fail
        rw [hW0.out]
        go_wp2_with (first | (go_at_call 10; refine (head_any _).mono ?_; rintro e w1 ⟨rfl, hb⟩; have hC := hC.trans (hb.mono hC.size); clear hb; obtain ⟨d0, d1, d2, d3, -, -, -, -⟩ := (hT2.out.below hC).cells) | (go_at_call 11; (with_reducible refine (refShort_any w.heap.size (.agg #[.slice o1 sa.length c1, .slice o2 la.length c2]) sa la _ (hu'.below (hA.trans (hC.mono hA.size)) (Nat.le_refl _))).mono ?_); rintro e w2 ⟨rfl, hb⟩; rw [hsa]; have hC := hC.trans (hb.mono hC.size); clear hb; obtain ⟨d0, d1, d2, d3, -, -, -, -⟩ := (hT2.out.below hC).cells) | (go_at_call 11; (refine (refShort_any w.heap.size (.agg #[.slice o3 sb.length c3, .slice o4 lb.length c4]) sb lb _ (hv'.below (hA.trans (hC.mono hA.size)) (Nat.le_refl _))).mono ?_); rintro e w2 ⟨rfl, hb⟩; rw [hsb]; have hC := hC.trans (hb.mono hC.size); clear hb; obtain ⟨d0, d1, d2, d3, -, -, -, -⟩ := (hT2.out.below hC).cells))
        go_ret
        exact ⟨rfl, hA.trans (hC.mono hA.size)⟩
      · by_cases h64 : (64 : Int) < (T.length : Int)
        · go_enter Try.func3, Try.ntmps3
          go_wp2_with fail
          rw [hW0.out]
          go_wp2_with (first | (go_at_call 10; refine (head_any _).mono ?_; rintro e w1 ⟨rfl, hb⟩; have hC := hC.trans (hb.mono hC.size); clear hb; obtain ⟨d0, d1, d2, d3, -, -, -, -⟩ := (hT2.out.below hC).cells) | (go_at_call 11; (with_reducible refine (refShort_any w.heap.size (.agg #[.slice o1 sa.length c1, .slice o2 la.length c2]) sa la _ (hu'.below (hA.trans (hC.mono hA.size)) (Nat.le_refl _))).mono ?_); rintro e w2 ⟨rfl, hb⟩; rw [hsa]; have hC := hC.trans (hb.mono hC.size); clear hb; obtain ⟨d0, d1, d2, d3, -, -, -, -⟩ := (hT2.out.below hC).cells) | (go_at_call 11; (refine (refShort_any w.heap.size (.agg #[.slice o3 sb.length c3, .slice o4 lb.length c4]) sb lb _ (hv'.below (hA.trans (hC.mono hA.size)) (Nat.le_refl _))).mono ?_); rintro e w2 ⟨rfl, hb⟩; rw [hsb]; have hC := hC.trans (hb.mono hC.size); clear hb; obtain ⟨d0, d1, d2, d3, -, -, -, -⟩ := (hT2.out.below hC).cells))
          go_ret
          exact ⟨rfl, hA.trans (hC.mono hA.size)⟩
        · have hla : l.length ≤ 100000 := by omega
          obtain ⟨xv, hxv⟩ : ∃ x, Hid (validL letters sa la = x) := ⟨_, rfl⟩
          obtain ⟨xs, hxs⟩ : ∃ x, Hid (sameB sa la sb lb = x) := ⟨_, rfl⟩
          obtain ⟨za, hza⟩ : ∃ x, Hid (atI sa la i = x) := ⟨_, rfl⟩
          have hv1 : (xv == xv) = true := by cases xv <;> rfl
          have hv2 : (xs == xs) = true := by cases xs <;> rfl
          have hAC := fun {X : World} (h : Below W0.heap.size W0 X) => hA.trans (h.mono hA.size)
          have U : ∀ {X : World}, Below W0.heap.size W0 X → LasAt X.heap.size X (.agg #[.slice o1 sa.length c1, .slice o2 la.length c2]) sa la := fun h => hu'.next (hAC h)
          have V : ∀ {X : World}, Below W0.heap.size W0 X → LasAt X.heap.size X (.agg #[.slice o3 sb.length c3, .slice o4 lb.length c4]) sb lb := fun h => hv'.next (hAC h)
          have UL : ∀ {X : World}, Below W0.heap.size W0 X → IntsAt X.heap.size X (.slice oL l.length cL) l := fun h => hL'.next (hAC h)
          have UT : ∀ {X : World}, Below W0.heap.size W0 X → TabAt X.heap.size X (.slice oT T.length cT) T := fun h => (hT'.below (hAC h) (Nat.le_refl _)).mono (hAC h).size
          have keep : ∀ {X : World}, Below W0.heap.size W0 X → X.cell? ⟨w.heap.size, 0, none⟩ = some (.slice o1 sa.length c1) ∧ X.cell? ⟨w.heap.size, 1, none⟩ = some (.slice o2 la.length c2) ∧ X.cell? ⟨w.heap.size + 1, 0, none⟩ = some (.slice o3 sb.length c3) ∧ X.cell? ⟨w.heap.size + 1, 1, none⟩ = some (.slice o4 lb.length c4) ∧ Below W0.heap.size W0 X := fun h => by
            obtain ⟨d0, d1, d2, d3, -, -, -, -⟩ := (hT2.out.below h).cells
            exact ⟨d0, d1, d2, d3, h⟩
          go_enter Try.func3, Try.ntmps3
          go_wp2_with fail
          rw [hW0.out]
          go_wp2_with (first | (go_at_call 10; refine (head_any _).mono ?_; rintro e w1 ⟨rfl, hb⟩; have hC := hC.trans (hb.mono hC.size); clear hb; obtain ⟨d0, d1, d2, d3, -, -, -, -⟩ := (hT2.out.below hC).cells) | (go_at_call 11; (with_reducible refine (refShort_any w.heap.size (.agg #[.slice o1 sa.length c1, .slice o2 la.length c2]) sa la _ (hu'.below (hA.trans (hC.mono hA.size)) (Nat.le_refl _))).mono ?_); rintro e w2 ⟨rfl, hb⟩; rw [hsa]; have hC := hC.trans (hb.mono hC.size); clear hb; obtain ⟨d0, d1, d2, d3, -, -, -, -⟩ := (hT2.out.below hC).cells) | (go_at_call 11; (refine (refShort_any w.heap.size (.agg #[.slice o3 sb.length c3, .slice o4 lb.length c4]) sb lb _ (hv'.below (hA.trans (hC.mono hA.size)) (Nat.le_refl _))).mono ?_); rintro e w2 ⟨rfl, hb⟩; rw [hsb]; have hC := hC.trans (hb.mono hC.size); clear hb; obtain ⟨d0, d1, d2, d3, -, -, -, -⟩ := (hT2.out.below hC).cells))
          have hst := keep hC.drew
          clear d0 d1 d2 d3
          go_region_held3 (fun X => X.cell? ⟨w.heap.size, 0, none⟩ = some (.slice o1 sa.length c1) ∧ X.cell? ⟨w.heap.size, 1, none⟩ = some (.slice o2 la.length c2) ∧ X.cell? ⟨w.heap.size + 1, 0, none⟩ = some (.slice o3 sb.length c3) ∧ X.cell? ⟨w.heap.size + 1, 1, none⟩ = some (.slice o4 lb.length c4) ∧ Below W0.heap.size W0 X) (first | exact hst | exact keep q6) (first
            | (obtain ⟨-, -, -, -, q9⟩ : _ ∧ _ ∧ _ ∧ _ ∧ Below W0.heap.size W0 _ := (by assumption); go_at_call 12; (with_reducible refine (valid_any _ (.agg #[.slice o1 sa.length c1, .slice o2 la.length c2]) letters sa la _ (U q9) (Nat.le_refl _)).mono ?_); rintro e w3 ⟨rfl, hb⟩; rw [hxv.out]; have q6 := q9.trans (hb.mono q9.size); clear hb)
            | (obtain ⟨-, -, -, -, q9⟩ : _ ∧ _ ∧ _ ∧ _ ∧ Below W0.heap.size W0 _ := (by assumption); go_at_call 13; (with_reducible refine (refvalid_any _ (.agg #[.slice o1 sa.length c1, .slice o2 la.length c2]) letters sa la _ (U q9) (Nat.le_refl _)).mono ?_); rintro e w3 ⟨rfl, hb⟩; rw [hxv.out]; have q6 := q9.trans (hb.mono q9.size); clear hb)
            | (obtain ⟨-, -, -, -, q9⟩ : _ ∧ _ ∧ _ ∧ _ ∧ Below W0.heap.size W0 _ := (by assumption); go_at_call 14; (with_reducible refine (at_any _ (.agg #[.slice o1 sa.length c1, .slice o2 la.length c2]) sa la i _ (U q9) (Nat.le_refl _) hi1).mono ?_); rintro e w3 ⟨rfl, hb⟩; rw [hza.out]; have q6 := q9.trans (hb.mono q9.size); clear hb)
            | (obtain ⟨-, -, -, -, q9⟩ : _ ∧ _ ∧ _ ∧ _ ∧ Below W0.heap.size W0 _ := (by assumption); go_at_call 15; (with_reducible refine (refAt_any _ (.agg #[.slice o1 sa.length c1, .slice o2 la.length c2]) sa la i _ (U q9) (Nat.le_refl _) hi1).mono ?_); rintro e w3 ⟨rfl, hb⟩; rw [hza.out]; have q6 := q9.trans (hb.mono q9.size); clear hb)
            | (obtain ⟨-, -, -, -, q9⟩ : _ ∧ _ ∧ _ ∧ _ ∧ Below W0.heap.size W0 _ := (by assumption); go_at_call 17; (with_reducible refine (prefix_any _ (.agg #[.slice o1 sa.length c1, .slice o2 la.length c2]) sa la i _ (U q9) (Nat.le_refl _)).mono ?_); rintro e w3 ⟨r1, rfl, hN1, hb⟩; have hLa := hN1.1; clear hN1; obtain ⟨oa, ca, rfl⟩ := hLa.shape; have q6 := q9.trans (hb.mono q9.size); clear hb)
            | (obtain ⟨-, -, -, -, q9⟩ : _ ∧ _ ∧ _ ∧ _ ∧ Below W0.heap.size W0 _ := (by assumption); go_at_call 18; (with_reducible refine (refprefix_any _ (.agg #[.slice o1 sa.length c1, .slice o2 la.length c2]) sa la i _ (U q9) (Nat.le_refl _)).mono ?_); rintro e w3 ⟨r2, rfl, hLb, hN2, hb⟩; clear hN2; have hLa := hLa.next hb; obtain ⟨ob, cb, rfl⟩ := hLb.shape; have q6 := q9.trans (hb.mono q9.size); clear hb)
            | (obtain ⟨-, -, -, -, q9⟩ : _ ∧ _ ∧ _ ∧ _ ∧ Below W0.heap.size W0 _ := (by assumption); go_at_call 16; (with_reducible refine (ints_any _ _ _ _ _ _ hLa hLb (Nat.le_refl _)).mono ?_); rintro e w3 ⟨rfl, hb⟩; rw [decide_eq_true rfl]; clear hLa hLb; have q6 := q9.trans (hb.mono q9.size); clear hb)
            | (obtain ⟨-, -, -, -, q9⟩ : _ ∧ _ ∧ _ ∧ _ ∧ Below W0.heap.size W0 _ := (by assumption); go_at_call 20; (with_reducible refine (wnormal_any _ (.agg #[.slice o1 sa.length c1, .slice o2 la.length c2]) sa la _ (U q9) (Nat.le_refl _)).mono ?_); rintro e w3 ⟨r1, rfl, hN1, hb⟩; have hLa := hN1.las; clear hN1; have q6 := q9.trans (hb.mono q9.size); clear hb)
            | (obtain ⟨-, -, -, -, q9⟩ : _ ∧ _ ∧ _ ∧ _ ∧ Below W0.heap.size W0 _ := (by assumption); go_at_call 21; (with_reducible refine (refnormal_any _ (.agg #[.slice o1 sa.length c1, .slice o2 la.length c2]) sa la _ (U q9) (Nat.le_refl _)).mono ?_); rintro e w3 ⟨r2, rfl, hN2, hb⟩; have hLb := hN2.las; clear hN2; have hLa := hLa.next hb; have q6 := q9.trans (hb.mono q9.size); clear hb)
            | (obtain ⟨-, -, -, -, q9⟩ : _ ∧ _ ∧ _ ∧ _ ∧ Below W0.heap.size W0 _ := (by assumption); go_at_call 19; (with_reducible refine (refequal_any _ _ _ _ _ _ _ _ hLa hLb (Nat.le_refl _)).mono ?_); rintro e w3 ⟨rfl, hb⟩; rw [refequal_eq]; clear hLa hLb; have q6 := q9.trans (hb.mono q9.size); clear hb)
            | (obtain ⟨-, -, -, -, q9⟩ : _ ∧ _ ∧ _ ∧ _ ∧ Below W0.heap.size W0 _ := (by assumption); go_at_call 22; (with_reducible refine (same_any _ (.agg #[.slice o1 sa.length c1, .slice o2 la.length c2]) (.agg #[.slice o3 sb.length c3, .slice o4 lb.length c4]) sa la sb lb _ (U q9) (V q9) (Nat.le_refl _)).mono ?_); rintro e w3 ⟨rfl, hb⟩; rw [hxs.out]; have q6 := q9.trans (hb.mono q9.size); clear hb)
            | (obtain ⟨-, -, -, -, q9⟩ : _ ∧ _ ∧ _ ∧ _ ∧ Below W0.heap.size W0 _ := (by assumption); go_at_call 23; (with_reducible refine (refsame_any _ (.agg #[.slice o1 sa.length c1, .slice o2 la.length c2]) (.agg #[.slice o3 sb.length c3, .slice o4 lb.length c4]) sa la sb lb _ (U q9) (V q9) (Nat.le_refl _)).mono ?_); rintro e w3 ⟨rfl, hb⟩; rw [hxs.out]; have q6 := q9.trans (hb.mono q9.size); clear hb))
          clear hst
          have hst := keep q6.drew
          go_wp2
          go_region_held3 (fun X => X.cell? ⟨w.heap.size, 0, none⟩ = some (.slice o1 sa.length c1) ∧ X.cell? ⟨w.heap.size, 1, none⟩ = some (.slice o2 la.length c2) ∧ X.cell? ⟨w.heap.size + 1, 0, none⟩ = some (.slice o3 sb.length c3) ∧ X.cell? ⟨w.heap.size + 1, 1, none⟩ = some (.slice o4 lb.length c4) ∧ Below W0.heap.size W0 X) (first | exact hst | exact keep q6) (first
            | (obtain ⟨-, -, -, -, q9⟩ : _ ∧ _ ∧ _ ∧ _ ∧ Below W0.heap.size W0 _ := (by assumption); go_at_call 24; (with_reducible refine (suffix_any _ (.agg #[.slice o1 sa.length c1, .slice o2 la.length c2]) sa la i _ (U q9) (Nat.le_refl _) hi1).mono ?_); rintro e w3 ⟨r1, rfl, hN1, hb⟩; have hLa := hN1.las; clear hN1; have q6 := q9.trans (hb.mono q9.size); clear hb)
            | (obtain ⟨-, -, -, -, q9⟩ : _ ∧ _ ∧ _ ∧ _ ∧ Below W0.heap.size W0 _ := (by assumption); go_at_call 25; (with_reducible refine (refsuffix_any _ (.agg #[.slice o1 sa.length c1, .slice o2 la.length c2]) sa la i _ (U q9) (Nat.le_refl _) hi1).mono ?_); rintro e w3 ⟨r2, rfl, hN2, hb⟩; have hLb := hN2.las; clear hN2; have hLa := hLa.next hb; have q6 := q9.trans (hb.mono q9.size); clear hb)
            | (obtain ⟨-, -, -, -, q9⟩ : _ ∧ _ ∧ _ ∧ _ ∧ Below W0.heap.size W0 _ := (by assumption); go_at_call 26; (with_reducible refine (push_any _ (.slice oL l.length cL) (.agg #[.slice o1 sa.length c1, .slice o2 la.length c2]) l sa la _ (UL q9) (U q9) (Nat.le_refl _) hla).mono ?_); rintro e w3 ⟨r1, rfl, hN1, hb⟩; have hLa := hN1.las; clear hN1; have q6 := q9.trans (hb.mono q9.size); clear hb)
            | (obtain ⟨-, -, -, -, q9⟩ : _ ∧ _ ∧ _ ∧ _ ∧ Below W0.heap.size W0 _ := (by assumption); go_at_call 27; (with_reducible refine (refpush_any _ (.slice oL l.length cL) (.agg #[.slice o1 sa.length c1, .slice o2 la.length c2]) l sa la _ (UL q9) (U q9) (Nat.le_refl _) hla).mono ?_); rintro e w3 ⟨r2, rfl, hN2, hb⟩; have hLb := hN2.las; clear hN2; have hLa := hLa.next hb; have q6 := q9.trans (hb.mono q9.size); clear hb)
            | (obtain ⟨-, -, -, -, q9⟩ : _ ∧ _ ∧ _ ∧ _ ∧ Below W0.heap.size W0 _ := (by assumption); go_at_call 28; (with_reducible refine (zip_any _ (.agg #[.slice o1 sa.length c1, .slice o2 la.length c2]) (.agg #[.slice o3 sb.length c3, .slice o4 lb.length c4]) (.slice oT T.length cT) sa la sb lb T _ (U q9) (V q9) (UT q9) (Nat.le_refl _)).mono ?_); rintro e w3 ⟨r1, rfl, hN1, hb⟩; have hLa := hN1.las; clear hN1; have q6 := q9.trans (hb.mono q9.size); clear hb)
            | (obtain ⟨-, -, -, -, q9⟩ : _ ∧ _ ∧ _ ∧ _ ∧ Below W0.heap.size W0 _ := (by assumption); go_at_call 29; (with_reducible refine (refzip_any _ (.agg #[.slice o1 sa.length c1, .slice o2 la.length c2]) (.agg #[.slice o3 sb.length c3, .slice o4 lb.length c4]) (.slice oT T.length cT) sa la sb lb T _ (U q9) (V q9) (UT q9) (Nat.le_refl _)).mono ?_); rintro e w3 ⟨r2, rfl, hN2, hb⟩; have hLb := hN2.las; clear hN2; have hLa := hLa.next hb; have q6 := q9.trans (hb.mono q9.size); clear hb)
            | (obtain ⟨-, -, -, -, q9⟩ : _ ∧ _ ∧ _ ∧ _ ∧ Below W0.heap.size W0 _ := (by assumption); go_at_call 19; (with_reducible refine (refequal_any _ _ _ _ _ _ _ _ hLa hLb (Nat.le_refl _)).mono ?_); rintro e w3 ⟨rfl, hb⟩; rw [refequal_eq]; clear hLa hLb; have q6 := q9.trans (hb.mono q9.size); clear hb))
          go_wp2
          go_ret
          exact ⟨rfl, hA.trans (q6.mono hA.size)⟩

end Go.Proofs.Ytcbddplgleeiiaa
