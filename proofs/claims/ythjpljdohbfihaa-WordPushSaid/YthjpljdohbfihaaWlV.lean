/-
  The walk of the law WordPush.
-/
import Derived.Test.YthjpljdohbfihaaWlT
import Derived.Test.YthjpljdohbfihaaWlX
namespace Go.Proofs.Ythjpljdohbfihaa
open Go.RowKit

set_option maxRecDepth 100000 in
set_option maxHeartbeats 4000000 in
theorem wpush_any (va vb v : Value) (a b s l : List Int) (w : World) (ha' : IntsAt w.heap.size w va a) (hb' : IntsAt w.heap.size w vb b) (hu' : LasAt w.heap.size w v s l) :
    Calls Try.prog 8 #[va, vb, v] w fun e w' => e = .returned (.bool true) ∧ Below w.heap.size w w' := by
  obtain ⟨oa, ca, rfl⟩ := ha'.shape
  obtain ⟨ob, cb, rfl⟩ := hb'.shape
  obtain ⟨o1, c1, o2, c2, rfl, -, -⟩ := hu'.open
  obtain ⟨W0, hW0, hA, q0, e0, e1⟩ := box_open w (.slice o1 s.length c1) (.slice o2 l.length c2)
  have hC : Below W0.heap.size W0 W0 := Below.refl _ _
  by_cases h1 : a.length ≤ 80
  · have i1 : ¬ ((80 : Int) < (a.length : Int)) := by omega
    by_cases h2 : b.length ≤ 80
    · have i2 : ¬ ((80 : Int) < (b.length : Int)) := by omega
      cases hsh : shortB s l
      · go_enter Try.func8, Try.ntmps8
        go_wp2_with fail
        rw [hW0.out]
        go_wp2_with (first | (go_at_call 10; refine (head_any _).mono ?_; rintro e w1 ⟨rfl, hb⟩; have hC := hC.trans (hb.mono hC.size); clear hb; have d0 := (hC.cell (p := ⟨w.heap.size, 0, none⟩) q0).trans e0.out; have d1 := (hC.cell (p := ⟨w.heap.size, 1, none⟩) q0).trans e1.out) | (go_at_call 11; refine (refShort_any w.heap.size _ s l _ (hu'.below (hA.trans (hC.mono hA.size)) (Nat.le_refl _))).mono ?_; rintro e w2 ⟨rfl, hb⟩; rw [hsh]; have hC := hC.trans (hb.mono hC.size); clear hb; have d0 := (hC.cell (p := ⟨w.heap.size, 0, none⟩) q0).trans e0.out; have d1 := (hC.cell (p := ⟨w.heap.size, 1, none⟩) q0).trans e1.out) | fail)
        go_ret
        exact ⟨rfl, hA.trans (hC.mono hA.size)⟩
      · obtain ⟨P1, hP1⟩ : ∃ P1, Hid (P1 = (pushL a s l).1) := ⟨_, rfl⟩
        obtain ⟨P2, hP2⟩ : ∃ P2, Hid (P2 = (pushL a s l).2) := ⟨_, rfl⟩
        obtain ⟨Q1, hQ1⟩ : ∃ Q1, Hid (Q1 = (pushL b s l).1) := ⟨_, rfl⟩
        obtain ⟨Q2, hQ2⟩ : ∃ Q2, Hid (Q2 = (pushL b s l).2) := ⟨_, rfl⟩
        obtain ⟨R1, hR1⟩ : ∃ R1, Hid (R1 = (pushL (a ++ b) s l).1) := ⟨_, rfl⟩
        obtain ⟨R2, hR2⟩ : ∃ R2, Hid (R2 = (pushL (a ++ b) s l).2) := ⟨_, rfl⟩
        go_enter Try.func8, Try.ntmps8
        go_wp2_with fail
        rw [hW0.out]
        go_wp2_with (first | (go_at_call 10; refine (head_any _).mono ?_; rintro e w1 ⟨rfl, hb⟩; have hC := hC.trans (hb.mono hC.size); clear hb; have d0 := (hC.cell (p := ⟨w.heap.size, 0, none⟩) q0).trans e0.out; have d1 := (hC.cell (p := ⟨w.heap.size, 1, none⟩) q0).trans e1.out) | (go_at_call 11; refine (refShort_any w.heap.size _ s l _ (hu'.below (hA.trans (hC.mono hA.size)) (Nat.le_refl _))).mono ?_; rintro e w2 ⟨rfl, hb⟩; rw [hsh]; have hC := hC.trans (hb.mono hC.size); clear hb; have d0 := (hC.cell (p := ⟨w.heap.size, 0, none⟩) q0).trans e0.out; have d1 := (hC.cell (p := ⟨w.heap.size, 1, none⟩) q0).trans e1.out) | (go_at_call 26; refine (push_any w.heap.size (.slice oa a.length ca) _ a s l _ (ha'.below (hA.trans (hC.mono hA.size)) (Nat.le_refl _)) (hu'.below (hA.trans (hC.mono hA.size)) (Nat.le_refl _)) (Nat.le_trans hA.size hC.size) (by omega)).mono ?_; rintro e w4 ⟨r, rfl, hN, hb⟩; rw [← hP1.out, ← hP2.out] at hN; obtain ⟨u5, u4, rfl, J5, J4, -, -⟩ := hN.ex; obtain ⟨x5, e5, rfl⟩ := J5.shape; obtain ⟨x4, e4, rfl⟩ := J4.shape; have hC := hC.trans (hb.mono hC.size); clear hb))
        have b5 := below_new w4 (.cells #[.slice x5 P1.length e5, .slice x4 P2.length e4] 24)
        have m0 := hidi (box0 w4 (.slice x5 P1.length e5) (.slice x4 P2.length e4) 24)
        have m1 := hidi (box1 w4 (.slice x5 P1.length e5) (.slice x4 P2.length e4) 24)
        have mL : Hid (LasAt (w4.alloc (.cells #[.slice x5 P1.length e5, .slice x4 P2.length e4] 24)).heap.size (w4.alloc (.cells #[.slice x5 P1.length e5, .slice x4 P2.length e4] 24)) (.agg #[.slice x5 P1.length e5, .slice x4 P2.length e4]) P1 P2) := ⟨_, _, rfl, J5.next b5, J4.next b5⟩
        have hbz := box_lt w4 (.cells #[.slice x5 P1.length e5, .slice x4 P2.length e4] 24)
        replace hC := hC.trans (b5.mono hC.size)
        clear b5 J5 J4 hN d0 d1
        revert m0 m1 mL hbz hC
        generalize w4.alloc (.cells #[.slice x5 P1.length e5, .slice x4 P2.length e4] 24) = Wb
        generalize w4.heap.size = bz
        intro m0 m1 mL hbz hC
        have hAC := fun {X : World} (h : Below Wb.heap.size Wb X) => hA.trans ((hC.trans (h.mono hC.size)).mono hA.size)
        have U : ∀ {X : World}, Below Wb.heap.size Wb X → LasAt X.heap.size X (.agg #[.slice o1 s.length c1, .slice o2 l.length c2]) s l := fun h => hu'.next (hAC h)
        have UA : ∀ {X : World}, Below Wb.heap.size Wb X → IntsAt X.heap.size X (.slice oa a.length ca) a := fun h => ha'.next (hAC h)
        have UB : ∀ {X : World}, Below Wb.heap.size Wb X → IntsAt X.heap.size X (.slice ob b.length cb) b := fun h => hb'.next (hAC h)
        have V : ∀ {X : World}, Below Wb.heap.size Wb X → LasAt X.heap.size X (.agg #[.slice x5 P1.length e5, .slice x4 P2.length e4]) P1 P2 := fun h => mL.out.next h
        have keep : ∀ {X : World}, Below Wb.heap.size Wb X → X.cell? ⟨w.heap.size, 0, none⟩ = some (.slice o1 s.length c1) ∧ X.cell? ⟨w.heap.size, 1, none⟩ = some (.slice o2 l.length c2) ∧ X.cell? ⟨bz, 0, none⟩ = some (.slice x5 P1.length e5) ∧ X.cell? ⟨bz, 1, none⟩ = some (.slice x4 P2.length e4) ∧ Below Wb.heap.size Wb X := fun h =>
          ⟨((hC.trans (h.mono hC.size)).cell (p := ⟨w.heap.size, 0, none⟩) q0).trans e0.out, ((hC.trans (h.mono hC.size)).cell (p := ⟨w.heap.size, 1, none⟩) q0).trans e1.out, (h.cell (p := ⟨bz, 0, none⟩) hbz).trans m0.out, (h.cell (p := ⟨bz, 1, none⟩) hbz).trans m1.out, h⟩
        by_cases hp : P2.length = 0
        · have i3 : decide (0 < P2.length) = false := by rw [decide_eq_false_iff_not]; omega
          have i4 : ¬ ((0 : Int) < (P2.length : Int)) := by omega
          obtain ⟨z0, z1, z2, z3, -⟩ := keep (Below.refl _ _)
          go_quiet (fail)
          clear z0 z1 z2 z3
          generalize hw2 : World.drewN Wb _ = w13
          have q9 : Below Wb.heap.size Wb w13 := by rw [← hw2]; exact below_drewN (Below.refl _ _) _
          clear hw2
          obtain ⟨z0, z1, -, -, -⟩ := keep q9
          go_wp2_with (first | (go_at_call 26; refine (push_any _ (.slice ob b.length cb) (.agg #[.slice o1 s.length c1, .slice o2 l.length c2]) b s l _ (UB q9) (U q9) (Nat.le_refl _) (by omega)).mono ?_; rintro e w14 ⟨r, rfl, hN, hb⟩; rw [← hQ1.out, ← hQ2.out] at hN; obtain ⟨u7, u6, rfl, J7, J6, -, -⟩ := hN.ex; obtain ⟨x7, e7, rfl⟩ := J7.shape; obtain ⟨x6, e6, rfl⟩ := J6.shape; have q9 := q9.trans (hb.mono q9.size); clear hb))
          have b6 := below_new w14 (.cells #[.slice x7 Q1.length e7, .slice x6 Q2.length e6] 24)
          have n0 := hidi (box0 w14 (.slice x7 Q1.length e7) (.slice x6 Q2.length e6) 24)
          have n1 := hidi (box1 w14 (.slice x7 Q1.length e7) (.slice x6 Q2.length e6) 24)
          have nL : Hid (LasAt (w14.alloc (.cells #[.slice x7 Q1.length e7, .slice x6 Q2.length e6] 24)).heap.size (w14.alloc (.cells #[.slice x7 Q1.length e7, .slice x6 Q2.length e6] 24)) (.agg #[.slice x7 Q1.length e7, .slice x6 Q2.length e6]) Q1 Q2) := ⟨_, _, rfl, J7.next b6, J6.next b6⟩
          have hbq := box_lt w14 (.cells #[.slice x7 Q1.length e7, .slice x6 Q2.length e6] 24)
          have hD := q9.trans (b6.mono q9.size)
          clear b6 J7 J6 hN z0 z1 q9
          revert n0 n1 nL hbq hD
          generalize w14.alloc (.cells #[.slice x7 Q1.length e7, .slice x6 Q2.length e6] 24) = Wd
          generalize w14.heap.size = bq
          intro n0 n1 nL hbq hD
          obtain ⟨k0, k1, -, -, -⟩ := keep hD
          refine push_r8 Wd w.heap.size a b s l oa ca ob cb o1 c1 o2 c2 _ _ _ _ _ _ _ _ _ _ _ _ _ _ _ _ _ _ _ _ _ _ _ _ _ _ _ _ _ _ _ _ _ _ _ _ _ _ _ _ _ _ _ _ _ _ _ _ _ _ _ (Nat.lt_of_lt_of_le q0 (Nat.le_trans hC.size hD.size)) k0 k1 (U hD) (UA hD) (UB hD) h1 h2 ?_
          intro X g x9 e9 x8 e8 x hX hg g0 g1 gL hx7
          unfold puFr
          rw [hx7]
          simp only [← hR1.out, ← hR2.out] at g0 g1 gL
          clear hx7 k0 k1
          have p0 := (hX.cell (p := ⟨bq, 0, none⟩) hbq).trans n0.out
          have p1 := (hX.cell (p := ⟨bq, 1, none⟩) hbq).trans n1.out
          have hEnd := fun {Y : World} (h : Below X.heap.size X Y) => hAC (hD.trans ((hX.trans (h.mono hX.size)).mono hD.size))
          have aEnd := fun {Y : World} (h : Below X.heap.size X Y) => UA (hD.trans ((hX.trans (h.mono hX.size)).mono hD.size))
          by_cases hq : Q2.length = 0
          · have hr : R2.length = 0 := by
              rcases Nat.eq_zero_or_pos R2.length with h | h
              · exact h
              · have := push_part (a := a) (b := b) (s := s) (l := l) (by rw [← hR2.out]; exact h)
                rw [← hQ2.out] at this
                omega
            have i5 : ((Q2.length : Int) == 0) = true := by simp [hq]
            have i6 : ((R2.length : Int) == 0) = true := by simp [hr]
            go_wp2_with fail
            go_quiet (fail)
            go_wp2
            go_ret
            exact ⟨rfl, hEnd (below_drewN (Below.refl _ _) _)⟩
          · have i5 : ((Q2.length : Int) == 0) = false := by simp [hq]
            have i7 : decide (0 < Q2.length) = true := by rw [decide_eq_true_iff]; omega
            have hpp := push_push (a := a) (b := b) (s := s) (l := l) (by rw [← hQ2.out]; omega)
            have hPP : Hid ((pushL a Q1 Q2).1 = R1 ∧ (pushL a Q1 Q2).2 = R2) := by
              unfold Hid
              rw [hQ1.out, hQ2.out, hpp, ← hR1.out, ← hR2.out]
              exact ⟨rfl, rfl⟩
            clear hpp
            cases i6 : ((R2.length : Int) == 0)
            · have i8 : (R2.length == 0) = false := by simpa using i6
              have i9 : (Q2.length == 0) = false := by simpa using hq
              have hst := And.intro p0 (And.intro p1 (And.intro g0 (And.intro g1 (Below.refl X.heap.size X).drew)))
              have keep9 : ∀ {Y : World}, Below X.heap.size X Y → Y.cell? ⟨bq, 0, none⟩ = some (.slice x7 Q1.length e7) ∧ Y.cell? ⟨bq, 1, none⟩ = some (.slice x6 Q2.length e6) ∧ Y.cell? ⟨g, 0, none⟩ = some (.slice x9 R1.length e9) ∧ Y.cell? ⟨g, 1, none⟩ = some (.slice x8 R2.length e8) ∧ Below X.heap.size X Y := fun h =>
                ⟨(h.cell (p := ⟨bq, 0, none⟩) (Nat.lt_of_lt_of_le hbq hX.size)).trans p0, (h.cell (p := ⟨bq, 1, none⟩) (Nat.lt_of_lt_of_le hbq hX.size)).trans p1, (h.cell (p := ⟨g, 0, none⟩) hg).trans g0, (h.cell (p := ⟨g, 1, none⟩) hg).trans g1, h⟩
              go_wp2_with fail
              go_region_held3 (fun Y => Y.cell? ⟨bq, 0, none⟩ = some (.slice x7 Q1.length e7) ∧ Y.cell? ⟨bq, 1, none⟩ = some (.slice x6 Q2.length e6) ∧ Y.cell? ⟨g, 0, none⟩ = some (.slice x9 R1.length e9) ∧ Y.cell? ⟨g, 1, none⟩ = some (.slice x8 R2.length e8) ∧ Below X.heap.size X Y) (first | exact hst | exact keep9 q6) (first
                | (obtain ⟨-, -, -, -, q9⟩ : _ ∧ _ ∧ _ ∧ _ ∧ Below X.heap.size X _ := (by assumption); go_at_call 26; refine (push_any _ (.slice oa a.length ca) (.agg #[.slice x7 Q1.length e7, .slice x6 Q2.length e6]) a Q1 Q2 _ (aEnd q9) (nL.out.next (hX.trans (q9.mono hX.size))) (Nat.le_refl _) (by omega)).mono ?_; rintro e w20 ⟨r9, rfl, hN9, hb9⟩; rw [hPP.out.1, hPP.out.2] at hN9; have q6 := q9.trans (hb9.mono q9.size))
                | (obtain ⟨-, -, -, -, q9⟩ : _ ∧ _ ∧ _ ∧ _ ∧ Below X.heap.size X _ := (by assumption); go_at_call 19; refine (refequal_any _ r9 (.agg #[.slice x9 R1.length e9, .slice x8 R2.length e8]) R1 R2 R1 R2 _ hN9.las (gL.next q9) (Nat.le_refl _)).mono ?_; rintro e w21 ⟨rfl, hb10⟩; rw [refequal_self]; have q6 := q9.trans (hb10.mono q9.size)))
              all_goals go_wp2
              all_goals go_ret
              all_goals exact ⟨rfl, hEnd q6⟩
            · obtain rfl : R2 = [] := List.eq_nil_of_length_eq_zero (by simpa using i6)
              simp only [List.length_nil] at g1 gL
              clear i6
              go_wp2_with fail
              refine push_r9 X bq g a Q1 Q2 R1 oa x7 x6 x9 x8 ca e7 e6 e9 e8 _ _ _ _ _ _ _ _ _ _ _ _ _ _ _ _ _ _ _ _ _ _ _ _ _ _ _ _ _ _ _ _ _ _ _ _ _ _ _ _ _ _ _ _ _ _ _ _ _ _ _ _ _ _ _ _ _ (Nat.lt_of_lt_of_le hbq hX.size) hg p0 p1 g0 g1 (aEnd (Below.refl _ _)) (nL.out.next hX) gL h1 hPP.out.1 hPP.out.2 i5 ?_
              intro x' W' hW' hx'
              unfold puFr9
              rw [hx']
              go_wp2
              go_ret
              exact ⟨rfl, hEnd hW'⟩
        · have i3 : decide (0 < P2.length) = true := by rw [decide_eq_true_iff]; omega
          have i4 : (0 : Int) < (P2.length : Int) := by omega
          have hpl : 0 < (pushL a s l).2.length := by rw [← hP2.out]; omega
          have hPre := hidi (push_pre hpl (by omega))
          have hSuf := hidi (push_suf hpl)
          rw [← hP1.out, ← hP2.out] at hPre hSuf
          have hst := keep (Below.refl Wb.heap.size Wb).drew
          go_region_held3 (fun X => X.cell? ⟨w.heap.size, 0, none⟩ = some (.slice o1 s.length c1) ∧ X.cell? ⟨w.heap.size, 1, none⟩ = some (.slice o2 l.length c2) ∧ X.cell? ⟨bz, 0, none⟩ = some (.slice x5 P1.length e5) ∧ X.cell? ⟨bz, 1, none⟩ = some (.slice x4 P2.length e4) ∧ Below Wb.heap.size Wb X) (first | exact hst | exact keep q6) (first
            | (obtain ⟨-, -, -, -, q9⟩ : _ ∧ _ ∧ _ ∧ _ ∧ Below Wb.heap.size Wb _ := (by assumption); go_at_call 17; refine (prefix_any _ (.agg #[.slice x5 P1.length e5, .slice x4 P2.length e4]) P1 P2 a.length _ (V q9) (Nat.le_refl _)).mono ?_; rintro e w9 ⟨r1, rfl, hN1, hb9⟩; rw [hPre.out] at hN1; have hI1 := hN1.1; obtain ⟨o6, c6, rfl⟩ := hI1.shape; have q6 := q9.trans (hb9.mono q9.size))
            | (obtain ⟨-, -, -, -, q9⟩ : _ ∧ _ ∧ _ ∧ _ ∧ Below Wb.heap.size Wb _ := (by assumption); go_at_call 16; refine (ints_any _ (.slice o6 a.length c6) (.slice oa a.length ca) a a _ hI1 (UA q9) (Nat.le_refl _)).mono ?_; rintro e w10 ⟨rfl, hb10⟩; rw [decide_eq_true rfl]; have q6 := q9.trans (hb10.mono q9.size))
            | (obtain ⟨-, -, -, -, q9⟩ : _ ∧ _ ∧ _ ∧ _ ∧ Below Wb.heap.size Wb _ := (by assumption); go_at_call 24; refine (suffix_any _ (.agg #[.slice x5 P1.length e5, .slice x4 P2.length e4]) P1 P2 a.length _ (V q9) (Nat.le_refl _) (by omega)).mono ?_; rintro e w11 ⟨r2, rfl, hN2, hb11⟩; have hS2 := hN2.las; have q6 := q9.trans (hb11.mono q9.size))
            | (obtain ⟨-, -, -, -, q9⟩ : _ ∧ _ ∧ _ ∧ _ ∧ Below Wb.heap.size Wb _ := (by assumption); go_at_call 22; refine (same_any _ r2 (.agg #[.slice o1 s.length c1, .slice o2 l.length c2]) _ _ s l _ hS2 (U q9) (Nat.le_refl _)).mono ?_; rintro e w13 ⟨rfl, hb13⟩; rw [hSuf.out]; have q6 := q9.trans (hb13.mono q9.size)))
          have q9 := q6
          obtain ⟨z0, z1, -, -, -⟩ := keep q9
          go_wp2_with (first | (go_at_call 26; refine (push_any _ (.slice ob b.length cb) (.agg #[.slice o1 s.length c1, .slice o2 l.length c2]) b s l _ (UB q9) (U q9) (Nat.le_refl _) (by omega)).mono ?_; rintro e w14 ⟨r, rfl, hN, hb⟩; rw [← hQ1.out, ← hQ2.out] at hN; obtain ⟨u7, u6, rfl, J7, J6, -, -⟩ := hN.ex; obtain ⟨x7, e7, rfl⟩ := J7.shape; obtain ⟨x6, e6, rfl⟩ := J6.shape; have q9 := q9.trans (hb.mono q9.size); clear hb))
          have b6 := below_new w14 (.cells #[.slice x7 Q1.length e7, .slice x6 Q2.length e6] 24)
          have n0 := hidi (box0 w14 (.slice x7 Q1.length e7) (.slice x6 Q2.length e6) 24)
          have n1 := hidi (box1 w14 (.slice x7 Q1.length e7) (.slice x6 Q2.length e6) 24)
          have nL : Hid (LasAt (w14.alloc (.cells #[.slice x7 Q1.length e7, .slice x6 Q2.length e6] 24)).heap.size (w14.alloc (.cells #[.slice x7 Q1.length e7, .slice x6 Q2.length e6] 24)) (.agg #[.slice x7 Q1.length e7, .slice x6 Q2.length e6]) Q1 Q2) := ⟨_, _, rfl, J7.next b6, J6.next b6⟩
          have hbq := box_lt w14 (.cells #[.slice x7 Q1.length e7, .slice x6 Q2.length e6] 24)
          have hD := q9.trans (b6.mono q9.size)
          clear b6 J7 J6 hN z0 z1 q9
          revert n0 n1 nL hbq hD
          generalize w14.alloc (.cells #[.slice x7 Q1.length e7, .slice x6 Q2.length e6] 24) = Wd
          generalize w14.heap.size = bq
          intro n0 n1 nL hbq hD
          obtain ⟨k0, k1, -, -, -⟩ := keep hD
          refine push_r8 Wd w.heap.size a b s l oa ca ob cb o1 c1 o2 c2 _ _ _ _ _ _ _ _ _ _ _ _ _ _ _ _ _ _ _ _ _ _ _ _ _ _ _ _ _ _ _ _ _ _ _ _ _ _ _ _ _ _ _ _ _ _ _ _ _ _ _ (Nat.lt_of_lt_of_le q0 (Nat.le_trans hC.size hD.size)) k0 k1 (U hD) (UA hD) (UB hD) h1 h2 ?_
          intro X g x9 e9 x8 e8 x hX hg g0 g1 gL hx7
          unfold puFr
          rw [hx7]
          simp only [← hR1.out, ← hR2.out] at g0 g1 gL
          clear hx7 k0 k1
          have p0 := (hX.cell (p := ⟨bq, 0, none⟩) hbq).trans n0.out
          have p1 := (hX.cell (p := ⟨bq, 1, none⟩) hbq).trans n1.out
          have hEnd := fun {Y : World} (h : Below X.heap.size X Y) => hAC (hD.trans ((hX.trans (h.mono hX.size)).mono hD.size))
          have aEnd := fun {Y : World} (h : Below X.heap.size X Y) => UA (hD.trans ((hX.trans (h.mono hX.size)).mono hD.size))
          by_cases hq : Q2.length = 0
          · have hr : R2.length = 0 := by
              rcases Nat.eq_zero_or_pos R2.length with h | h
              · exact h
              · have := push_part (a := a) (b := b) (s := s) (l := l) (by rw [← hR2.out]; exact h)
                rw [← hQ2.out] at this
                omega
            have i5 : ((Q2.length : Int) == 0) = true := by simp [hq]
            have i6 : ((R2.length : Int) == 0) = true := by simp [hr]
            go_wp2_with fail
            go_quiet (fail)
            go_wp2
            go_ret
            exact ⟨rfl, hEnd (below_drewN (Below.refl _ _) _)⟩
          · have i5 : ((Q2.length : Int) == 0) = false := by simp [hq]
            have i7 : decide (0 < Q2.length) = true := by rw [decide_eq_true_iff]; omega
            have hpp := push_push (a := a) (b := b) (s := s) (l := l) (by rw [← hQ2.out]; omega)
            have hPP : Hid ((pushL a Q1 Q2).1 = R1 ∧ (pushL a Q1 Q2).2 = R2) := by
              unfold Hid
              rw [hQ1.out, hQ2.out, hpp, ← hR1.out, ← hR2.out]
              exact ⟨rfl, rfl⟩
            clear hpp
            cases i6 : ((R2.length : Int) == 0)
            · have i8 : (R2.length == 0) = false := by simpa using i6
              have i9 : (Q2.length == 0) = false := by simpa using hq
              have hst := And.intro p0 (And.intro p1 (And.intro g0 (And.intro g1 (Below.refl X.heap.size X).drew)))
              have keep9 : ∀ {Y : World}, Below X.heap.size X Y → Y.cell? ⟨bq, 0, none⟩ = some (.slice x7 Q1.length e7) ∧ Y.cell? ⟨bq, 1, none⟩ = some (.slice x6 Q2.length e6) ∧ Y.cell? ⟨g, 0, none⟩ = some (.slice x9 R1.length e9) ∧ Y.cell? ⟨g, 1, none⟩ = some (.slice x8 R2.length e8) ∧ Below X.heap.size X Y := fun h =>
                ⟨(h.cell (p := ⟨bq, 0, none⟩) (Nat.lt_of_lt_of_le hbq hX.size)).trans p0, (h.cell (p := ⟨bq, 1, none⟩) (Nat.lt_of_lt_of_le hbq hX.size)).trans p1, (h.cell (p := ⟨g, 0, none⟩) hg).trans g0, (h.cell (p := ⟨g, 1, none⟩) hg).trans g1, h⟩
              go_wp2_with fail
              go_region_held3 (fun Y => Y.cell? ⟨bq, 0, none⟩ = some (.slice x7 Q1.length e7) ∧ Y.cell? ⟨bq, 1, none⟩ = some (.slice x6 Q2.length e6) ∧ Y.cell? ⟨g, 0, none⟩ = some (.slice x9 R1.length e9) ∧ Y.cell? ⟨g, 1, none⟩ = some (.slice x8 R2.length e8) ∧ Below X.heap.size X Y) (first | exact hst | exact keep9 q6) (first
                | (obtain ⟨-, -, -, -, q9⟩ : _ ∧ _ ∧ _ ∧ _ ∧ Below X.heap.size X _ := (by assumption); go_at_call 26; refine (push_any _ (.slice oa a.length ca) (.agg #[.slice x7 Q1.length e7, .slice x6 Q2.length e6]) a Q1 Q2 _ (aEnd q9) (nL.out.next (hX.trans (q9.mono hX.size))) (Nat.le_refl _) (by omega)).mono ?_; rintro e w20 ⟨r9, rfl, hN9, hb9⟩; rw [hPP.out.1, hPP.out.2] at hN9; have q6 := q9.trans (hb9.mono q9.size))
                | (obtain ⟨-, -, -, -, q9⟩ : _ ∧ _ ∧ _ ∧ _ ∧ Below X.heap.size X _ := (by assumption); go_at_call 19; refine (refequal_any _ r9 (.agg #[.slice x9 R1.length e9, .slice x8 R2.length e8]) R1 R2 R1 R2 _ hN9.las (gL.next q9) (Nat.le_refl _)).mono ?_; rintro e w21 ⟨rfl, hb10⟩; rw [refequal_self]; have q6 := q9.trans (hb10.mono q9.size)))
              all_goals go_wp2
              all_goals go_ret
              all_goals exact ⟨rfl, hEnd q6⟩
            · obtain rfl : R2 = [] := List.eq_nil_of_length_eq_zero (by simpa using i6)
              simp only [List.length_nil] at g1 gL
              clear i6
              go_wp2_with fail
              refine push_r9 X bq g a Q1 Q2 R1 oa x7 x6 x9 x8 ca e7 e6 e9 e8 _ _ _ _ _ _ _ _ _ _ _ _ _ _ _ _ _ _ _ _ _ _ _ _ _ _ _ _ _ _ _ _ _ _ _ _ _ _ _ _ _ _ _ _ _ _ _ _ _ _ _ _ _ _ _ _ _ (Nat.lt_of_lt_of_le hbq hX.size) hg p0 p1 g0 g1 (aEnd (Below.refl _ _)) (nL.out.next hX) gL h1 hPP.out.1 hPP.out.2 i5 ?_
              intro x' W' hW' hx'
              unfold puFr9
              rw [hx']
              go_wp2
              go_ret
              exact ⟨rfl, hEnd hW'⟩
    · have i2 : (80 : Int) < (b.length : Int) := by omega
      go_enter Try.func8, Try.ntmps8
      go_wp2_with fail
      rw [hW0.out]
      go_wp2_with (first | (go_at_call 10; refine (head_any _).mono ?_; rintro e w1 ⟨rfl, hb⟩; have hC := hC.trans (hb.mono hC.size); clear hb; have d0 := (hC.cell (p := ⟨w.heap.size, 0, none⟩) q0).trans e0.out; have d1 := (hC.cell (p := ⟨w.heap.size, 1, none⟩) q0).trans e1.out) | fail)
      go_ret
      exact ⟨rfl, hA.trans (hC.mono hA.size)⟩
  · have i1 : (80 : Int) < (a.length : Int) := by omega
    go_enter Try.func8, Try.ntmps8
    go_wp2_with fail
    rw [hW0.out]
    go_wp2_with (first | (go_at_call 10; refine (head_any _).mono ?_; rintro e w1 ⟨rfl, hb⟩; have hC := hC.trans (hb.mono hC.size); clear hb; have d0 := (hC.cell (p := ⟨w.heap.size, 0, none⟩) q0).trans e0.out; have d1 := (hC.cell (p := ⟨w.heap.size, 1, none⟩) q0).trans e1.out) | fail)
    go_ret
    exact ⟨rfl, hA.trans (hC.mono hA.size)⟩

end Go.Proofs.Ythjpljdohbfihaa
