/-
  The walk of the law WordPrefix.
-/
import Derived.Test.YthjpljdohbfihaaWlM
namespace Go.Proofs.Ythjpljdohbfihaa
open Go.RowKit

theorem refequal_refl {s l : List Int} : lasEqB s l s l = true := by unfold lasEqB; simp

set_option maxRecDepth 100000 in
set_option maxHeartbeats 4000000 in
theorem wprefix_any (v : Value) (s l : List Int) (n : Int) (w : World) (hu' : LasAt w.heap.size w v s l) :
    Calls Try.prog 7 #[v, .int .i64 n] w fun e w' => e = .returned (.bool true) ∧ Below w.heap.size w w' := by
  obtain ⟨o1, c1, o2, c2, rfl, -, -⟩ := hu'.open
  obtain ⟨W0, hW0, hA, q0, e0, e1⟩ := box_open w (.slice o1 s.length c1) (.slice o2 l.length c2)
  obtain ⟨P, hP⟩ : ∃ P, Hid (P = preL s l n) := ⟨_, rfl⟩
  have hC : Below W0.heap.size W0 W0 := Below.refl _ _
  cases hf : formedB s l
  · have hP0 : P = [] := by rw [hP.out]; unfold preL; rw [hf]; rfl
    go_enter Try.func7, Try.ntmps7
    go_wp2_with fail
    rw [hW0.out]
    go_wp2_with (first | (go_at_call 10; refine (head_any _).mono ?_; rintro e w1 ⟨rfl, hb⟩; have hC := hC.trans (hb.mono hC.size); clear hb; have d0 := (hC.cell (p := ⟨w.heap.size, 0, none⟩) q0).trans e0.out; have d1 := (hC.cell (p := ⟨w.heap.size, 1, none⟩) q0).trans e1.out) | (go_at_call 17; refine (prefix_any w.heap.size _ s l _ _ (hu'.below (hA.trans (hC.mono hA.size)) (Nat.le_refl _)) (Nat.le_trans hA.size hC.size)).mono ?_; rintro e w2 ⟨r, rfl, hN, hb⟩; rw [← hP.out] at hN; have hI := hN.1; obtain ⟨o6, c6, rfl⟩ := hI.shape; have hC := hC.trans (hb.mono hC.size); clear hb hN; have d0 := (hC.cell (p := ⟨w.heap.size, 0, none⟩) q0).trans e0.out; have d1 := (hC.cell (p := ⟨w.heap.size, 1, none⟩) q0).trans e1.out) | (go_at_call 30; refine (refformed_any w.heap.size _ s l _ (hu'.below (hA.trans (hC.mono hA.size)) (Nat.le_refl _)) (Nat.le_trans hA.size hC.size)).mono ?_; rintro e w3 ⟨rfl, hb⟩; rw [hf]; have hI := hI.next hb; have hC := hC.trans (hb.mono hC.size); clear hb; have d0 := (hC.cell (p := ⟨w.heap.size, 0, none⟩) q0).trans e0.out; have d1 := (hC.cell (p := ⟨w.heap.size, 1, none⟩) q0).trans e1.out))
    go_ret
    exact ⟨rfl, hA.trans (hC.mono hA.size)⟩
  · by_cases hn0 : 0 ≤ n
    · by_cases hn5 : n ≤ 500
      · obtain ⟨N, rfl⟩ := Int.eq_ofNat_of_zero_le hn0
        have hN5 : N ≤ 500 := by omega
        have hPl : P.length = N := by rw [hP.out, preL_eq hf hN5]; simp
        have hPe : Hid (∀ k (h : k < P.length), P[k] = letAt s l k) := by
          intro k h
          have h2 : P = (List.range N).map (letAt s l) := by rw [hP.out, preL_eq hf hN5]
          subst h2
          simp
        have hfin := hidi (push_prefix hf hN5)
        have hne : ((P.length : Int) != (N : Int)) = false := by simp [hPl]
        have hPl' := hidi hPl
        clear hPl
        go_enter Try.func7, Try.ntmps7
        go_wp2_with fail
        rw [hW0.out]
        go_wp2_with (first | (go_at_call 10; refine (head_any _).mono ?_; rintro e w1 ⟨rfl, hb⟩; have hC := hC.trans (hb.mono hC.size); clear hb; have d0 := (hC.cell (p := ⟨w.heap.size, 0, none⟩) q0).trans e0.out; have d1 := (hC.cell (p := ⟨w.heap.size, 1, none⟩) q0).trans e1.out) | (go_at_call 17; refine (prefix_any w.heap.size _ s l _ _ (hu'.below (hA.trans (hC.mono hA.size)) (Nat.le_refl _)) (Nat.le_trans hA.size hC.size)).mono ?_; rintro e w2 ⟨r, rfl, hN, hb⟩; rw [← hP.out] at hN; have hI := hN.1; obtain ⟨o6, c6, rfl⟩ := hI.shape; have hC := hC.trans (hb.mono hC.size); clear hb hN; have d0 := (hC.cell (p := ⟨w.heap.size, 0, none⟩) q0).trans e0.out; have d1 := (hC.cell (p := ⟨w.heap.size, 1, none⟩) q0).trans e1.out) | (go_at_call 30; refine (refformed_any w.heap.size _ s l _ (hu'.below (hA.trans (hC.mono hA.size)) (Nat.le_refl _)) (Nat.le_trans hA.size hC.size)).mono ?_; rintro e w3 ⟨rfl, hb⟩; rw [hf]; have hI := hI.next hb; have hC := hC.trans (hb.mono hC.size); clear hb; have d0 := (hC.cell (p := ⟨w.heap.size, 0, none⟩) q0).trans e0.out; have d1 := (hC.cell (p := ⟨w.heap.size, 1, none⟩) q0).trans e1.out))
        go_loopw [7] (fun i wr => ∃ k : Nat, k ≤ N ∧ i = .int .i64 k ∧ Below w3.heap.size w3 wr) (fun i _ => N - (intOf i).toNat)
        case atStart => exact ⟨0, Nat.zero_le _, rfl, Below.refl _ _⟩
        case round =>
          obtain ⟨k, hk, rfl, hB⟩ := hrel
          have hCB := hC.trans (hB.mono hC.size)
          have hst := And.intro ((hCB.drew.cell (p := ⟨w.heap.size, 0, none⟩) q0).trans e0.out) (And.intro ((hCB.drew.cell (p := ⟨w.heap.size, 1, none⟩) q0).trans e1.out) (And.intro (hidi trivial : Hid True) hCB.drew))
          clear d0 d1
          have U : ∀ {X : World}, Below W0.heap.size W0 X → LasAt X.heap.size X (.agg #[.slice o1 s.length c1, .slice o2 l.length c2]) s l := fun h => (hu'.below (hA.trans (h.mono hA.size)) (Nat.le_refl _)).mono (Nat.le_trans hA.size h.size)
          by_cases hlt : k < N
          · have hkP : k < P.length := by have := hPl'.out; omega
            have hIk := hI.next hB
            obtain ⟨b, off, rfl, hb1, -, -, hc⟩ := hIk.at (by omega)
            have dk := (hc k hkP).1
            have hv : Hid (P[k] = atI s l k) := by unfold Hid; rw [hPe.out k hkP, atI_formed hf]
            have hii : (k : Int) < (N : Int) := by omega
            have g1 : (0 : Int) ≤ (k : Int) := by omega
            have g2 : (k : Int) < (P.length : Int) := by omega
            have hbb : (P[k] != P[k]) = false := by simp
            generalize P[k] = pk at *
            have hdk : ∀ {X : World}, Below wr.heap.size wr X → X.cell? ⟨b, off + k, none⟩ = some (.int .i64 pk) := fun h => (h.cell (p := ⟨b, off + k, none⟩) hb1).trans dk
            have hst2 := And.intro (hdk (Below.refl _ _).drew) (And.intro hst.1 (And.intro hst.2.1 (Below.refl wr.heap.size wr).drew))
            clear hst
            go_wp2_with fail
            go_region_held3 (fun X => X.cell? ⟨b, off + k, none⟩ = some (.int .i64 pk) ∧ X.cell? ⟨w.heap.size, 0, none⟩ = some (.slice o1 s.length c1) ∧ X.cell? ⟨w.heap.size, 1, none⟩ = some (.slice o2 l.length c2) ∧ Below wr.heap.size wr X) (first | exact hst2 | exact ⟨hdk q6, ((hCB.trans (q6.mono hCB.size)).cell (p := ⟨w.heap.size, 0, none⟩) q0).trans e0.out, ((hCB.trans (q6.mono hCB.size)).cell (p := ⟨w.heap.size, 1, none⟩) q0).trans e1.out, q6⟩) (first | (obtain ⟨-, -, -, q9⟩ : _ ∧ _ ∧ _ ∧ Below wr.heap.size wr _ := (by assumption); go_at_call 14; refine (at_any _ _ s l k _ (U (hCB.trans (q9.mono hCB.size))) (Nat.le_refl _) (by omega)).mono ?_; rintro e w9 ⟨rfl, hb9⟩; rw [← hv.out]; have q6 := q9.trans (hb9.mono q9.size)))
            all_goals go_wp2
            all_goals go_roundw
            case rel =>
              obtain ⟨-, -, -, q9⟩ : _ ∧ _ ∧ _ ∧ Below wr.heap.size wr _ := (by assumption)
              exact ⟨k + 1, by omega, by go_num, hB.trans (q9.mono hB.size)⟩
            case measure => simp [intOf]; omega
          · have hii : ¬ (k : Int) < (N : Int) := by omega
            go_wp2_with fail
            go_region_held3 (fun X => X.cell? ⟨w.heap.size, 0, none⟩ = some (.slice o1 s.length c1) ∧ X.cell? ⟨w.heap.size, 1, none⟩ = some (.slice o2 l.length c2) ∧ Hid True ∧ Below W0.heap.size W0 X) (first | exact hst | exact ⟨(q6.cell (p := ⟨w.heap.size, 0, none⟩) q0).trans e0.out, (q6.cell (p := ⟨w.heap.size, 1, none⟩) q0).trans e1.out, trivial, q6⟩) (first
              | (obtain ⟨-, -, -, q9⟩ : _ ∧ _ ∧ Hid True ∧ Below W0.heap.size W0 _ := (by assumption); go_at_call 24; refine (suffix_any _ _ s l N _ (U q9) (Nat.le_refl _) (by omega)).mono ?_; rintro e w9 ⟨r1, rfl, hN1, hb9⟩; have hS1 := hN1.las; have hI9 := ((hI.next hB).next (Below.refl _ _).drew).next hb9; have q6 := q9.trans (hb9.mono q9.size))
              | (obtain ⟨-, -, -, q9⟩ : _ ∧ _ ∧ Hid True ∧ Below W0.heap.size W0 _ := (by assumption); go_at_call 26; refine (push_any _ _ r1 P _ _ _ hI9 hS1 (Nat.le_refl _) (by have := hPl'.out; omega)).mono ?_; rintro e w10 ⟨r2, rfl, hN2, hb10⟩; rw [hP.out, hfin.out] at hN2; have hS2 := hN2.las; have q6 := q9.trans (hb10.mono q9.size))
              | (obtain ⟨-, -, -, q9⟩ : _ ∧ _ ∧ Hid True ∧ Below W0.heap.size W0 _ := (by assumption); go_at_call 20; refine (wnormal_any _ _ s l _ (U q9) (Nat.le_refl _)).mono ?_; rintro e w11 ⟨r3, rfl, hN3, hb11⟩; rw [normI_formed hf] at hN3; have hS2 := hS2.next hb11; have q6 := q9.trans (hb11.mono q9.size))
              | (obtain ⟨-, -, -, q9⟩ : _ ∧ _ ∧ Hid True ∧ Below W0.heap.size W0 _ := (by assumption); go_at_call 19; refine (refequal_any _ r2 r3 _ _ _ _ _ hS2 hN3.las (Nat.le_refl _)).mono ?_; rintro e w12 ⟨rfl, hb12⟩; rw [refequal_refl]; have q6 := q9.trans (hb12.mono q9.size)))
            all_goals go_wp2
            all_goals go_ret
            all_goals
              obtain ⟨-, -, -, q9⟩ : _ ∧ _ ∧ Hid True ∧ Below W0.heap.size W0 _ := (by assumption)
              exact ⟨rfl, hA.trans (q9.mono hA.size)⟩
      · have hP0 : P = [] := by rw [hP.out]; unfold preL; rw [decide_eq_false hn5, Bool.and_false]; rfl
        go_enter Try.func7, Try.ntmps7
        go_wp2_with fail
        rw [hW0.out]
        go_wp2_with (first | (go_at_call 10; refine (head_any _).mono ?_; rintro e w1 ⟨rfl, hb⟩; have hC := hC.trans (hb.mono hC.size); clear hb; have d0 := (hC.cell (p := ⟨w.heap.size, 0, none⟩) q0).trans e0.out; have d1 := (hC.cell (p := ⟨w.heap.size, 1, none⟩) q0).trans e1.out) | (go_at_call 17; refine (prefix_any w.heap.size _ s l _ _ (hu'.below (hA.trans (hC.mono hA.size)) (Nat.le_refl _)) (Nat.le_trans hA.size hC.size)).mono ?_; rintro e w2 ⟨r, rfl, hN, hb⟩; rw [← hP.out] at hN; have hI := hN.1; obtain ⟨o6, c6, rfl⟩ := hI.shape; have hC := hC.trans (hb.mono hC.size); clear hb hN; have d0 := (hC.cell (p := ⟨w.heap.size, 0, none⟩) q0).trans e0.out; have d1 := (hC.cell (p := ⟨w.heap.size, 1, none⟩) q0).trans e1.out) | (go_at_call 30; refine (refformed_any w.heap.size _ s l _ (hu'.below (hA.trans (hC.mono hA.size)) (Nat.le_refl _)) (Nat.le_trans hA.size hC.size)).mono ?_; rintro e w3 ⟨rfl, hb⟩; rw [hf]; have hI := hI.next hb; have hC := hC.trans (hb.mono hC.size); clear hb; have d0 := (hC.cell (p := ⟨w.heap.size, 0, none⟩) q0).trans e0.out; have d1 := (hC.cell (p := ⟨w.heap.size, 1, none⟩) q0).trans e1.out))
        go_ret
        exact ⟨rfl, hA.trans (hC.mono hA.size)⟩
    · have hP0 : P = [] := by
        rw [hP.out]
        unfold preL
        split
        · rw [show n.toNat = 0 by omega]; rfl
        · rfl
      go_enter Try.func7, Try.ntmps7
      go_wp2_with fail
      rw [hW0.out]
      go_wp2_with (first | (go_at_call 10; refine (head_any _).mono ?_; rintro e w1 ⟨rfl, hb⟩; have hC := hC.trans (hb.mono hC.size); clear hb; have d0 := (hC.cell (p := ⟨w.heap.size, 0, none⟩) q0).trans e0.out; have d1 := (hC.cell (p := ⟨w.heap.size, 1, none⟩) q0).trans e1.out) | (go_at_call 17; refine (prefix_any w.heap.size _ s l _ _ (hu'.below (hA.trans (hC.mono hA.size)) (Nat.le_refl _)) (Nat.le_trans hA.size hC.size)).mono ?_; rintro e w2 ⟨r, rfl, hN, hb⟩; rw [← hP.out] at hN; have hI := hN.1; obtain ⟨o6, c6, rfl⟩ := hI.shape; have hC := hC.trans (hb.mono hC.size); clear hb hN; have d0 := (hC.cell (p := ⟨w.heap.size, 0, none⟩) q0).trans e0.out; have d1 := (hC.cell (p := ⟨w.heap.size, 1, none⟩) q0).trans e1.out) | (go_at_call 30; refine (refformed_any w.heap.size _ s l _ (hu'.below (hA.trans (hC.mono hA.size)) (Nat.le_refl _)) (Nat.le_trans hA.size hC.size)).mono ?_; rintro e w3 ⟨rfl, hb⟩; rw [hf]; have hI := hI.next hb; have hC := hC.trans (hb.mono hC.size); clear hb; have d0 := (hC.cell (p := ⟨w.heap.size, 0, none⟩) q0).trans e0.out; have d1 := (hC.cell (p := ⟨w.heap.size, 1, none⟩) q0).trans e1.out))
      go_ret
      exact ⟨rfl, hA.trans (hC.mono hA.size)⟩

end Go.Proofs.Ythjpljdohbfihaa
