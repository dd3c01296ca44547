/-
  The walk of the law WordSuffix.
-/
import Derived.Test.YthjpljdohbfihaaWlP
namespace Go.Proofs.Ythjpljdohbfihaa
open Go.RowKit

set_option maxRecDepth 100000 in
set_option maxHeartbeats 4000000 in
theorem wsuffix_any (v : Value) (s l : List Int) (n m : Int) (w : World) (hu' : LasAt w.heap.size w v s l) (hn : n ≤ 9223372036854775807) :
    Calls Try.prog 6 #[v, .int .i64 n, .int .i64 m] w fun e w' => e = .returned (.bool true) ∧ Below w.heap.size w w' := by
  obtain ⟨o1, c1, o2, c2, rfl, -, -⟩ := hu'.open
  obtain ⟨W0, hW0, hA, q0, e0, e1⟩ := box_open w (.slice o1 s.length c1) (.slice o2 l.length c2)
  have hC : Below W0.heap.size W0 W0 := Below.refl _ _
  cases hf : formedB s l
  · have hS0 : sufL s l n = ([], []) := by unfold sufL; rw [hf]; rfl
    by_cases hn0 : 0 ≤ n
    · go_enter Try.func6, Try.ntmps6
      go_wp2_with fail
      rw [hW0.out]
      go_wp2_with (first | (go_at_call 10; refine (head_any _).mono ?_; rintro e w1 ⟨rfl, hb⟩; have hC := hC.trans (hb.mono hC.size); clear hb; have d0 := (hC.cell (p := ⟨w.heap.size, 0, none⟩) q0).trans e0.out; have d1 := (hC.cell (p := ⟨w.heap.size, 1, none⟩) q0).trans e1.out) | (go_at_call 30; refine (refformed_any w.heap.size _ s l _ (hu'.below (hA.trans (hC.mono hA.size)) (Nat.le_refl _)) (Nat.le_trans hA.size hC.size)).mono ?_; rintro e w3 ⟨rfl, hb⟩; rw [hf];  have hC := hC.trans (hb.mono hC.size); clear hb; have d0 := (hC.cell (p := ⟨w.heap.size, 0, none⟩) q0).trans e0.out; have d1 := (hC.cell (p := ⟨w.heap.size, 1, none⟩) q0).trans e1.out) | (go_at_call 24; refine (suffix_any w.heap.size _ s l n _ (hu'.below (hA.trans (hC.mono hA.size)) (Nat.le_refl _)) (Nat.le_trans hA.size hC.size) hn).mono ?_; rintro e w4 ⟨r, rfl, hN, hb⟩; rw [hS0] at hN; obtain ⟨u5, u4, rfl, J5, J4, -, -⟩ := hN.ex; obtain ⟨x5, e5, rfl⟩ := J5.shape; obtain ⟨x4, e4, rfl⟩ := J4.shape; have hfd := fun W => las_field W x5 0 e5 x4 0 e4; have hC := hC.trans (hb.mono hC.size)))
      go_ret
      exact ⟨rfl, hA.trans (hC.mono hA.size)⟩
    · go_enter Try.func6, Try.ntmps6
      go_wp2_with fail
      rw [hW0.out]
      go_wp2_with (first | (go_at_call 10; refine (head_any _).mono ?_; rintro e w1 ⟨rfl, hb⟩; have hC := hC.trans (hb.mono hC.size); clear hb; have d0 := (hC.cell (p := ⟨w.heap.size, 0, none⟩) q0).trans e0.out; have d1 := (hC.cell (p := ⟨w.heap.size, 1, none⟩) q0).trans e1.out) | (go_at_call 30; refine (refformed_any w.heap.size _ s l _ (hu'.below (hA.trans (hC.mono hA.size)) (Nat.le_refl _)) (Nat.le_trans hA.size hC.size)).mono ?_; rintro e w3 ⟨rfl, hb⟩; rw [hf];  have hC := hC.trans (hb.mono hC.size); clear hb; have d0 := (hC.cell (p := ⟨w.heap.size, 0, none⟩) q0).trans e0.out; have d1 := (hC.cell (p := ⟨w.heap.size, 1, none⟩) q0).trans e1.out) | (go_at_call 24; refine (suffix_any w.heap.size _ s l n _ (hu'.below (hA.trans (hC.mono hA.size)) (Nat.le_refl _)) (Nat.le_trans hA.size hC.size) hn).mono ?_; rintro e w4 ⟨r, rfl, hN, hb⟩; rw [hS0] at hN; obtain ⟨u5, u4, rfl, J5, J4, -, -⟩ := hN.ex; obtain ⟨x5, e5, rfl⟩ := J5.shape; obtain ⟨x4, e4, rfl⟩ := J4.shape; have hfd := fun W => las_field W x5 0 e5 x4 0 e4; have hC := hC.trans (hb.mono hC.size)))
      go_ret
      exact ⟨rfl, hA.trans (hC.mono hA.size)⟩
  · by_cases hn0 : 0 ≤ n
    · by_cases hm0 : 0 ≤ m
      · by_cases hn1 : n ≤ 1000
        · by_cases hm1 : m ≤ 1000
          · obtain ⟨N, rfl⟩ := Int.eq_ofNat_of_zero_le hn0
            obtain ⟨M, rfl⟩ := Int.eq_ofNat_of_zero_le hm0
            obtain ⟨S1, hS1⟩ : ∃ S1, Hid (S1 = (sufL s l N).1) := ⟨_, rfl⟩
            obtain ⟨S2, hS2⟩ : ∃ S2, Hid (S2 = (sufL s l N).2) := ⟨_, rfl⟩
            have hSf : formedB S1 S2 = true := by rw [hS1.out, hS2.out]; exact sufL_formed hf N
            have hSw : Hid (∀ i : Nat, atI S1 S2 i = atI s l ((N : Int) + (i : Int))) := by
              intro i
              rw [atI_formed hSf, show ((N : Int) + (i : Int)) = ((N + i : Nat) : Int) by omega, atI_formed hf, hS1.out, hS2.out, sufL_word hf]
            have hSS : Hid (sufL S1 S2 M = sufL s l ((N : Int) + (M : Int))) := by
              unfold Hid
              rw [hS1.out, hS2.out, sufL_suf hf, show ((N + M : Nat) : Int) = (N : Int) + (M : Int) by omega]
            have hS0 := hidi (sufL_same hf)
            have v1 : IntKind.i64.wrap ((N : Int) + (M : Int)) = (N : Int) + (M : Int) := by rw [IntKind.wrap_i64]; omega
            go_enter Try.func6, Try.ntmps6
            go_wp2_with fail
            rw [hW0.out]
            go_wp2_with (first | (go_at_call 10; refine (head_any _).mono ?_; rintro e w1 ⟨rfl, hb⟩; have hC := hC.trans (hb.mono hC.size); clear hb; have d0 := (hC.cell (p := ⟨w.heap.size, 0, none⟩) q0).trans e0.out; have d1 := (hC.cell (p := ⟨w.heap.size, 1, none⟩) q0).trans e1.out) | (go_at_call 30; refine (refformed_any w.heap.size _ s l _ (hu'.below (hA.trans (hC.mono hA.size)) (Nat.le_refl _)) (Nat.le_trans hA.size hC.size)).mono ?_; rintro e w3 ⟨rfl, hb⟩; rw [hf];  have hC := hC.trans (hb.mono hC.size); clear hb; have d0 := (hC.cell (p := ⟨w.heap.size, 0, none⟩) q0).trans e0.out; have d1 := (hC.cell (p := ⟨w.heap.size, 1, none⟩) q0).trans e1.out) | (go_at_call 24; refine (suffix_any w.heap.size _ s l N _ (hu'.below (hA.trans (hC.mono hA.size)) (Nat.le_refl _)) (Nat.le_trans hA.size hC.size) hn).mono ?_; rintro e w4 ⟨r, rfl, hN, hb⟩; rw [← hS1.out, ← hS2.out] at hN; obtain ⟨u5, u4, rfl, J5, J4, -, -⟩ := hN.ex; obtain ⟨x5, e5, rfl⟩ := J5.shape; obtain ⟨x4, e4, rfl⟩ := J4.shape; have hC := hC.trans (hb.mono hC.size)))
            have b5 := below_new w4 (.cells #[.slice x5 S1.length e5, .slice x4 S2.length e4] 24)
            have m0 := hidi (box0 w4 (.slice x5 S1.length e5) (.slice x4 S2.length e4) 24)
            have m1 := hidi (box1 w4 (.slice x5 S1.length e5) (.slice x4 S2.length e4) 24)
            have mL : Hid (LasAt (w4.alloc (.cells #[.slice x5 S1.length e5, .slice x4 S2.length e4] 24)).heap.size (w4.alloc (.cells #[.slice x5 S1.length e5, .slice x4 S2.length e4] 24)) (.agg #[.slice x5 S1.length e5, .slice x4 S2.length e4]) S1 S2) := ⟨_, _, rfl, J5.next b5, J4.next b5⟩
            have hbz := box_lt w4 (.cells #[.slice x5 S1.length e5, .slice x4 S2.length e4] 24)
            replace hC := hC.trans (b5.mono hC.size)
            clear b5 J5 J4 hN d0 d1
            revert m0 m1 mL hbz hC
            generalize w4.alloc (.cells #[.slice x5 S1.length e5, .slice x4 S2.length e4] 24) = Wb
            generalize w4.heap.size = bz
            intro m0 m1 mL hbz hC
            have U : ∀ {X : World}, Below Wb.heap.size Wb X → LasAt X.heap.size X (.agg #[.slice o1 s.length c1, .slice o2 l.length c2]) s l := fun h => (hu'.below (hA.trans ((hC.trans (h.mono hC.size)).mono hA.size)) (Nat.le_refl _)).mono (Nat.le_trans hA.size (Nat.le_trans hC.size h.size))
            have V : ∀ {X : World}, Below Wb.heap.size Wb X → LasAt X.heap.size X (.agg #[.slice x5 S1.length e5, .slice x4 S2.length e4]) S1 S2 := fun h => mL.out.next h
            have keep : ∀ {X : World}, Below Wb.heap.size Wb X → X.cell? ⟨w.heap.size, 0, none⟩ = some (.slice o1 s.length c1) ∧ X.cell? ⟨w.heap.size, 1, none⟩ = some (.slice o2 l.length c2) ∧ X.cell? ⟨bz, 0, none⟩ = some (.slice x5 S1.length e5) ∧ X.cell? ⟨bz, 1, none⟩ = some (.slice x4 S2.length e4) ∧ Below Wb.heap.size Wb X := fun h =>
              ⟨((hC.trans (h.mono hC.size)).cell (p := ⟨w.heap.size, 0, none⟩) q0).trans e0.out, ((hC.trans (h.mono hC.size)).cell (p := ⟨w.heap.size, 1, none⟩) q0).trans e1.out, (h.cell (p := ⟨bz, 0, none⟩) hbz).trans m0.out, (h.cell (p := ⟨bz, 1, none⟩) hbz).trans m1.out, h⟩
            go_loopw [9] (fun i wr => ∃ k : Nat, k ≤ 120 ∧ i = .int .i64 k ∧ Below Wb.heap.size Wb wr) (fun i _ => 120 - (intOf i).toNat)
            case atStart => exact ⟨0, by omega, rfl, Below.refl _ _⟩
            case round =>
              obtain ⟨k, hk, rfl, hB⟩ := hrel
              have hst := keep hB.drew
              by_cases hlt : k < 120
              · have hii : (k : Int) < 120 := by omega
                have v2 : IntKind.i64.wrap ((N : Int) + (k : Int)) = (N : Int) + (k : Int) := by rw [IntKind.wrap_i64]; omega
                obtain ⟨y, hy⟩ : ∃ y, Hid (y = atI s l ((N : Int) + (k : Int))) := ⟨_, rfl⟩
                have hyy : (y != y) = false := by simp
                go_wp2_with fail
                go_region_held3 (fun X => X.cell? ⟨w.heap.size, 0, none⟩ = some (.slice o1 s.length c1) ∧ X.cell? ⟨w.heap.size, 1, none⟩ = some (.slice o2 l.length c2) ∧ X.cell? ⟨bz, 0, none⟩ = some (.slice x5 S1.length e5) ∧ X.cell? ⟨bz, 1, none⟩ = some (.slice x4 S2.length e4) ∧ Below Wb.heap.size Wb X) (first | exact hst | exact keep q6) (first
                  | (obtain ⟨-, -, -, -, q9⟩ : _ ∧ _ ∧ _ ∧ _ ∧ Below Wb.heap.size Wb _ := (by assumption); go_at_call 14; (with_reducible refine (at_any _ (.agg #[.slice x5 S1.length e5, .slice x4 S2.length e4]) S1 S2 k _ (V q9) (Nat.le_refl _) (by omega)).mono ?_); rintro e w9 ⟨rfl, hb9⟩; rw [hSw.out k, ← hy.out]; have q6 := q9.trans (hb9.mono q9.size))
                  | (obtain ⟨-, -, -, -, q9⟩ : _ ∧ _ ∧ _ ∧ _ ∧ Below Wb.heap.size Wb _ := (by assumption); go_at_call 14; (with_reducible refine (at_any _ (.agg #[.slice o1 s.length c1, .slice o2 l.length c2]) s l ((N : Int) + (k : Int)) _ (U q9) (Nat.le_refl _) (by omega)).mono ?_); rintro e w9 ⟨rfl, hb9⟩; rw [← hy.out]; have q6 := q9.trans (hb9.mono q9.size)))
                all_goals go_wp2
                all_goals go_roundw
                case rel =>
                  obtain ⟨-, -, -, -, q9⟩ : _ ∧ _ ∧ _ ∧ _ ∧ Below Wb.heap.size Wb _ := (by assumption)
                  exact ⟨k + 1, by omega, by go_num, q9⟩
                case measure => simp [intOf]; omega
              · have hii : ¬ (k : Int) < 120 := by omega
                go_wp2_with fail
                go_region_held3 (fun X => X.cell? ⟨w.heap.size, 0, none⟩ = some (.slice o1 s.length c1) ∧ X.cell? ⟨w.heap.size, 1, none⟩ = some (.slice o2 l.length c2) ∧ X.cell? ⟨bz, 0, none⟩ = some (.slice x5 S1.length e5) ∧ X.cell? ⟨bz, 1, none⟩ = some (.slice x4 S2.length e4) ∧ Below Wb.heap.size Wb X) (first | exact hst | exact keep q6) (first
                  | (obtain ⟨-, -, -, -, q9⟩ : _ ∧ _ ∧ _ ∧ _ ∧ Below Wb.heap.size Wb _ := (by assumption); go_at_call 24; (with_reducible refine (suffix_any _ (.agg #[.slice x5 S1.length e5, .slice x4 S2.length e4]) S1 S2 M _ (V q9) (Nat.le_refl _) (by omega)).mono ?_); rintro e w9 ⟨r1, rfl, hN1, hb9⟩; rw [hSS.out] at hN1; have hL1 := hN1.las; have q6 := q9.trans (hb9.mono q9.size))
                  | (obtain ⟨-, -, -, -, q9⟩ : _ ∧ _ ∧ _ ∧ _ ∧ Below Wb.heap.size Wb _ := (by assumption); go_at_call 24; (with_reducible refine (suffix_any _ (.agg #[.slice o1 s.length c1, .slice o2 l.length c2]) s l ((N : Int) + (M : Int)) _ (U q9) (Nat.le_refl _) (by omega)).mono ?_); rintro e w10 ⟨r2, rfl, hN2, hb10⟩; have hL1 := hL1.next hb10; have q6 := q9.trans (hb10.mono q9.size))
                  | (obtain ⟨-, -, -, -, q9⟩ : _ ∧ _ ∧ _ ∧ _ ∧ Below Wb.heap.size Wb _ := (by assumption); go_at_call 19; refine (refequal_any _ r1 r2 _ _ _ _ _ hL1 hN2.las (Nat.le_refl _)).mono ?_; rintro e w11 ⟨rfl, hb11⟩; rw [refequal_refl]; have q6 := q9.trans (hb11.mono q9.size))
                  | (obtain ⟨-, -, -, -, q9⟩ : _ ∧ _ ∧ _ ∧ _ ∧ Below Wb.heap.size Wb _ := (by assumption); go_at_call 24; (with_reducible refine (suffix_any _ (.agg #[.slice o1 s.length c1, .slice o2 l.length c2]) s l 0 _ (U q9) (Nat.le_refl _) (by omega)).mono ?_); rintro e w12 ⟨r3, rfl, hN3, hb12⟩; have q6 := q9.trans (hb12.mono q9.size))
                  | (obtain ⟨-, -, -, -, q9⟩ : _ ∧ _ ∧ _ ∧ _ ∧ Below Wb.heap.size Wb _ := (by assumption); go_at_call 22; refine (same_any _ r3 _ _ _ s l _ hN3.las (U q9) (Nat.le_refl _)).mono ?_; rintro e w13 ⟨rfl, hb13⟩; rw [hS0.out]; have q6 := q9.trans (hb13.mono q9.size)))
                all_goals go_wp2
                all_goals go_ret
                all_goals
                  obtain ⟨-, -, -, -, q9⟩ : _ ∧ _ ∧ _ ∧ _ ∧ Below Wb.heap.size Wb _ := (by assumption)
                  exact ⟨rfl, hA.trans ((hC.trans (q9.mono hC.size)).mono hA.size)⟩
          · have hS0 : True := trivial
            go_enter Try.func6, Try.ntmps6
            go_wp2_with fail
            rw [hW0.out]
            go_wp2_with (first | (go_at_call 10; refine (head_any _).mono ?_; rintro e w1 ⟨rfl, hb⟩; have hC := hC.trans (hb.mono hC.size); clear hb; have d0 := (hC.cell (p := ⟨w.heap.size, 0, none⟩) q0).trans e0.out; have d1 := (hC.cell (p := ⟨w.heap.size, 1, none⟩) q0).trans e1.out) | (go_at_call 30; refine (refformed_any w.heap.size _ s l _ (hu'.below (hA.trans (hC.mono hA.size)) (Nat.le_refl _)) (Nat.le_trans hA.size hC.size)).mono ?_; rintro e w3 ⟨rfl, hb⟩; rw [hf];  have hC := hC.trans (hb.mono hC.size); clear hb; have d0 := (hC.cell (p := ⟨w.heap.size, 0, none⟩) q0).trans e0.out; have d1 := (hC.cell (p := ⟨w.heap.size, 1, none⟩) q0).trans e1.out) | fail)
            go_ret
            exact ⟨rfl, hA.trans (hC.mono hA.size)⟩
        · have hS0 : True := trivial
          go_enter Try.func6, Try.ntmps6
          go_wp2_with fail
          rw [hW0.out]
          go_wp2_with (first | (go_at_call 10; refine (head_any _).mono ?_; rintro e w1 ⟨rfl, hb⟩; have hC := hC.trans (hb.mono hC.size); clear hb; have d0 := (hC.cell (p := ⟨w.heap.size, 0, none⟩) q0).trans e0.out; have d1 := (hC.cell (p := ⟨w.heap.size, 1, none⟩) q0).trans e1.out) | (go_at_call 30; refine (refformed_any w.heap.size _ s l _ (hu'.below (hA.trans (hC.mono hA.size)) (Nat.le_refl _)) (Nat.le_trans hA.size hC.size)).mono ?_; rintro e w3 ⟨rfl, hb⟩; rw [hf];  have hC := hC.trans (hb.mono hC.size); clear hb; have d0 := (hC.cell (p := ⟨w.heap.size, 0, none⟩) q0).trans e0.out; have d1 := (hC.cell (p := ⟨w.heap.size, 1, none⟩) q0).trans e1.out) | fail)
          go_ret
          exact ⟨rfl, hA.trans (hC.mono hA.size)⟩
      · have hS0 : True := trivial
        go_enter Try.func6, Try.ntmps6
        go_wp2_with fail
        rw [hW0.out]
        go_wp2_with (first | (go_at_call 10; refine (head_any _).mono ?_; rintro e w1 ⟨rfl, hb⟩; have hC := hC.trans (hb.mono hC.size); clear hb; have d0 := (hC.cell (p := ⟨w.heap.size, 0, none⟩) q0).trans e0.out; have d1 := (hC.cell (p := ⟨w.heap.size, 1, none⟩) q0).trans e1.out) | (go_at_call 30; refine (refformed_any w.heap.size _ s l _ (hu'.below (hA.trans (hC.mono hA.size)) (Nat.le_refl _)) (Nat.le_trans hA.size hC.size)).mono ?_; rintro e w3 ⟨rfl, hb⟩; rw [hf];  have hC := hC.trans (hb.mono hC.size); clear hb; have d0 := (hC.cell (p := ⟨w.heap.size, 0, none⟩) q0).trans e0.out; have d1 := (hC.cell (p := ⟨w.heap.size, 1, none⟩) q0).trans e1.out) | fail)
        go_ret
        exact ⟨rfl, hA.trans (hC.mono hA.size)⟩
    · have hS0 : sufL s l n = ([], []) := by unfold sufL; rw [decide_eq_false hn0, Bool.and_false]; rfl
      go_enter Try.func6, Try.ntmps6
      go_wp2_with fail
      rw [hW0.out]
      go_wp2_with (first | (go_at_call 10; refine (head_any _).mono ?_; rintro e w1 ⟨rfl, hb⟩; have hC := hC.trans (hb.mono hC.size); clear hb; have d0 := (hC.cell (p := ⟨w.heap.size, 0, none⟩) q0).trans e0.out; have d1 := (hC.cell (p := ⟨w.heap.size, 1, none⟩) q0).trans e1.out) | (go_at_call 30; refine (refformed_any w.heap.size _ s l _ (hu'.below (hA.trans (hC.mono hA.size)) (Nat.le_refl _)) (Nat.le_trans hA.size hC.size)).mono ?_; rintro e w3 ⟨rfl, hb⟩; rw [hf];  have hC := hC.trans (hb.mono hC.size); clear hb; have d0 := (hC.cell (p := ⟨w.heap.size, 0, none⟩) q0).trans e0.out; have d1 := (hC.cell (p := ⟨w.heap.size, 1, none⟩) q0).trans e1.out) | (go_at_call 24; refine (suffix_any w.heap.size _ s l n _ (hu'.below (hA.trans (hC.mono hA.size)) (Nat.le_refl _)) (Nat.le_trans hA.size hC.size) hn).mono ?_; rintro e w4 ⟨r, rfl, hN, hb⟩; rw [hS0] at hN; obtain ⟨u5, u4, rfl, J5, J4, -, -⟩ := hN.ex; obtain ⟨x5, e5, rfl⟩ := J5.shape; obtain ⟨x4, e4, rfl⟩ := J4.shape; have hfd := fun W => las_field W x5 0 e5 x4 0 e4; have hC := hC.trans (hb.mono hC.size)))
      go_ret
      exact ⟨rfl, hA.trans (hC.mono hA.size)⟩

end Go.Proofs.Ythjpljdohbfihaa
