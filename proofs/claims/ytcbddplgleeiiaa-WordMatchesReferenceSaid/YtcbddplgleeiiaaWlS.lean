/-
  The walk of the law WordSame.
-/
import Derived.Test.YtcbddplgleeiiaaWlG
namespace Go.Proofs.Ytcbddplgleeiiaa
open Go.RowKit

theorem sameB_eq {s l t k : List Int} (h1 : formedB s l = true) (h2 : formedB t k = true) : sameB s l t k = lasEqB (normL s l).1 (normL s l).2 (normL t k).1 (normL t k).2 := by
  unfold sameB; rw [h1, h2]; rfl

theorem lasEqB_iff (s l t k : List Int) : lasEqB s l t k = true ↔ (s, l) = (t, k) := by
  unfold lasEqB; simp

theorem agreeFrom_iff (s l t k : List Int) (n : Nat) : agreeFrom s l t k n 0 = true ↔ ∀ i, i < n → atI s l i = atI t k i := by
  unfold agreeFrom
  rw [List.drop_zero, List.all_eq_true]
  simp

theorem atI_formed {s l : List Int} (h : formedB s l = true) (i : Nat) : atI s l i = letAt s l i := by simp [atI, h]

theorem same_agree {s l t k : List Int} (h1 : formedB s l = true) (h2 : formedB t k = true) : agreeFrom s l t k 140 0 = sameB s l t k := by
  obtain ⟨p1, p2, p3, -, -⟩ := formed_pos h1
  obtain ⟨q1, q2, q3, -, -⟩ := formed_pos h2
  rw [sameB_eq h1 h2, Bool.eq_iff_iff, agreeFrom_iff, lasEqB_iff, same_iff p1 q1 p3 q3 p2 q2]
  constructor
  · intro h i hi; have := h i hi; rwa [atI_formed h1, atI_formed h2] at this
  · intro h i hi; rw [atI_formed h1, atI_formed h2]; exact h i hi

theorem same_symm {s l t k : List Int} (h1 : formedB s l = true) (h2 : formedB t k = true) : sameB t k s l = sameB s l t k := by
  rw [sameB_eq h1 h2, sameB_eq h2 h1, Bool.eq_iff_iff, lasEqB_iff, lasEqB_iff]
  exact eq_comm

theorem norm_formed {s l : List Int} (h : formedB s l = true) : formedB (normL s l).1 (normL s l).2 = true := by
  obtain ⟨p1, p2, p3, p4, p5⟩ := formed_pos h
  obtain ⟨n1, n2, n3, n4, -, -⟩ := normL_spec (s := s) (l := l) p1
  have hb : ∀ i, letB (letAt s l i) = true := fun i => by have := letAt_bd h i; simp [letB]; omega
  unfold formedB
  simp only [Bool.and_eq_true, decide_eq_true_eq]
  refine ⟨⟨⟨⟨by omega, by omega⟩, by omega⟩, ?_⟩, ?_⟩
  · rw [List.all_eq_true]
    intro x hx
    obtain ⟨i, hi, rfl⟩ := List.getElem_of_mem hx
    rw [← letAt_stem (l := (normL s l).2) hi, n1]
    exact hb i
  · rw [List.all_eq_true]
    intro x hx
    obtain ⟨i, hi, rfl⟩ := List.getElem_of_mem hx
    rw [← letAt_loop (s := (normL s l).1) hi, n1]
    exact hb _

theorem same_norm {s l : List Int} (h : formedB s l = true) : sameB s l (normL s l).1 (normL s l).2 = true := by
  obtain ⟨p1, -, -, -, -⟩ := formed_pos h
  rw [sameB_eq h (norm_formed h), lasEqB_iff, normL_norm p1]

theorem same_not1 {s l t k : List Int} (h : formedB s l = false) : sameB s l t k = false := by unfold sameB; rw [h]; rfl
theorem same_not2 {s l t k : List Int} (h : formedB t k = false) : sameB s l t k = false := by unfold sameB; rw [h]; simp

set_option maxRecDepth 100000 in
set_option maxHeartbeats 4000000 in
theorem wsame_any (u v : Value) (s l t k : List Int) (w : World) (hu' : LasAt w.heap.size w u s l) (hv' : LasAt w.heap.size w v t k) :
    Calls Try.prog 5 #[u, v] w fun e w' => e = .returned (.bool true) ∧ Below w.heap.size w w' := by
  obtain ⟨o1, c1, o2, c2, rfl, -, -⟩ := hu'.open
  obtain ⟨o3, c3, o4, c4, rfl, -, -⟩ := hv'.open
  obtain ⟨W0, hW0, hB, hT⟩ := two_open w (.slice o1 s.length c1) (.slice o2 l.length c2) (.slice o3 t.length c3) (.slice o4 k.length c4)
  cases hf : formedB s l
  · have n1 := hidi (same_not1 (t := t) (k := k) hf)
    have n2 := hidi (same_not2 (s := t) (l := k) hf)
    go_enter Try.func5, Try.ntmps5
    go_wp2_with fail
    rw [hW0.out]
    go_wp2_with (first
      | (go_at_call 10; refine (head_any _).mono ?_; rintro e w1 ⟨rfl, hb⟩; have hT1 := hidi (hT.out.below (hb.mono (Nat.le_refl _))); have hB := hB.trans (hb.mono hB.size); clear hb; obtain ⟨d0, d1, d2, d3, -, -, -, -⟩ := hT1.out.cells)
      | (go_at_call 30; refine (refformed_any w.heap.size _ s l _ (hu'.below hB (Nat.le_refl _)) hB.size).mono ?_; rintro e w2 ⟨rfl, hb⟩; rw [hf]; have hT2 := hidi (hT1.out.below (hb.mono (Nat.le_refl _))); have hB := hB.trans (hb.mono hB.size); clear hb; obtain ⟨d0, d1, d2, d3, -, -, -, -⟩ := hT2.out.cells)
      | (go_at_call 22; (with_reducible refine (same_any w.heap.size (.agg #[.slice o1 s.length c1, .slice o2 l.length c2]) (.agg #[.slice o3 t.length c3, .slice o4 k.length c4]) s l t k _ (hu'.below hB (Nat.le_refl _)) (hv'.below hB (Nat.le_refl _)) hB.size).mono ?_); rintro e w3 ⟨rfl, hb⟩; rw [n1.out]; have hT3 := hidi (hT2.out.below (hb.mono (Nat.le_refl _))); have hB := hB.trans (hb.mono hB.size); clear hb; obtain ⟨d0, d1, d2, d3, -, -, -, -⟩ := hT3.out.cells)
      | (go_at_call 22; refine (same_any w.heap.size (.agg #[.slice o3 t.length c3, .slice o4 k.length c4]) (.agg #[.slice o1 s.length c1, .slice o2 l.length c2]) t k s l _ (hv'.below hB (Nat.le_refl _)) (hu'.below hB (Nat.le_refl _)) hB.size).mono ?_; rintro e w4 ⟨rfl, hb⟩; rw [n2.out]; have hB := hB.trans (hb.mono hB.size); clear hb))
    go_ret
    exact ⟨rfl, hB⟩
  · cases hg : formedB t k
    · have n1 := hidi (same_not2 (s := s) (l := l) hg)
      have n2 := hidi (same_not1 (t := s) (k := l) hg)
      go_enter Try.func5, Try.ntmps5
      go_wp2_with fail
      rw [hW0.out]
      go_wp2_with (first
        | (go_at_call 10; refine (head_any _).mono ?_; rintro e w1 ⟨rfl, hb⟩; have hT1 := hidi (hT.out.below (hb.mono (Nat.le_refl _))); have hB := hB.trans (hb.mono hB.size); clear hb; obtain ⟨d0, d1, d2, d3, -, -, -, -⟩ := hT1.out.cells)
        | (go_at_call 30; (with_reducible refine (refformed_any w.heap.size (.agg #[.slice o1 s.length c1, .slice o2 l.length c2]) s l _ (hu'.below hB (Nat.le_refl _)) hB.size).mono ?_); rintro e w2 ⟨rfl, hb⟩; rw [hf]; have hT1 := hidi (hT1.out.below (hb.mono (Nat.le_refl _))); have hB := hB.trans (hb.mono hB.size); clear hb; obtain ⟨d0, d1, d2, d3, -, -, -, -⟩ := hT1.out.cells)
        | (go_at_call 30; refine (refformed_any w.heap.size _ t k _ (hv'.below hB (Nat.le_refl _)) hB.size).mono ?_; rintro e w2 ⟨rfl, hb⟩; rw [hg]; have hT2 := hidi (hT1.out.below (hb.mono (Nat.le_refl _))); have hB := hB.trans (hb.mono hB.size); clear hb; obtain ⟨d0, d1, d2, d3, -, -, -, -⟩ := hT2.out.cells)
        | (go_at_call 22; (with_reducible refine (same_any w.heap.size (.agg #[.slice o1 s.length c1, .slice o2 l.length c2]) (.agg #[.slice o3 t.length c3, .slice o4 k.length c4]) s l t k _ (hu'.below hB (Nat.le_refl _)) (hv'.below hB (Nat.le_refl _)) hB.size).mono ?_); rintro e w3 ⟨rfl, hb⟩; rw [n1.out]; have hT3 := hidi (hT2.out.below (hb.mono (Nat.le_refl _))); have hB := hB.trans (hb.mono hB.size); clear hb; obtain ⟨d0, d1, d2, d3, -, -, -, -⟩ := hT3.out.cells)
        | (go_at_call 22; refine (same_any w.heap.size (.agg #[.slice o3 t.length c3, .slice o4 k.length c4]) (.agg #[.slice o1 s.length c1, .slice o2 l.length c2]) t k s l _ (hv'.below hB (Nat.le_refl _)) (hu'.below hB (Nat.le_refl _)) hB.size).mono ?_; rintro e w4 ⟨rfl, hb⟩; rw [n2.out]; have hB := hB.trans (hb.mono hB.size); clear hb))
      go_ret
      exact ⟨rfl, hB⟩
    · have f1 := hidi (same_agree hf hg)
      have f2 := hidi (same_symm hf hg)
      have f3 := hidi (same_norm hf)
      have f4 := hidi (sameB_eq hf hg)
      have m1 := hidi (normI_formed hf)
      have m2 := hidi (normI_formed hg)
      obtain ⟨x, hx⟩ : ∃ x, Hid (sameB s l t k = x) := ⟨_, rfl⟩
      have hxx : (x == x) = true := by cases x <;> rfl
      go_enter Try.func5, Try.ntmps5
      go_wp2_with fail
      rw [hW0.out]
      go_wp2_with (first
        | (go_at_call 10; refine (head_any _).mono ?_; rintro e w1 ⟨rfl, hb⟩; have hT1 := hidi (hT.out.below (hb.mono (Nat.le_refl _))); have hB := hB.trans (hb.mono hB.size); clear hb; obtain ⟨d0, d1, d2, d3, -, -, -, -⟩ := hT1.out.cells)
        | (go_at_call 30; (with_reducible refine (refformed_any w.heap.size (.agg #[.slice o1 s.length c1, .slice o2 l.length c2]) s l _ (hu'.below hB (Nat.le_refl _)) hB.size).mono ?_); rintro e w2 ⟨rfl, hb⟩; rw [hf]; have hT1 := hidi (hT1.out.below (hb.mono (Nat.le_refl _))); have hB := hB.trans (hb.mono hB.size); clear hb; obtain ⟨d0, d1, d2, d3, -, -, -, -⟩ := hT1.out.cells)
        | (go_at_call 30; refine (refformed_any w.heap.size _ t k _ (hv'.below hB (Nat.le_refl _)) hB.size).mono ?_; rintro e w2 ⟨rfl, hb⟩; rw [hg]; have hT2 := hidi (hT1.out.below (hb.mono (Nat.le_refl _))); have hB := hB.trans (hb.mono hB.size); clear hb; obtain ⟨d0, d1, d2, d3, -, -, -, -⟩ := hT2.out.cells)
        | (go_at_call 22; (with_reducible refine (same_any w.heap.size (.agg #[.slice o1 s.length c1, .slice o2 l.length c2]) (.agg #[.slice o3 t.length c3, .slice o4 k.length c4]) s l t k _ (hu'.below hB (Nat.le_refl _)) (hv'.below hB (Nat.le_refl _)) hB.size).mono ?_); rintro e w3 ⟨rfl, hb⟩; rw [hx.out]; have hT3 := hidi (hT2.out.below (hb.mono (Nat.le_refl _))); have hB := hB.trans (hb.mono hB.size); clear hb))
      have keep : ∀ {X Y : World}, Below w3.heap.size w3 X → Below X.heap.size X Y → Y.cell? ⟨w.heap.size, 0, none⟩ = some (.slice o1 s.length c1) ∧ Y.cell? ⟨w.heap.size, 1, none⟩ = some (.slice o2 l.length c2) ∧ Y.cell? ⟨w.heap.size + 1, 0, none⟩ = some (.slice o3 t.length c3) ∧ Y.cell? ⟨w.heap.size + 1, 1, none⟩ = some (.slice o4 k.length c4) ∧ Below w3.heap.size w3 Y := by
        intro X Y h1 h2
        have h := h1.trans (h2.mono h1.size)
        obtain ⟨d0, d1, d2, d3, -, -, -, -⟩ := (hT3.out.below h).cells
        exact ⟨d0, d1, d2, d3, h⟩
      have hst := keep (Below.refl _ _).drew (Below.refl _ _)
      clear d0 d1 d2 d3
      have U : ∀ {X : World}, Below w3.heap.size w3 X → LasAt X.heap.size X (.agg #[.slice o1 s.length c1, .slice o2 l.length c2]) s l := fun h => (hu'.below (hB.trans (h.mono hB.size)) (Nat.le_refl _)).mono (Nat.le_trans hB.size h.size)
      have V : ∀ {X : World}, Below w3.heap.size w3 X → LasAt X.heap.size X (.agg #[.slice o3 t.length c3, .slice o4 k.length c4]) t k := fun h => (hv'.below (hB.trans (h.mono hB.size)) (Nat.le_refl _)).mono (Nat.le_trans hB.size h.size)
      go_region_held3 (fun X => X.cell? ⟨w.heap.size, 0, none⟩ = some (.slice o1 s.length c1) ∧ X.cell? ⟨w.heap.size, 1, none⟩ = some (.slice o2 l.length c2) ∧ X.cell? ⟨w.heap.size + 1, 0, none⟩ = some (.slice o3 t.length c3) ∧ X.cell? ⟨w.heap.size + 1, 1, none⟩ = some (.slice o4 k.length c4) ∧ Below w3.heap.size w3 X) (first | exact hst | exact keep q9 hb) (first
        | (obtain ⟨-, -, -, -, q9⟩ : _ ∧ _ ∧ _ ∧ _ ∧ Below w3.heap.size w3 _ := (by assumption); go_at_call 31; refine (agree_any _ _ _ s l t k 140 _ (U q9) (V q9) (Nat.le_refl _) (by decide)).mono ?_; rintro e w' ⟨rfl, hb⟩; rw [f1.out, hx.out])
        | (obtain ⟨-, -, -, -, q9⟩ : _ ∧ _ ∧ _ ∧ _ ∧ Below w3.heap.size w3 _ := (by assumption); go_at_call 20; (with_reducible refine (wnormal_any _ (.agg #[.slice o1 s.length c1, .slice o2 l.length c2]) s l _ (U q9) (Nat.le_refl _)).mono ?_); rintro e w' ⟨r1, rfl, hN1, hb⟩; rw [m1.out] at hN1; have hLa := hN1.las)
        | (obtain ⟨-, -, -, -, q9⟩ : _ ∧ _ ∧ _ ∧ _ ∧ Below w3.heap.size w3 _ := (by assumption); go_at_call 20; (with_reducible refine (wnormal_any _ (.agg #[.slice o3 t.length c3, .slice o4 k.length c4]) t k _ (V q9) (Nat.le_refl _)).mono ?_); rintro e w' ⟨r2, rfl, hN2, hb⟩; rw [m2.out] at hN2; have hLa := hLa.next hb)
        | (obtain ⟨-, -, -, -, q9⟩ : _ ∧ _ ∧ _ ∧ _ ∧ Below w3.heap.size w3 _ := (by assumption); go_at_call 19; refine (refequal_any _ r1 r2 _ _ _ _ _ hLa hN2.las (Nat.le_refl _)).mono ?_; rintro e w' ⟨rfl, hb⟩; rw [← f4.out, hx.out])
        | (obtain ⟨-, -, -, -, q9⟩ : _ ∧ _ ∧ _ ∧ _ ∧ Below w3.heap.size w3 _ := (by assumption); go_at_call 22; (with_reducible refine (same_any _ (.agg #[.slice o3 t.length c3, .slice o4 k.length c4]) (.agg #[.slice o1 s.length c1, .slice o2 l.length c2]) t k s l _ (V q9) (U q9) (Nat.le_refl _)).mono ?_); rintro e w' ⟨rfl, hb⟩; rw [f2.out, hx.out])
        | (obtain ⟨-, -, -, -, q9⟩ : _ ∧ _ ∧ _ ∧ _ ∧ Below w3.heap.size w3 _ := (by assumption); go_at_call 22; refine (same_any _ _ r1 s l _ _ _ (U q9) hLa (Nat.le_refl _)).mono ?_; rintro e w' ⟨rfl, hb⟩; rw [f3.out]))
      all_goals go_wp2
      all_goals go_ret
      all_goals
        obtain ⟨-, -, -, -, q9⟩ : _ ∧ _ ∧ _ ∧ _ ∧ Below w3.heap.size w3 _ := (by assumption)
        exact ⟨rfl, hB.trans (q9.mono hB.size)⟩

end Go.Proofs.Ytcbddplgleeiiaa
