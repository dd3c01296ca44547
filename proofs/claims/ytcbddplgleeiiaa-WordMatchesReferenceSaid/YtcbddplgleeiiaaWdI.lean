/-
  The contract of package word's Push.
-/
import Derived.Test.YtcbddplgleeiiaaWdH
namespace Go.Proofs.Ytcbddplgleeiiaa
open Go.RowKit

/-- a lasso if it is formed, and otherwise the zero lasso -/
def orZ (p : List Int × List Int) : List Int × List Int := if formedB p.1 p.2 then p else ([], [])
/-- what Push returns -/
def pushL (a s l : List Int) : List Int × List Int := if formedB s l && a.all letB then orZ (normL (a ++ s) l) else ([], [])

theorem frm_alloc {w X : World} {u t : Value} (h : X.cell? ⟨w.heap.size, 0, none⟩ = some u ∧ X.cell? ⟨w.heap.size, 1, none⟩ = some t ∧ Hid (ResB X (w.heap.size + 1)) ∧ Below w.heap.size w X) (o : Obj) :
    (X.alloc o).cell? ⟨w.heap.size, 0, none⟩ = some u ∧ (X.alloc o).cell? ⟨w.heap.size, 1, none⟩ = some t ∧ Hid (ResB (X.alloc o) (w.heap.size + 1)) ∧ Below w.heap.size w (X.alloc o) :=
  frm_call h.1 h.2.1 h.2.2.1 h.2.2.2 ((Below.refl _ _).alloc (Nat.le_refl _) _)

set_option maxRecDepth 100000 in
set_option maxHeartbeats 2000000 in
theorem push_any (B : Nat) (u v : Value) (a s l : List Int) (w : World) (hu : IntsAt B w u a) (hv : LasAt B w v s l) (hBw : B ≤ w.heap.size) (hla : a.length ≤ 100000) :
    Calls Try.prog 26 #[u, v] w fun e w' => ∃ r, e = .returned r ∧ NewLas w.heap.size w' r (pushL a s l).1 (pushL a s l).2 ∧ Below w.heap.size w w' := by
  have hv' := hv.mono hBw
  have hu' := hu.mono hBw
  obtain ⟨oa, ca, rfl⟩ := hu.shape
  obtain ⟨o1, c1, o2, c2, rfl, h1, h2⟩ := hv'.open
  obtain ⟨W0, hW0, e0, e1, hR, hB⟩ := frm_open w (.slice o1 s.length c1) (.slice o2 l.length c2)
  cases hf : formedB s l
  · have hE : Hid (pushL a s l = ([], [])) := by unfold Hid pushL; rw [hf]; rfl
    go_enter Try.func26, Try.ntmps26
    go_wp2_with (go_at_call 34; rw [hW0.out]; refine (formed_any w.heap.size _ s l _ (hv'.below hB (Nat.le_refl _)) hB.size).mono ?_; rintro e w1 ⟨rfl, hb⟩; rw [hf]; obtain ⟨q0, q1, q8, q9⟩ := frm_call e0.out e1.out hR hB hb; obtain ⟨a0, a1, z0, z1, y0, y1⟩ := q8.out.cells)
    (try simp only [Exit.inBlock, Exit.then])
    refine bodyPost_ret (results_cell_row rfl _ _ (w.heap.size + 1) 24 _ (0, 0) _ rfl (q8.out.set _ _) Try.underlying24 rfl lasSize) rfl ?_
    exact ⟨_, rfl, by rw [hE.out]; exact las_put _ _ (Nat.le_succ _) q9 (.inl ⟨_, _, rfl, rfl⟩) (.inl ⟨_, _, rfl, rfl⟩) (fun g e => by simp [Value.ownBlock] at e) (fun g e => by simp [Value.ownBlock] at e) _ _⟩
  · obtain ⟨p1, p2, p3, -, -⟩ := formed_pos hf
    cases hq : a.all (belB 64)
    · have hE : Hid (pushL a s l = ([], [])) := by unfold Hid pushL; rw [← bel_letB, hf, hq]; rfl
      go_enter Try.func26, Try.ntmps26
      go_wp2_with (first
        | (go_at_call 34; rw [hW0.out]; refine (formed_any w.heap.size _ s l _ (hv'.below hB (Nat.le_refl _)) hB.size).mono ?_; rintro e w1 ⟨rfl, hb⟩; rw [hf]; obtain ⟨q0, q1, q8, q9⟩ := frm_call e0.out e1.out hR hB hb)
        | (go_at_call 35; refine (allBelow_any w.heap.size _ a 64 _ (hu'.below q9 (Nat.le_refl _)) q9.size).mono ?_; rintro e w2 ⟨rfl, hb2⟩; rw [hq]; obtain ⟨f0, f1, f8, f9⟩ := frm_call q0 q1 q8 q9 hb2; obtain ⟨a0, a1, z0, z1, y0, y1⟩ := f8.out.cells))
      (try simp only [Exit.inBlock, Exit.then])
      refine bodyPost_ret (results_cell_row rfl _ _ (w.heap.size + 1) 24 _ (0, 0) _ rfl (f8.out.set _ _) Try.underlying24 rfl lasSize) rfl ?_
      exact ⟨_, rfl, by rw [hE.out]; exact las_put _ _ (Nat.le_succ _) f9 (.inl ⟨_, _, rfl, rfl⟩) (.inl ⟨_, _, rfl, rfl⟩) (fun g e => by simp [Value.ownBlock] at e) (fun g e => by simp [Value.ownBlock] at e) _ _⟩
    · obtain ⟨A1, hA1⟩ : ∃ A1, Hid (A1 = a ++ s) := ⟨_, rfl⟩
      have hAl : A1.length ≤ 200000 := by rw [hA1.out]; simp; omega
      obtain ⟨N1, hN1⟩ : ∃ N1, Hid (N1 = (normL A1 l).1) := ⟨_, rfl⟩
      obtain ⟨N2, hN2⟩ : ∃ N2, Hid (N2 = (normL A1 l).2) := ⟨_, rfl⟩
      have hE : Hid (pushL a s l = orZ (N1, N2)) := by unfold Hid pushL; rw [← bel_letB, hf, hq, hN1.out, hN2.out, ← hA1.out]; rfl
      have hE1 : Hid (orZ (N1, N2) = if formedB N1 N2 then (N1, N2) else ([], [])) := rfl
      cases hg : formedB N1 N2
      all_goals go_enter Try.func26, Try.ntmps26
      all_goals go_wp2_with (first
        | (go_at_call 34; rw [hW0.out]; refine (formed_any w.heap.size _ s l _ (hv'.below hB (Nat.le_refl _)) hB.size).mono ?_; rintro e w1 ⟨rfl, hb⟩; rw [hf]; obtain ⟨q0, q1, q8, q9⟩ := frm_call e0.out e1.out hR hB hb)
        | (go_at_call 35; refine (allBelow_any w.heap.size _ a 64 _ (hu'.below q9 (Nat.le_refl _)) q9.size).mono ?_; rintro e w2 ⟨rfl, hb2⟩; rw [hq]; obtain ⟨p0, p4, p8, p9⟩ := frm_call q0 q1 q8 q9 hb2))
      all_goals have hst := And.intro p0 (And.intro p4 (And.intro p8 p9.drew))
      all_goals clear q0 q1 p0 p4
      all_goals go_region_held3 (fun W => W.cell? ⟨w.heap.size, 0, none⟩ = some (.slice o1 s.length c1) ∧ W.cell? ⟨w.heap.size, 1, none⟩ = some (.slice o2 l.length c2) ∧ Hid (ResB W (w.heap.size + 1)) ∧ Below w.heap.size w W) (first | exact hst | exact ⟨f0, f1, f8, f9⟩ | exact frm_store f0 f1 f8 f9 _ _ | exact frm_alloc (by assumption) _) (first
        | (obtain ⟨g0, g1, g8, g9⟩ : _ ∧ _ ∧ Hid (ResB _ (w.heap.size + 1)) ∧ Below w.heap.size w _ := (by assumption); go_at_call 44; refine (concat_any (.slice oa a.length ca) (.slice o1 s.length c1) a s _ _ ((hu'.below g9 (Nat.le_refl _)).mono g9.size) ((h1.below g9 (Nat.le_refl _)).mono g9.size) (heap_alloc_new _ _) hla (by omega)).mono ?_; rintro e w3 ⟨r3, rfl, hN3, hb3⟩; rw [← hA1.out] at hN3; obtain ⟨x3, k3, rfl⟩ := hN3.1.shape; obtain ⟨f0, f1, f8, f9⟩ := frm_call g0 g1 g8 g9 hb3)
        | (obtain ⟨g0, g1, g8, g9⟩ : _ ∧ _ ∧ Hid (ResB _ (w.heap.size + 1)) ∧ Below w.heap.size w _ := (by assumption); go_at_call 39; refine (normal_any _ _ _ A1 l _ hN3.1 ((h2.below g9 (Nat.le_refl _)).mono g9.size) (Nat.le_refl _) p1 (by omega)).mono ?_; rintro e w4 ⟨r4, rfl, hN4, hb4⟩; rw [← hN1.out, ← hN2.out] at hN4; obtain ⟨u5, u4, rfl, J5, J4, F5, F4⟩ := hN4.ex; obtain ⟨x5, k5, rfl⟩ := J5.shape; obtain ⟨x4, k4, rfl⟩ := J4.shape; have hs4 := g8.out.lt; obtain ⟨f0, f1, f8, f9⟩ := frm_call g0 g1 g8 g9 hb4)
        | (obtain ⟨g0, g1, g8, g9⟩ : _ ∧ _ ∧ Hid (ResB _ (w.heap.size + 1)) ∧ Below w.heap.size w _ := (by assumption); go_at_call 43; refine (orZero_any _ _ N1 N2 _ hN4.las (Nat.le_refl _)).mono ?_; rintro e w5 ⟨rfl, hb5⟩; rw [hg]; simp only [if_true, if_false, Bool.false_eq_true]; obtain ⟨f0, f1, f8, f9⟩ := frm_call g0 g1 g8 g9 hb5; obtain ⟨a0, a1, z0, z1, y0, y1⟩ := f8.out.cells))
      all_goals go_wp2
      all_goals (try simp only [Exit.inBlock, Exit.then])
      all_goals refine bodyPost_ret (results_cell_row rfl _ _ (w.heap.size + 1) 24 _ (0, 0) _ rfl (f8.out.set _ _) Try.underlying24 rfl lasSize) rfl ?_
      · exact ⟨_, rfl, by rw [hE.out, hE1.out, hg]; exact las_put _ _ (Nat.le_succ _) f9 (.inl ⟨_, _, rfl, rfl⟩) (.inl ⟨_, _, rfl, rfl⟩) (fun g e => by simp [Value.ownBlock] at e) (fun g e => by simp [Value.ownBlock] at e) _ _⟩
      · exact ⟨_, rfl, by rw [hE.out, hE1.out, hg]; exact las_put _ _ (Nat.le_succ _) f9 ((J5.below hb5 (Nat.le_refl _)).mono hb5.size) ((J4.below hb5 (Nat.le_refl _)).mono hb5.size) (fun g e => Nat.lt_of_lt_of_le hs4 (F5 g e)) (fun g e => Nat.lt_of_lt_of_le hs4 (F4 g e)) _ _⟩

end Go.Proofs.Ytcbddplgleeiiaa
