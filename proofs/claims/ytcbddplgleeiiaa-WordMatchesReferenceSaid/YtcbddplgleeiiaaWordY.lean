/-
  The contract of the word reference's Same.
-/
import Derived.Test.YtcbddplgleeiiaaWordX
import Derived.Deep.RegionHeld3
namespace Go.Proofs.Ytcbddplgleeiiaa
open Go.RowKit

/-- what Same returns -/
def sameB (s l t k : List Int) : Bool := formedB s l && (formedB t k && lasEqB (normL s l).1 (normL s l).2 (normL t k).1 (normL t k).2)

theorem box2_open (w : World) (u t x y : Value) : ∃ W0, Hid ((w.alloc (.cells #[u, t] 24)).alloc (.cells #[x, y] 24) = W0) ∧ Below w.heap.size w W0 ∧ w.heap.size + 1 < W0.heap.size ∧
    Hid (W0.cell? ⟨w.heap.size, 0, none⟩ = some u) ∧ Hid (W0.cell? ⟨w.heap.size, 1, none⟩ = some t) ∧ Hid (W0.cell? ⟨w.heap.size + 1, 0, none⟩ = some x) ∧ Hid (W0.cell? ⟨w.heap.size + 1, 1, none⟩ = some y) := by
  have hX : Below w.heap.size w (w.alloc (.cells #[u, t] 24)) := (Below.refl _ _).alloc (Nat.le_refl _) _
  have hY := ((Below.refl _ (w.alloc (.cells #[u, t] 24))).alloc (Nat.le_refl _) (.cells #[x, y] 24))
  have q : (w.alloc (.cells #[u, t] 24)).heap.size = w.heap.size + 1 := by simp
  have z0 := box0 (w.alloc (.cells #[u, t] 24)) x y 24
  have z1 := box1 (w.alloc (.cells #[u, t] 24)) x y 24
  rw [q] at z0 z1
  exact ⟨_, rfl, hX.alloc hX.size _, by simp, (hY.cell (p := ⟨w.heap.size, 0, none⟩) (box_lt w _)).trans (box0 w _ _ _), (hY.cell (p := ⟨w.heap.size, 1, none⟩) (box_lt w _)).trans (box1 w _ _ _), z0, z1⟩

set_option maxRecDepth 100000 in
set_option maxHeartbeats 2000000 in
theorem refsame_any (B : Nat) (u v : Value) (s l t k : List Int) (w : World) (hu : LasAt B w u s l) (hv : LasAt B w v t k) (hBw : B ≤ w.heap.size) :
    Calls Try.prog 23 #[u, v] w fun e w' => e = .returned (.bool (sameB s l t k)) ∧ Below w.heap.size w w' := by
  have hu' := hu.mono hBw
  have hv' := hv.mono hBw
  obtain ⟨o1, c1, o2, c2, rfl, -, -⟩ := hu.open
  obtain ⟨o3, c3, o4, c4, rfl, -, -⟩ := hv.open
  obtain ⟨W0, hW0, hA, q1, e0, e1, e2, e3⟩ := box2_open w (.slice o1 s.length c1) (.slice o2 l.length c2) (.slice o3 t.length c3) (.slice o4 k.length c4)
  have q0 : w.heap.size < W0.heap.size := by omega
  have d0 := e0.out
  have d1 := e1.out
  have d2 := e2.out
  have d3 := e3.out
  have keep : ∀ {W W' : World}, Below W0.heap.size W0 W → Below W.heap.size W W' → W'.cell? ⟨w.heap.size, 0, none⟩ = some (.slice o1 s.length c1) ∧ W'.cell? ⟨w.heap.size, 1, none⟩ = some (.slice o2 l.length c2) ∧ W'.cell? ⟨w.heap.size + 1, 0, none⟩ = some (.slice o3 t.length c3) ∧ W'.cell? ⟨w.heap.size + 1, 1, none⟩ = some (.slice o4 k.length c4) ∧ Below W0.heap.size W0 W' := by
    intro W W' h1 h2
    have h := h1.trans (h2.mono h1.size)
    exact ⟨(h.cell (p := ⟨w.heap.size, 0, none⟩) q0).trans d0, (h.cell (p := ⟨w.heap.size, 1, none⟩) q0).trans d1, (h.cell (p := ⟨w.heap.size + 1, 0, none⟩) q1).trans d2, (h.cell (p := ⟨w.heap.size + 1, 1, none⟩) q1).trans d3, h⟩
  cases hf : formedB s l
  · go_enter Try.func23, Try.ntmps23
    go_wp2_with fail
    rw [hW0.out]
    go_region_with (go_at_call 30; refine (refformed_any w.heap.size _ s l _ (hu'.below hA.drew (Nat.le_refl _)) hA.size).mono ?_; rintro e w' ⟨rfl, hb⟩; rw [hf])
    all_goals go_wp2
    all_goals go_ret
    all_goals exact ⟨ret_bool (by unfold sameB; rw [hf]; rfl), hA.drew.trans (hb.mono hA.size)⟩
  · cases hg : formedB t k
    · go_enter Try.func23, Try.ntmps23
      go_wp2_with fail
      rw [hW0.out]
      go_region_with (first
        | (go_at_call 30; with_reducible refine (refformed_any w.heap.size (.agg #[.slice o1 s.length c1, .slice o2 l.length c2]) s l _ (hu'.below hA.drew (Nat.le_refl _)) hA.drew.size).mono ?_; rintro e w' ⟨rfl, hb⟩; rw [hf]; obtain ⟨y0, y1, y2, y3, y9⟩ := keep (Below.refl _ _).drew hb)
        | (go_at_call 30; refine (refformed_any w.heap.size _ t k _ (hv'.below (hA.trans (y9.mono hA.size)) (Nat.le_refl _)) (Nat.le_trans hA.size y9.size)).mono ?_; rintro e w3 ⟨rfl, hb3⟩; rw [hg]))
      all_goals go_wp2
      all_goals go_ret
      all_goals exact ⟨ret_bool (by unfold sameB; rw [hf, hg]; rfl), hA.trans ((y9.trans (hb3.mono y9.size)).mono hA.size)⟩
    · obtain ⟨p1, x1, x2, -, -⟩ := formed_pos hf
      obtain ⟨p2, x3, x4, -, -⟩ := formed_pos hg
      have ps : s.length + l.length ≤ 500000 := by omega
      have pt : t.length + k.length ≤ 500000 := by omega
      go_enter Try.func23, Try.ntmps23
      go_wp2_with fail
      rw [hW0.out]
      go_region_held3 (fun W => W.cell? ⟨w.heap.size, 0, none⟩ = some (.slice o1 s.length c1) ∧ W.cell? ⟨w.heap.size, 1, none⟩ = some (.slice o2 l.length c2) ∧ W.cell? ⟨w.heap.size + 1, 0, none⟩ = some (.slice o3 t.length c3) ∧ W.cell? ⟨w.heap.size + 1, 1, none⟩ = some (.slice o4 k.length c4) ∧ Below W0.heap.size W0 W) (first | exact ⟨d0, d1, d2, d3, (Below.refl _ _).drew⟩ | exact keep q9 hb | exact keep q9 hb1 | exact keep q9 hb2) (first | (obtain ⟨-, -, -, -, q9⟩ : _ ∧ _ ∧ _ ∧ _ ∧ Below W0.heap.size W0 _ := (by assumption); go_at_call 30; with_reducible refine (refformed_any w.heap.size (.agg #[.slice o1 s.length c1, .slice o2 l.length c2]) s l _ (hu'.below (hA.trans (q9.mono hA.size)) (Nat.le_refl _)) (Nat.le_trans hA.size q9.size)).mono ?_; rintro e w' ⟨rfl, hb⟩; rw [hf]) | (obtain ⟨-, -, -, -, q9⟩ : _ ∧ _ ∧ _ ∧ _ ∧ Below W0.heap.size W0 _ := (by assumption); go_at_call 30; with_reducible refine (refformed_any w.heap.size (.agg #[.slice o3 t.length c3, .slice o4 k.length c4]) t k _ (hv'.below (hA.trans (q9.mono hA.size)) (Nat.le_refl _)) (Nat.le_trans hA.size q9.size)).mono ?_; rintro e w' ⟨rfl, hb⟩; rw [hg]) | (obtain ⟨-, -, -, -, q9⟩ : _ ∧ _ ∧ _ ∧ _ ∧ Below W0.heap.size W0 _ := (by assumption); go_at_call 40; with_reducible refine (refshort_any w.heap.size (.agg #[.slice o1 s.length c1, .slice o2 l.length c2]) s l _ (hu'.below (hA.trans (q9.mono hA.size)) (Nat.le_refl _)) (Nat.le_trans hA.size q9.size) p1 ps).mono ?_; rintro e w' ⟨r1, rfl, hN1, hb1⟩) | (obtain ⟨-, -, -, -, q9⟩ : _ ∧ _ ∧ _ ∧ _ ∧ Below W0.heap.size W0 _ := (by assumption); go_at_call 40; with_reducible refine (refshort_any w.heap.size (.agg #[.slice o3 t.length c3, .slice o4 k.length c4]) t k _ (hv'.below (hA.trans (q9.mono hA.size)) (Nat.le_refl _)) (Nat.le_trans hA.size q9.size) p2 pt).mono ?_; rintro e w' ⟨r2, rfl, hN2, hb2⟩) | (obtain ⟨-, -, -, -, q9⟩ : _ ∧ _ ∧ _ ∧ _ ∧ Below W0.heap.size W0 _ := (by assumption); go_at_call 19; first | (refine (refequal_any _ r1 r2 _ _ _ _ _ ((hN1.las.below hb2 (Nat.le_refl _)).mono hb2.size) hN2.las (Nat.le_refl _)).mono ?_; rintro e w' ⟨rfl, hb⟩) | (refine (refequal_any _ r1 r2 _ _ _ _ _ hN1.las ((hN2.las.below hb1 (Nat.le_refl _)).mono hb1.size) (Nat.le_refl _)).mono ?_; rintro e w' ⟨rfl, hb⟩)))
      all_goals go_wp2
      all_goals go_ret
      all_goals
        obtain ⟨-, -, -, -, q9⟩ : _ ∧ _ ∧ _ ∧ _ ∧ Below W0.heap.size W0 _ := (by assumption)
        exact ⟨ret_bool (by unfold sameB; rw [hf, hg]; rfl), hA.trans (q9.mono hA.size)⟩

end Go.Proofs.Ytcbddplgleeiiaa
