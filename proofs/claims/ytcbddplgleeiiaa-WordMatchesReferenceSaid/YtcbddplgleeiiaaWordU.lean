/-
  The contract of the word reference's Normal.
-/
import Derived.Test.YtcbddplgleeiiaaWordS
namespace Go.Proofs.Ytcbddplgleeiiaa
open Go.RowKit

/-- what Normal returns -/
def normI (s l : List Int) : List Int × List Int := if formedB s l then normL s l else ([], [])

set_option maxRecDepth 100000 in
set_option maxHeartbeats 1000000 in
theorem refnormal_any (B : Nat) (v : Value) (s l : List Int) (w : World) (hv : LasAt B w v s l) (hBw : B ≤ w.heap.size) :
    Calls Try.prog 21 #[v] w fun e w' => ∃ r, e = .returned r ∧ NewLas w.heap.size w' r (normI s l).1 (normI s l).2 ∧ Below w.heap.size w w' := by
  have hv' := hv.mono hBw
  obtain ⟨o1, c1, o2, c2, rfl, h1, h2⟩ := hv'.open
  obtain ⟨W0, hW0, hA, hq, e0, e1, hz⟩ := las_open w (.slice o1 s.length c1) (.slice o2 l.length c2)
  have q0 : w.heap.size < W0.heap.size := by have := hq.out; omega
  have q1 : w.heap.size + 1 < W0.heap.size := by have := hq.out; omega
  have hQ := hq.out
  cases hf : formedB s l
  · have hE : Hid (normI s l = ([], [])) := by unfold Hid normI; rw [hf]; rfl
    go_enter Try.func21, Try.ntmps21
    go_wp2_with (go_at_call 30; rw [hW0.out]; refine (refformed_any w.heap.size _ s l _ (hv'.below hA (Nat.le_refl _)) hA.size).mono ?_; rintro e w' ⟨rfl, hB⟩; have d0 := (hB.cell (p := ⟨w.heap.size, 0, none⟩) q0).trans e0.out; have d1 := (hB.cell (p := ⟨w.heap.size, 1, none⟩) q0).trans e1.out; have hz1 := (hB.block _ q1).trans hz.out; have z0 : w'.cell? ⟨w.heap.size + 1, 0, none⟩ = some (.slice none 0 0) := cell_of_row w' _ 0 _ _ _ hz1; have z1 : w'.cell? ⟨w.heap.size + 1, 1, none⟩ = some (.slice none 0 0) := cell_of_row w' _ 1 _ _ _ hz1; have y0 : w'.frozen? ⟨w.heap.size + 1, 0, none⟩ = false := (by simp [World.frozen?, hz1]); have y1 : w'.frozen? ⟨w.heap.size + 1, 1, none⟩ = false := (by simp [World.frozen?, hz1]); have hz2 := hidi hz1; clear hz1)
    (try simp only [Exit.inBlock, Exit.then])
    refine bodyPost_ret (results_cell_row rfl _ _ (w.heap.size + 1) 24 _ (0, 0) _ rfl (set2 _ _ _ _ _ _ _ hz2.out) Try.underlying24 rfl lasSize) rfl ?_
    exact ⟨_, rfl, by rw [hE.out]; exact las_end (hA.trans (hB.mono hA.size)) (.inl ⟨_, _, rfl, rfl⟩) (.inl ⟨_, _, rfl, rfl⟩) (fun g e => by simp [Value.ownBlock] at e) (fun g e => by simp [Value.ownBlock] at e) _ _⟩
  · obtain ⟨p1, p2, p3, -, -⟩ := formed_pos hf
    have hE : Hid (normI s l = normL s l) := by unfold Hid normI; rw [hf]; rfl
    go_enter Try.func21, Try.ntmps21
    go_wp2_with first | (go_at_call 30; rw [hW0.out]; refine (refformed_any w.heap.size _ s l _ (hv'.below hA (Nat.le_refl _)) hA.size).mono ?_; rintro e w' ⟨rfl, hB⟩; have d0 := (hB.cell (p := ⟨w.heap.size, 0, none⟩) q0).trans e0.out; have d1 := (hB.cell (p := ⟨w.heap.size, 1, none⟩) q0).trans e1.out; have hz1 := (hB.block _ q1).trans hz.out; have z0 : w'.cell? ⟨w.heap.size + 1, 0, none⟩ = some (.slice none 0 0) := cell_of_row w' _ 0 _ _ _ hz1; have z1 : w'.cell? ⟨w.heap.size + 1, 1, none⟩ = some (.slice none 0 0) := cell_of_row w' _ 1 _ _ _ hz1; have y0 : w'.frozen? ⟨w.heap.size + 1, 0, none⟩ = false := (by simp [World.frozen?, hz1]); have y1 : w'.frozen? ⟨w.heap.size + 1, 1, none⟩ = false := (by simp [World.frozen?, hz1]); have hz2 := hidi hz1; clear hz1) | (go_at_call 40; refine (refshort_any w.heap.size _ s l _ (hv'.below (hA.trans (hB.mono hA.size)) (Nat.le_refl _)) (Nat.le_trans hA.size hB.size) p1 (by omega)).mono ?_; rintro e w2 ⟨r, rfl, hN, hb⟩; obtain ⟨u5, u4, rfl, J5, J4, F5, F4⟩ := hN.ex; obtain ⟨x5, k5, rfl⟩ := J5.shape; obtain ⟨x4, k4, rfl⟩ := J4.shape; clear z0 z1 y0 y1; have hz1 := (hb.block _ (Nat.lt_of_lt_of_le q1 hB.size)).trans hz2.out; have z0 : w2.cell? ⟨w.heap.size + 1, 0, none⟩ = some (.slice none 0 0) := cell_of_row w2 _ 0 _ _ _ hz1; have z1 : w2.cell? ⟨w.heap.size + 1, 1, none⟩ = some (.slice none 0 0) := cell_of_row w2 _ 1 _ _ _ hz1; have y0 : w2.frozen? ⟨w.heap.size + 1, 0, none⟩ = false := (by simp [World.frozen?, hz1]); have y1 : w2.frozen? ⟨w.heap.size + 1, 1, none⟩ = false := (by simp [World.frozen?, hz1]); have hz3 := hidi hz1; clear hz1)
    (try simp only [Exit.inBlock, Exit.then])
    refine bodyPost_ret (results_cell_row rfl _ _ (w.heap.size + 1) 24 _ (0, 0) _ rfl (set2 _ _ _ _ _ _ _ hz3.out) Try.underlying24 rfl lasSize) rfl ?_
    exact ⟨_, rfl, by rw [hE.out]; exact las_end ((hA.trans (hB.mono hA.size)).trans (hb.mono (Nat.le_trans hA.size hB.size))) J5 J4 (fun g e => by have := F5 g e; have := hB.size; omega) (fun g e => by have := F4 g e; have := hB.size; omega) _ _⟩

end Go.Proofs.Ytcbddplgleeiiaa
