/-
  Contracts of the word reference's formed and Short.
-/
import Derived.Test.YtcbddplgleeiiaaWordY
namespace Go.Proofs.Ytcbddplgleeiiaa
open Go.RowKit

/-- short enough for the laws -/
def shortB (s l : List Int) : Bool := decide (s.length ≤ 80) && decide (l.length ≤ 80)

set_option maxHeartbeats 400000 in
theorem refShort_any (B : Nat) (v : Value) (s l : List Int) (w : World) (hv : LasAt B w v s l) :
    Calls Try.prog 11 #[v] w fun e w' => e = .returned (.bool (shortB s l)) ∧ Below w.heap.size w w' := by
  obtain ⟨o1, c1, o2, c2, rfl, h1, h2⟩ := hv.open
  have hA : Below w.heap.size w (w.alloc (.cells #[.slice o1 s.length c1, .slice o2 l.length c2] 24)) := (Below.refl _ _).alloc (Nat.le_refl _) _
  by_cases g1 : s.length ≤ 80
  · go_enter Try.func11, Try.ntmps11
    go_wp2
    go_ret
    exact ⟨ret_bool (by simp [shortB, g1]; omega), hA⟩
  · go_enter Try.func11, Try.ntmps11
    go_wp2
    go_ret
    exact ⟨ret_bool (by simp [shortB, g1]), hA⟩

set_option maxRecDepth 100000 in
set_option maxHeartbeats 1000000 in
theorem refformedL_any (B : Nat) (v : Value) (s l : List Int) (w : World) (hv : LasAt B w v s l) (hBw : B ≤ w.heap.size) :
    Calls Try.prog 46 #[v] w fun e w' => e = .returned (if formedB s l then v else .agg #[.slice none 0 0, .slice none 0 0]) ∧ Below w.heap.size w w' := by
  have hv' := hv.mono hBw
  obtain ⟨o1, c1, o2, c2, rfl, h1, h2⟩ := hv'.open
  obtain ⟨W0, hW0, hA, hq, e0, e1, hz⟩ := las_open w (.slice o1 s.length c1) (.slice o2 l.length c2)
  have q0 : w.heap.size < W0.heap.size := by have := hq.out; omega
  have q1 : w.heap.size + 1 < W0.heap.size := by have := hq.out; omega
  cases hf : formedB s l
  · go_enter Try.func46, Try.ntmps46
    go_wp2_with (go_at_call 30; rw [hW0.out]; refine (refformed_any w.heap.size _ s l _ (hv'.below hA (Nat.le_refl _)) hA.size).mono ?_; rintro e w' ⟨rfl, hB⟩; have d0 := (hB.cell (p := ⟨w.heap.size, 0, none⟩) q0).trans e0.out; have d1 := (hB.cell (p := ⟨w.heap.size, 1, none⟩) q0).trans e1.out; have hz1 := (hB.block _ q1).trans hz.out; have z0 : w'.cell? ⟨w.heap.size + 1, 0, none⟩ = some (.slice none 0 0) := cell_of_row w' _ 0 _ _ _ hz1; have z1 : w'.cell? ⟨w.heap.size + 1, 1, none⟩ = some (.slice none 0 0) := cell_of_row w' _ 1 _ _ _ hz1; have y0 : w'.frozen? ⟨w.heap.size + 1, 0, none⟩ = false := (by simp [World.frozen?, hz1]); have y1 : w'.frozen? ⟨w.heap.size + 1, 1, none⟩ = false := (by simp [World.frozen?, hz1]); have hz2 := hidi hz1; clear hz1)
    (try simp only [Exit.inBlock, Exit.then])
    refine bodyPost_ret (results_cell_row rfl _ _ (w.heap.size + 1) 24 _ (0, 0) _ rfl (set2 _ _ _ _ _ _ _ hz2.out) Try.underlying24 rfl lasSize) rfl ?_
    exact ⟨rfl, ((hA.trans (hB.mono hA.size)).setCell (p := ⟨w.heap.size + 1, 0, none⟩) (Nat.le_succ _) _).setCell (p := ⟨w.heap.size + 1, 1, none⟩) (Nat.le_succ _) _⟩
  · go_enter Try.func46, Try.ntmps46
    go_wp2_with (go_at_call 30; rw [hW0.out]; refine (refformed_any w.heap.size _ s l _ (hv'.below hA (Nat.le_refl _)) hA.size).mono ?_; rintro e w' ⟨rfl, hB⟩; have d0 := (hB.cell (p := ⟨w.heap.size, 0, none⟩) q0).trans e0.out; have d1 := (hB.cell (p := ⟨w.heap.size, 1, none⟩) q0).trans e1.out; have hz1 := (hB.block _ q1).trans hz.out; have z0 : w'.cell? ⟨w.heap.size + 1, 0, none⟩ = some (.slice none 0 0) := cell_of_row w' _ 0 _ _ _ hz1; have z1 : w'.cell? ⟨w.heap.size + 1, 1, none⟩ = some (.slice none 0 0) := cell_of_row w' _ 1 _ _ _ hz1; have y0 : w'.frozen? ⟨w.heap.size + 1, 0, none⟩ = false := (by simp [World.frozen?, hz1]); have y1 : w'.frozen? ⟨w.heap.size + 1, 1, none⟩ = false := (by simp [World.frozen?, hz1]); have hz2 := hidi hz1; clear hz1)
    (try simp only [Exit.inBlock, Exit.then])
    refine bodyPost_ret (results_cell_row rfl _ _ (w.heap.size + 1) 24 _ (0, 0) _ rfl (set2 _ _ _ _ _ _ _ hz2.out) Try.underlying24 rfl lasSize) rfl ?_
    exact ⟨rfl, ((hA.trans (hB.mono hA.size)).setCell (p := ⟨w.heap.size + 1, 0, none⟩) (Nat.le_succ _) _).setCell (p := ⟨w.heap.size + 1, 1, none⟩) (Nat.le_succ _) _⟩

end Go.Proofs.Ytcbddplgleeiiaa
