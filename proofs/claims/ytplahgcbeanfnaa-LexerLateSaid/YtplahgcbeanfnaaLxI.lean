/-
  The contracts of the deferred closure of Lex: at a panic of scan, and at none.
-/
import Derived.Test.YtplahgcbeanfnaaLxG
import Derived.Defers
import Derived.Recover
import Derived.Laws.Pointers
import Derived.RegionTactic
import Derived.BigRegion
import Derived.ChangeAlike
namespace Go.Proofs.Ytplahgcbeanfnaa
open Go.RowKit

/-- what the closure leaves at a panic: the results' cells -/
def Caught (R : Nat) (k p : Nat) (w w' : World) : Prop :=
  w'.cell? ⟨R, 0, none⟩ = some (.slice none 0 0) ∧ w'.cell? ⟨R + 1, 0, none⟩ = some (.int .i64 k) ∧ w'.cell? ⟨R + 2, 0, none⟩ = some (.int .i64 p) ∧ Below R w w'

theorem cso {w : World} {b b' o o' : Nat} {u : Value} (h : b' ≠ b) : (w.setCell ⟨b, o, none⟩ u).cell? ⟨b', o', none⟩ = w.cell? ⟨b', o', none⟩ := World.cell?_setCell_other _ _ _ _ (by intro e; cases e; exact h rfl)
theorem set3 {R : Nat} {w W : World} {k p : Nat} {v2 v3 v4 : Value} (h2 : W.cell? ⟨R, 0, none⟩ = some v2) (h3 : W.cell? ⟨R + 1, 0, none⟩ = some v3) (h4 : W.cell? ⟨R + 2, 0, none⟩ = some v4) (hB : Below R w W) :
    Caught R k p w (((W.setCell ⟨R, 0, none⟩ (.slice none 0 0)).setCell ⟨R + 1, 0, none⟩ (.int .i64 k)).setCell ⟨R + 2, 0, none⟩ (.int .i64 p)).drew := by
  refine ⟨?_, ?_, ?_, ((hB.setCell (p := ⟨R, 0, none⟩) (Nat.le_refl _) _).setCell (p := ⟨R + 1, 0, none⟩) (Nat.le_succ _) _).setCell (p := ⟨R + 2, 0, none⟩) (Nat.le_add_right _ _) _ |>.drew⟩
  · exact (cso (by omega)).trans ((cso (by omega)).trans (World.cell?_setCell_same _ _ _ h2))
  · exact (cso (by omega)).trans (World.cell?_setCell_same _ _ _ (u := v3) ((cso (by omega)).trans h3))
  · exact World.cell?_setCell_same _ _ _ (u := v4) ((cso (by omega)).trans ((cso (by omega)).trans h4))

set_option maxRecDepth 100000 in
set_option maxHeartbeats 1600000 in
theorem catch_panicking (R k p : Nat) (v2 : Value) (z3 z4 : Int) (w : World) (hR : R + 3 ≤ w.heap.size)
    (h2 : w.cell? ⟨R, 0, none⟩ = some v2) (h3 : w.cell? ⟨R + 1, 0, none⟩ = some (.int .i64 z3)) (h4 : w.cell? ⟨R + 2, 0, none⟩ = some (.int .i64 z4))
    (f2 : w.frozen? ⟨R, 0, none⟩ = false) (f3 : w.frozen? ⟨R + 1, 0, none⟩ = false) (f4 : w.frozen? ⟨R + 2, 0, none⟩ = false) :
    CallsD Try.prog 15 #[.pointer (some ⟨R, 0, none⟩), .pointer (some ⟨R + 1, 0, none⟩), .pointer (some ⟨R + 2, 0, none⟩)]
      (.panicking [{ v := .iface 39 (.agg #[.int .i64 k, .int .i64 p]), recovered := false }]) w fun e u' w' =>
      e = .returned (.tuple #[]) ∧ u' = .panicking [{ v := .iface 39 (.agg #[.int .i64 k, .int .i64 p]), recovered := true }] ∧ Caught R k p w w' := by
  have hta : ∀ (x : Value) (w : World), (Instr.typeAssert (.iface 39 x) 20 39 true).run Try.prog w = .ok (.tuple #[x, .bool true]) w := fun _ _ => by kernel_rfl
  refine callsD_of_wpS Try.func15 rfl fun c₀ cs hu => ?_
  simp only [Try.ntmps15, List.size_toArray, List.length_cons, List.length_nil, Nat.reduceAdd, Nat.reduceSub, Array.replicate_succ, Array.replicate_zero, List.push_toArray, List.append_toArray, List.nil_append, List.cons_append]
  apply wpS_seq
  apply wpS_region
  simp [wpOpsS, go_sem, recoverD, hu, Exit.thenS, hta]
  refine wpS_of_wp ?_
  refine gen_w ?_
  intro W1 hW1
  obtain ⟨F, hF⟩ : ∃ F, Hid (w.heap.size = F) := ⟨_, rfl⟩
  have g0 : W1.cell? ⟨F, 0, none⟩ = some (.int .i64 k) := by rw [← hW1.out, ← hF.out]; exact cell_of_row _ _ 0 _ _ _ (heap_alloc_new w _)
  have g1 : W1.cell? ⟨F, 1, none⟩ = some (.int .i64 p) := by rw [← hW1.out, ← hF.out]; exact cell_of_row _ _ 1 _ _ _ (heap_alloc_new w _)
  have hBw : Below w.heap.size w W1 := by rw [← hW1.out]; exact (Below.refl _ _).alloc (Nat.le_refl _) _
  have h2' := (hBw.cell (p := ⟨R, 0, none⟩) (by show R < _; omega)).trans h2
  have h3' := (hBw.cell (p := ⟨R + 1, 0, none⟩) (by show R + 1 < _; omega)).trans h3
  have h4' := (hBw.cell (p := ⟨R + 2, 0, none⟩) (by show R + 2 < _; omega)).trans h4
  have f2' := (hBw.frozen (p := ⟨R, 0, none⟩) (by show R < _; omega)).trans f2
  have f3' := (hBw.frozen (p := ⟨R + 1, 0, none⟩) (by show R + 1 < _; omega)).trans f3
  have f4' := (hBw.frozen (p := ⟨R + 2, 0, none⟩) (by show R + 2 < _; omega)).trans f4
  have hBR : Below R w W1 := hBw.mono (by omega)
  have n1 : R < F := by have := hF.out; omega
  have n2 : R + 1 < F := by have := hF.out; omega
  have n3 : R + 2 < F := by have := hF.out; omega
  rw [hF.out]
  clear h2 h3 h4 f2 f3 f4 hBw hR
  go_wp2_with fail
  go_region
  exact ⟨rfl, _, rfl, _, results_none rfl _ _ _, rfl, rfl, set3 h2' h3' h4' hBR⟩

set_option maxRecDepth 100000 in
set_option maxHeartbeats 1600000 in
theorem catch_idle (R : Nat) (w : World) :
    CallsD Try.prog 15 #[.pointer (some ⟨R, 0, none⟩), .pointer (some ⟨R + 1, 0, none⟩), .pointer (some ⟨R + 2, 0, none⟩)] .returning w fun e u' w' =>
      e = .returned (.tuple #[]) ∧ u' = .returning ∧ Below w.heap.size w w' := by
  have hta : ∀ (w : World), (Instr.typeAssert .nilIface 20 39 true).run Try.prog w = .ok (.tuple #[.agg #[.int .i64 0, .int .i64 0], .bool false]) w := fun _ => by kernel_rfl
  refine callsD_of_wpS Try.func15 rfl fun c₀ cs hu => ?_
  simp only [Try.ntmps15, List.size_toArray, List.length_cons, List.length_nil, Nat.reduceAdd, Nat.reduceSub, Array.replicate_succ, Array.replicate_zero, List.push_toArray, List.append_toArray, List.nil_append, List.cons_append]
  apply wpS_seq
  apply wpS_region
  simp [wpOpsS, go_sem, recoverD, hu, Exit.thenS, hta]
  refine wpS_of_wp ?_
  refine gen_w ?_
  intro W1 hW1
  have hB : Below w.heap.size w W1 := by rw [← hW1.out]; exact (Below.refl _ _).alloc (Nat.le_refl _) _
  go_wp2_with fail
  cases c₀
  exact ⟨rfl, .returning, by simp_all, _, results_none rfl _ _ _, rfl, rfl, hB⟩

end Go.Proofs.Ytplahgcbeanfnaa
