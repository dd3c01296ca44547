/-
  Contracts that the formula laws stand on, part Gp.
-/
import Derived.StillTailTactics
import Derived.Test.YtbnnjbfbifihaaaGreatDoorGb

/-
  What the laws of formulas share: the contract of the law's head, boxes, sizes.
-/
namespace Go.Proofs.YtbnnjbfbifihaaaGreatDoor
open Go.RowKit

def HeadOk : Prop := ∀ w : World, Env w → Calls Tryz.prog 12 #[] w fun e w' => e = .returned (.bool true) ∧ Below w.heap.size w w'

theorem fm3_open (w : World) (a1 a2 a3 a4 a5 b1 b2 b3 b4 b5 g1 g2 g3 g4 g5 : Value) : ∃ W0, Hid (((w.alloc (.cells #[a1, a2, a3, a4, a5] 24)).alloc (.cells #[b1, b2, b3, b4, b5] 24)).alloc (.cells #[g1, g2, g3, g4, g5] 24) = W0) ∧ Below w.heap.size w W0 ∧
    Hid (Cells5 W0 w.heap.size 0 a1 a2 a3 a4 a5) ∧ Hid (Cells5 W0 (w.heap.size + 1) 0 b1 b2 b3 b4 b5) ∧ Hid (Cells5 W0 (w.heap.size + 2) 0 g1 g2 g3 g4 g5) ∧ w.heap.size + 2 < W0.heap.size := by
  obtain ⟨W1, hW1, hB1, k1, k2, hlt⟩ := fm2_open w a1 a2 a3 a4 a5 b1 b2 b3 b4 b5
  have hs : W1.heap.size = w.heap.size + 2 := by rw [← hW1.out]; simp
  have h3 := below_box W1 (.cells #[g1, g2, g3, g4, g5] 24)
  rw [hW1.out]
  refine ⟨_, rfl, hB1.trans (h3.mono hB1.size), k1.out.below h3 (by omega), k2.out.below h3 (by omega), ?_, by simp; omega⟩
  have := box5 W1 g1 g2 g3 g4 g5 24
  rw [hs] at this
  exact this

theorem small420 (f : Fm) (B : Nat) (v : Value) (w : World) (hv : FAt B w v f) (hBw : B ≤ w.heap.size) (hn : Hid (f.nodes ≤ 420)) :
    Calls Tryz.prog 13 #[v, .int .i64 420] w fun e w' => e = .returned (.bool true) ∧ Below w.heap.size w w' := by
  have := refsmall_any f B v 420 w hv hBw (by omega)
  rw [decide_eq_true hn.out] at this
  exact this
theorem small420_no (f : Fm) (B : Nat) (v : Value) (w : World) (hv : FAt B w v f) (hBw : B ≤ w.heap.size) (hn : Hid (¬ f.nodes ≤ 420)) :
    Calls Tryz.prog 13 #[v, .int .i64 420] w fun e w' => e = .returned (.bool false) ∧ Below w.heap.size w w' := by
  have := refsmall_any f B v 420 w hv hBw (by omega)
  rw [decide_eq_false hn.out] at this
  exact this

end Go.Proofs.YtbnnjbfbifihaaaGreatDoor
