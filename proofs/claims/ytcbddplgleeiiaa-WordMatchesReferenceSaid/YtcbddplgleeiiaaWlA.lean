/-
  The contracts of the law's lasso, and new rows of numbers.
-/
import Derived.Test.YtcbddplgleeiiaaFacts
namespace Go.Proofs.Ytcbddplgleeiiaa
open Go.RowKit

set_option maxRecDepth 100000 in
set_option maxHeartbeats 1000000 in
theorem lasso_any (o1 : Option Addr) (n1 c1 : Nat) (o2 : Option Addr) (n2 c2 : Nat) (w : World) :
    Calls Try.prog 33 #[.slice o1 n1 c1, .slice o2 n2 c2] w fun e w' => e = .returned (.agg #[.slice o1 n1 c1, .slice o2 n2 c2]) ∧ Below w.heap.size w w' := by
  go_enter Try.func33, Try.ntmps33
  go_wp2
  (try simp only [Exit.inBlock, Exit.then])
  refine bodyPost_ret (results_cell_row rfl _ _ w.heap.size 24 _ (0, 0) _ rfl (heap_alloc_new w _) Try.underlying24 rfl lasSize) rfl ?_
  exact ⟨rfl, (Below.refl _ _).alloc (Nat.le_refl _) _⟩

/-- a row of numbers that is laid just now -/
theorem ints_made (w : World) (xs : List Int) (n : Nat) (hn : n = xs.length) (h : xs.all (fun x => decide (-9223372036854775808 ≤ x) && decide (x ≤ 9223372036854775807)) = true) (hl : xs.length ≤ 500000) :
    IntsAt (w.heap.size + 1) (w.alloc (.cells (xs.map (Value.int .i64)).toArray 3)) (.slice (some ⟨w.heap.size, 0, none⟩) n n) xs := by
  rw [List.all_eq_true] at h
  refine (row_ints (g := w.heap.size) (heap_alloc_new w _) hn (fun x hx => by have := h x hx; simp at this; exact this) hl).mono (by simp)

end Go.Proofs.Ytcbddplgleeiiaa
