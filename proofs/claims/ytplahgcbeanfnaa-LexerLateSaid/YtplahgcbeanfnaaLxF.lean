/-
  The contract of the lexer's kinds.
-/
import Derived.Test.YtplahgcbeanfnaaLxE
import Derived.Laws.EntriesVeiled
import Derived.OneCell
namespace Go.Proofs.Ytplahgcbeanfnaa
open Go.RowKit

/-- the table of kinds as a value -/
def kindsV : Value := .agg #[.int .i64 1, .func (.func 23) #[] #[], .int .i64 2, .func (.func 24) #[] #[], .int .i64 3, .func (.func 25) #[] #[]]

theorem kindsSize : (Try.prog.info? 46).map (·.size) = some 6 := by kernel_rfl

set_option maxRecDepth 100000 in
set_option maxHeartbeats 1600000 in
theorem kinds_any (w : World) :
    Calls Try.prog 19 #[] w fun e w' => e = .returned kindsV ∧ Below w.heap.size w w' := by
  go_enter Try.func19, Try.ntmps19
  go_wp2
  refine bodyPost_ret (results_cell_row rfl _ _ (w.heap.size) 46 _ (0, 0) _ rfl (heap_alloc_new w _) Try.underlying46 rfl kindsSize) rfl ?_
  exact ⟨rfl, (Below.refl _ _).alloc (Nat.le_refl _) _⟩

end Go.Proofs.Ytplahgcbeanfnaa
