/-
  All functions of package formula return what the reference implementation returns, for any two formulas of at most 420 nodes and list of at most 12 formulas of at most 100 nodes each; without further conditions.
-/
import Derived.Test.YtbnnjbfbifihaaaGreatDoorGq
import Derived.Test.YtbnnjbfbifihaaaGreatDoorHj
namespace Go.Proofs.YtbnnjbfbifihaaaGreatDoor

/-- FormulaMatchesReference -/
theorem formula_matches_reference : Rows.FormulaMatchesReferenceCardSaid := matches_card head_ok

end Go.Proofs.YtbnnjbfbifihaaaGreatDoor
