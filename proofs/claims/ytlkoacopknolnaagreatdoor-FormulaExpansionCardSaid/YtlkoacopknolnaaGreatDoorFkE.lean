/-
  FormulaExpansion: formulas that say the same with other operators have the same kernels. No condition.
-/
import Derived.Test.YtlkoacopknolnaaGreatDoorGq
import Derived.Test.YtlkoacopknolnaaGreatDoorFjI
namespace Go.Proofs.YtlkoacopknolnaaGreatDoor

/-- FormulaExpansion -/
theorem expansion_all : Rows.FormulaExpansionCardSaid := exp_card head_ok

end Go.Proofs.YtlkoacopknolnaaGreatDoor
