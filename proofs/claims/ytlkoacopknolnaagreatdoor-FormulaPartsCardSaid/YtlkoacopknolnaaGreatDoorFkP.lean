/-
  FormulaParts: what a formula is, its arguments are; its size and names are theirs. No condition.
-/
import Derived.Test.YtlkoacopknolnaaGreatDoorGq
import Derived.Test.YtlkoacopknolnaaGreatDoorFlA
namespace Go.Proofs.YtlkoacopknolnaaGreatDoor

/-- FormulaParts -/
theorem parts_all : Rows.FormulaPartsCardSaid := parts_card head_ok

end Go.Proofs.YtlkoacopknolnaaGreatDoor
