/-
  FormulaDuality: negations turn canonical conjunctions into disjunctions, and hang on canonical forms alone. No condition.
-/
import Derived.Test.YtlkoacopknolnaaGreatDoorGq
import Derived.Test.YtlkoacopknolnaaGreatDoorFjT
namespace Go.Proofs.YtlkoacopknolnaaGreatDoor

/-- FormulaDuality -/
theorem duality_all : Rows.FormulaDualityCardSaid := dual_card head_ok

end Go.Proofs.YtlkoacopknolnaaGreatDoor
