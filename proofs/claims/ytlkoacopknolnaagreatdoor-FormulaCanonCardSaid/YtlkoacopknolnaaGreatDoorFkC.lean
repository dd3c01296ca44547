/-
  FormulaCanon: canonical forms are loose kernels, no longer, their own, and do not hang on order, repetition and nesting. No condition.
-/
import Derived.Test.YtlkoacopknolnaaGreatDoorGq
import Derived.Test.YtlkoacopknolnaaGreatDoorFlG
namespace Go.Proofs.YtlkoacopknolnaaGreatDoor

/-- FormulaCanon -/
theorem canonical_all : Rows.FormulaCanonCardSaid := canon_card head_ok

end Go.Proofs.YtlkoacopknolnaaGreatDoor
