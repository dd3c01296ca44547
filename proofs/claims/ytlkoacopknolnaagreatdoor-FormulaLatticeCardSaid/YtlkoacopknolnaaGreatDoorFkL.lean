/-
  FormulaLattice: conjunctions and disjunctions of canonical forms are a lattice's. No condition.
-/
import Derived.Test.YtlkoacopknolnaaGreatDoorGq
import Derived.Test.YtlkoacopknolnaaGreatDoorFjQ
namespace Go.Proofs.YtlkoacopknolnaaGreatDoor

/-- FormulaLattice -/
theorem lattice_all : Rows.FormulaLatticeCardSaid := lat_card head_ok

end Go.Proofs.YtlkoacopknolnaaGreatDoor
