/-
  FormulaKernels: the kernel of a well-formed layered formula is a kernel with its names, and its own. No condition.
-/
import Derived.Test.YtlkoacopknolnaaGreatDoorGq
import Derived.Test.YtlkoacopknolnaaGreatDoorFiL
namespace Go.Proofs.YtlkoacopknolnaaGreatDoor

/-- FormulaKernels -/
theorem kernels_all : Rows.FormulaKernelsCardSaid := ker_card head_ok

end Go.Proofs.YtlkoacopknolnaaGreatDoor
