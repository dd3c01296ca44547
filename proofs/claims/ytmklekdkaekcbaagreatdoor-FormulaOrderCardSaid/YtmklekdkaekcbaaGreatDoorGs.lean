/-
  FormulaOrder: the order of formulas is one, and the law's examples hold. No condition.
-/
import Derived.Test.YtmklekdkaekcbaaGreatDoorGq
import Derived.Test.YtmklekdkaekcbaaGreatDoorGr

namespace Go.Proofs.YtmklekdkaekcbaaGreatDoor

/-- FormulaOrder -/
theorem order_all : Rows.FormulaOrderCardSaid := order_card head_ok

end Go.Proofs.YtmklekdkaekcbaaGreatDoor
