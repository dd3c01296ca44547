/-
  FormulaNegation: the negation of a negation, and the kernel of a negation, are as the law says. No condition.
-/
import Derived.Test.YtmklekdkaekcbaaGreatDoorGq
import Derived.Test.YtmklekdkaekcbaaGreatDoorGt

namespace Go.Proofs.YtmklekdkaekcbaaGreatDoor

/-- FormulaNegation -/
theorem negation_all : Rows.FormulaNegationCardSaid := neg_card head_ok

end Go.Proofs.YtmklekdkaekcbaaGreatDoor
