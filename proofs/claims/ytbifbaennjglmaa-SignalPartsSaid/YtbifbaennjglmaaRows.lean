/-
  No cell of these rows narrows 'for every input' (looked for: loops, veiled, ifaces, maps, wideKeys, modest, calm, conditions, laid).
  DERIVED. THE GIVEN ROWS OF THIS SEAT. 6 by the template 'for every input the law returns true; each argument reads behind the call as it read before'; 0 by the template 'total and deterministic' (their statements: YtbifbaennjglmaaTotals.lean).
  GIVEN WITH THE SEED: the statements are not yours to turn. If you find one false, say at which input.
  Laid BY PROGRAM, IN A SANDBOX (cutbox-rows.mjs): the forced cells as the released guide's own fill.sh prints them over the translation 1122e0b398edb739… (all of the seat's roots in one cut). By AI agents, Wed Nov 11 2026. No macro, syntax, notation, axiom, sorry.
-/
import Derived.Test.YtbifbaennjglmaaChecked
import GoSem.Claim
import GoSem.ClaimJoined
import GoSem.ClaimMapViews
import Derived.JoinedTies
import Derived.KernelRfl
namespace Go.Proofs.Ytbifbaennjglmaa
/- THE CELL 'sum', in the pinned program and in every row, IS THE sha256 OF THE DUMP (.gsa) THAT YtbifbaennjglmaaProg.lean LOADS. Nothing in Lean hashes anything: it is a label: what it is worth is what the hold of that sum in a sandbox is worth. -/
noncomputable def Try.pinned : Pinned := { name := "ytbifbaennjglmaa", sum := "1122e0b398edb7394faf1c42e32ae7c04e70b7254e704e6177caaaad171e53d5", checked := Try.checked }
namespace Rows
def none {H : Type} : Left H := { results := [], args := [] }

/-- 'foresightlaw01.SignalMatchesReference': WHATEVER THE INPUT: true; the input reads as it did. -/
def signalMatchesReferenceSpec : ChangeSpec := { name := "signalMatchesReference", fn := fun _ => fun
  | [d1, d2, d3, d4, d5, d6, d7] => { results := [.lit (.bool true)], args := [d1, d2, d3, d4, d5, d6, d7] }
  | _ => none }
def signalMatchesReferenceRow : OpenClaim := { program := "ytbifbaennjglmaa", sum := "1122e0b398edb7394faf1c42e32ae7c04e70b7254e704e6177caaaad171e53d5", func := "foresight/foresightlaw01.SignalMatchesReference", spec := "signalMatchesReference", unfollowed := true, recurses := true, apart := false }
def SignalMatchesReferenceSaid : Prop := signalMatchesReferenceRow.holds Try.pinned (OpenSpec.ofChange signalMatchesReferenceSpec)

/-- ITS FALSE NEIGHBOUR: 'it returns false'. Refute it at one input. -/
def signalMatchesReferenceWrong : ChangeSpec := { name := "signalMatchesReference", fn := fun _ => fun
  | [d1, d2, d3, d4, d5, d6, d7] => { results := [.lit (.bool false)], args := [d1, d2, d3, d4, d5, d6, d7] }
  | _ => none }
def SignalMatchesReferenceWrongFalsely : Prop := signalMatchesReferenceRow.holds Try.pinned (OpenSpec.ofChange signalMatchesReferenceWrong)

/-- 'foresightlaw01.SignalPairs': WHATEVER THE INPUT: true; the input reads as it did. -/
def signalPairsSpec : ChangeSpec := { name := "signalPairs", fn := fun _ => fun
  | [d] => { results := [.lit (.bool true)], args := [d] }
  | _ => none }
def signalPairsRow : OpenClaim := { program := "ytbifbaennjglmaa", sum := "1122e0b398edb7394faf1c42e32ae7c04e70b7254e704e6177caaaad171e53d5", func := "foresight/foresightlaw01.SignalPairs", spec := "signalPairs", unfollowed := true, recurses := true, apart := false }
def SignalPairsSaid : Prop := signalPairsRow.holds Try.pinned (OpenSpec.ofChange signalPairsSpec)

/-- ITS FALSE NEIGHBOUR: 'it returns false'. Refute it at one input. -/
def signalPairsWrong : ChangeSpec := { name := "signalPairs", fn := fun _ => fun
  | [d] => { results := [.lit (.bool false)], args := [d] }
  | _ => none }
def SignalPairsWrongFalsely : Prop := signalPairsRow.holds Try.pinned (OpenSpec.ofChange signalPairsWrong)

/-- 'foresightlaw01.SignalValues': WHATEVER THE INPUT: true; the input reads as it did. -/
def signalValuesSpec : ChangeSpec := { name := "signalValues", fn := fun _ => fun
  | [d1, d2] => { results := [.lit (.bool true)], args := [d1, d2] }
  | _ => none }
def signalValuesRow : OpenClaim := { program := "ytbifbaennjglmaa", sum := "1122e0b398edb7394faf1c42e32ae7c04e70b7254e704e6177caaaad171e53d5", func := "foresight/foresightlaw01.SignalValues", spec := "signalValues", unfollowed := true, recurses := true, apart := false }
def SignalValuesSaid : Prop := signalValuesRow.holds Try.pinned (OpenSpec.ofChange signalValuesSpec)

/-- ITS FALSE NEIGHBOUR: 'it returns false'. Refute it at one input. -/
def signalValuesWrong : ChangeSpec := { name := "signalValues", fn := fun _ => fun
  | [d1, d2] => { results := [.lit (.bool false)], args := [d1, d2] }
  | _ => none }
def SignalValuesWrongFalsely : Prop := signalValuesRow.holds Try.pinned (OpenSpec.ofChange signalValuesWrong)

/-- 'foresightlaw01.SignalHalves': WHATEVER THE INPUT: true; the input reads as it did. -/
def signalHalvesSpec : ChangeSpec := { name := "signalHalves", fn := fun _ => fun
  | [d1, d2, d3] => { results := [.lit (.bool true)], args := [d1, d2, d3] }
  | _ => none }
def signalHalvesRow : OpenClaim := { program := "ytbifbaennjglmaa", sum := "1122e0b398edb7394faf1c42e32ae7c04e70b7254e704e6177caaaad171e53d5", func := "foresight/foresightlaw01.SignalHalves", spec := "signalHalves", unfollowed := true, recurses := true, apart := false }
def SignalHalvesSaid : Prop := signalHalvesRow.holds Try.pinned (OpenSpec.ofChange signalHalvesSpec)

/-- ITS FALSE NEIGHBOUR: 'it returns false'. Refute it at one input. -/
def signalHalvesWrong : ChangeSpec := { name := "signalHalves", fn := fun _ => fun
  | [d1, d2, d3] => { results := [.lit (.bool false)], args := [d1, d2, d3] }
  | _ => none }
def SignalHalvesWrongFalsely : Prop := signalHalvesRow.holds Try.pinned (OpenSpec.ofChange signalHalvesWrong)

/-- 'foresightlaw01.SignalOrder': WHATEVER THE INPUT: true; the input reads as it did. -/
def signalOrderSpec : ChangeSpec := { name := "signalOrder", fn := fun _ => fun
  | [d1, d2, d3] => { results := [.lit (.bool true)], args := [d1, d2, d3] }
  | _ => none }
def signalOrderRow : OpenClaim := { program := "ytbifbaennjglmaa", sum := "1122e0b398edb7394faf1c42e32ae7c04e70b7254e704e6177caaaad171e53d5", func := "foresight/foresightlaw01.SignalOrder", spec := "signalOrder", unfollowed := true, recurses := true, apart := false }
def SignalOrderSaid : Prop := signalOrderRow.holds Try.pinned (OpenSpec.ofChange signalOrderSpec)

/-- ITS FALSE NEIGHBOUR: 'it returns false'. Refute it at one input. -/
def signalOrderWrong : ChangeSpec := { name := "signalOrder", fn := fun _ => fun
  | [d1, d2, d3] => { results := [.lit (.bool false)], args := [d1, d2, d3] }
  | _ => none }
def SignalOrderWrongFalsely : Prop := signalOrderRow.holds Try.pinned (OpenSpec.ofChange signalOrderWrong)

/-- 'foresightlaw01.SignalParts': WHATEVER THE INPUT: true; the input reads as it did. -/
def signalPartsSpec : ChangeSpec := { name := "signalParts", fn := fun _ => fun
  | [d1, d2] => { results := [.lit (.bool true)], args := [d1, d2] }
  | _ => none }
def signalPartsRow : OpenClaim := { program := "ytbifbaennjglmaa", sum := "1122e0b398edb7394faf1c42e32ae7c04e70b7254e704e6177caaaad171e53d5", func := "foresight/foresightlaw01.SignalParts", spec := "signalParts", unfollowed := true, recurses := true, apart := false }
def SignalPartsSaid : Prop := signalPartsRow.holds Try.pinned (OpenSpec.ofChange signalPartsSpec)

/-- ITS FALSE NEIGHBOUR: 'it returns false'. Refute it at one input. -/
def signalPartsWrong : ChangeSpec := { name := "signalParts", fn := fun _ => fun
  | [d1, d2] => { results := [.lit (.bool false)], args := [d1, d2] }
  | _ => none }
def SignalPartsWrongFalsely : Prop := signalPartsRow.holds Try.pinned (OpenSpec.ofChange signalPartsWrong)

/- THE SECOND FORM. 'bulk': how many values and letters a reading holds, each counted each time it is reached (what is shared counts as often as it is met; a slice's spare places count too). A statement '..UptoSaid' is the law's where the arguments, and the package variables that the reading takes, are together of bulk at most 1048576: NARROWER than '..Said'. Prove '..Said' where nothing that the law and all that it calls make is longer than what came in: it says more and counts as full. Else prove '..UptoSaid'. A law counts once. -/
mutual
def uptoBulk {H : Type} : DataW H → Nat
  | .lit (.string bytes) => bytes.length + 1
  | .lit _ => 1
  | .nil => 1
  | .ptr d => uptoBulk d + 1
  | .slice elems spare => uptoBulkAll elems + uptoBulkAll spare + 1
  | .agg parts => uptoBulkAll parts + 1
  | .iface _ d => uptoBulk d + 1
  | .map entries => uptoBulkEntries entries + 1
  | .held _ => 1
def uptoBulkAll {H : Type} : List (DataW H) → Nat
  | [] => 0
  | d :: r => uptoBulk d + uptoBulkAll r
def uptoBulkEntries {H : Type} : List (Lit × DataW H) → Nat
  | [] => 0
  | x :: r => uptoBulkEntry x + uptoBulkEntries r
def uptoBulkEntry {H : Type} : Lit × DataW H → Nat
  | (.string bytes, d) => bytes.length + uptoBulk d + 1
  | (_, d) => uptoBulk d + 1
 end
def uptoSmall : (H : Type) → List (DataW H) → Bool := fun _ ds => decide (uptoBulkAll ds ≤ 1048576)
def OpenSpec.upto (s : _root_.Go.ChangeSpec) : _root_.Go.OpenSpec := { _root_.Go.OpenSpec.ofChange s with cond := some uptoSmall }

/-- 'foresightlaw01.SignalMatchesReference', WHERE WHAT IT READS IS OF BULK AT MOST 1048576: true; the input reads as it did. -/
def signalMatchesReferenceUptoRow : OpenClaim := { program := "ytbifbaennjglmaa", sum := "1122e0b398edb7394faf1c42e32ae7c04e70b7254e704e6177caaaad171e53d5", func := "foresight/foresightlaw01.SignalMatchesReference", spec := "signalMatchesReference", unfollowed := true, recurses := true, apart := false, narrowed := true }
def SignalMatchesReferenceUptoSaid : Prop := signalMatchesReferenceUptoRow.holds Try.pinned (OpenSpec.upto signalMatchesReferenceSpec)

/-- 'foresightlaw01.SignalPairs', WHERE WHAT IT READS IS OF BULK AT MOST 1048576: true; the input reads as it did. -/
def signalPairsUptoRow : OpenClaim := { program := "ytbifbaennjglmaa", sum := "1122e0b398edb7394faf1c42e32ae7c04e70b7254e704e6177caaaad171e53d5", func := "foresight/foresightlaw01.SignalPairs", spec := "signalPairs", unfollowed := true, recurses := true, apart := false, narrowed := true }
def SignalPairsUptoSaid : Prop := signalPairsUptoRow.holds Try.pinned (OpenSpec.upto signalPairsSpec)

/-- 'foresightlaw01.SignalValues', WHERE WHAT IT READS IS OF BULK AT MOST 1048576: true; the input reads as it did. -/
def signalValuesUptoRow : OpenClaim := { program := "ytbifbaennjglmaa", sum := "1122e0b398edb7394faf1c42e32ae7c04e70b7254e704e6177caaaad171e53d5", func := "foresight/foresightlaw01.SignalValues", spec := "signalValues", unfollowed := true, recurses := true, apart := false, narrowed := true }
def SignalValuesUptoSaid : Prop := signalValuesUptoRow.holds Try.pinned (OpenSpec.upto signalValuesSpec)

/-- 'foresightlaw01.SignalHalves', WHERE WHAT IT READS IS OF BULK AT MOST 1048576: true; the input reads as it did. -/
def signalHalvesUptoRow : OpenClaim := { program := "ytbifbaennjglmaa", sum := "1122e0b398edb7394faf1c42e32ae7c04e70b7254e704e6177caaaad171e53d5", func := "foresight/foresightlaw01.SignalHalves", spec := "signalHalves", unfollowed := true, recurses := true, apart := false, narrowed := true }
def SignalHalvesUptoSaid : Prop := signalHalvesUptoRow.holds Try.pinned (OpenSpec.upto signalHalvesSpec)

/-- 'foresightlaw01.SignalOrder', WHERE WHAT IT READS IS OF BULK AT MOST 1048576: true; the input reads as it did. -/
def signalOrderUptoRow : OpenClaim := { program := "ytbifbaennjglmaa", sum := "1122e0b398edb7394faf1c42e32ae7c04e70b7254e704e6177caaaad171e53d5", func := "foresight/foresightlaw01.SignalOrder", spec := "signalOrder", unfollowed := true, recurses := true, apart := false, narrowed := true }
def SignalOrderUptoSaid : Prop := signalOrderUptoRow.holds Try.pinned (OpenSpec.upto signalOrderSpec)

/-- 'foresightlaw01.SignalParts', WHERE WHAT IT READS IS OF BULK AT MOST 1048576: true; the input reads as it did. -/
def signalPartsUptoRow : OpenClaim := { program := "ytbifbaennjglmaa", sum := "1122e0b398edb7394faf1c42e32ae7c04e70b7254e704e6177caaaad171e53d5", func := "foresight/foresightlaw01.SignalParts", spec := "signalParts", unfollowed := true, recurses := true, apart := false, narrowed := true }
def SignalPartsUptoSaid : Prop := signalPartsUptoRow.holds Try.pinned (OpenSpec.upto signalPartsSpec)

end Rows
end Go.Proofs.Ytbifbaennjglmaa
