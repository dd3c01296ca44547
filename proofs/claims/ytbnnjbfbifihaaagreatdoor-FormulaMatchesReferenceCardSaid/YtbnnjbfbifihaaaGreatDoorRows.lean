/-
  NARROWER THAN 'FOR EVERY INPUT', by the rows' own cells (each row's printed sentence says how): FormulaMatchesReference: loops, laid · FormulaOrder: loops, laid · FormulaParts: loops, laid · FormulaKernels: loops, laid · FormulaNegation: loops, laid · FormulaExpansion: loops, laid · FormulaCanon: loops, laid · FormulaLattice: loops, laid · FormulaDuality: loops, laid.
  DERIVED. THE GIVEN ROWS OF THIS SEAT. 9 by the template 'for every input the law returns true; each argument reads behind the call as it read before'; 0 by the template 'total and deterministic' (their statements: YtbnnjbfbifihaaaGreatDoorTotals.lean).
  GIVEN WITH THE SEED: the statements are not yours to turn. If you find one false, say at which input.
  Laid BY PROGRAM, IN A SANDBOX (cutbox-rows.mjs): the forced cells as the released guide's own fill.sh prints them over the translation 3fe9016603a408f5… (all of the seat's roots in one cut). By AI agents, Wed Nov 11 2026. No macro, syntax, notation, axiom, sorry.
-/
import Derived.Test.YtbnnjbfbifihaaaGreatDoorChecked
import GoSem.Claim
import GoSem.ClaimJoined
import GoSem.ClaimMapViews
import Derived.JoinedTies
import Derived.KernelRfl
namespace Go.Proofs.YtbnnjbfbifihaaaGreatDoor
/- THE CELL 'sum', in the pinned program and in every row, IS THE sha256 OF THE DUMP (.gsa) THAT YtbnnjbfbifihaaaGreatDoorProg.lean LOADS. Nothing in Lean hashes anything: it is a label: what it is worth is what the hold of that sum in a sandbox is worth. -/
noncomputable def Tryz.pinned : Pinned := { name := "ytbnnjbfbifihaaagreatdoor", sum := "3fe9016603a408f5a7045e1713a5ff55f8148de24f71f498604fcd1f8bc7fbcf", checked := Tryz.checked }
namespace Rows
def none {H : Type} : Left H := { results := [], args := [] }

/- WHAT THE LISTED PACKAGE-LEVEL VARIABLES READ AS WHEN THE CALL BEGINS. Each datum BY PROGRAM (the guide's laid-datum.mjs) off the statement by which the dump's own 'gosem.cut.vars' lays the variable. In a bare row this is a premise. The card (YtbnnjbfbifihaaaGreatDoorCards.lean) ties it to the program's text. -/
def laid_foresight_formula_forms {H : Type} : DataW H := .agg [.agg [.lit (.int .i64 0), .lit (.int .i64 0), .lit (.bool false), .lit (.int .i64 0), .lit (.int .i64 0), .lit (.int .i64 0), .lit (.int .i64 0)], .agg [.lit (.int .i64 0), .lit (.int .i64 0), .lit (.bool false), .lit (.int .i64 0), .lit (.int .i64 0), .lit (.int .i64 0), .lit (.int .i64 2)], .agg [.lit (.int .i64 0), .lit (.int .i64 0), .lit (.bool false), .lit (.int .i64 0), .lit (.int .i64 0), .lit (.int .i64 0), .lit (.int .i64 1)], .agg [.lit (.int .i64 0), .lit (.int .i64 0), .lit (.bool true), .lit (.int .i64 3), .lit (.int .i64 0), .lit (.int .i64 0), .lit (.int .i64 4)], .agg [.lit (.int .i64 1), .lit (.int .i64 1), .lit (.bool false), .lit (.int .i64 0), .lit (.int .i64 0), .lit (.int .i64 0), .lit (.int .i64 3)], .agg [.lit (.int .i64 2), .lit (.int .i64 9223372036854775807), .lit (.bool false), .lit (.int .i64 0), .lit (.int .i64 0), .lit (.int .i64 0), .lit (.int .i64 6)], .agg [.lit (.int .i64 2), .lit (.int .i64 9223372036854775807), .lit (.bool false), .lit (.int .i64 0), .lit (.int .i64 0), .lit (.int .i64 0), .lit (.int .i64 5)], .agg [.lit (.int .i64 2), .lit (.int .i64 2), .lit (.bool false), .lit (.int .i64 0), .lit (.int .i64 0), .lit (.int .i64 0), .lit (.int .i64 0)], .agg [.lit (.int .i64 1), .lit (.int .i64 1), .lit (.bool false), .lit (.int .i64 0), .lit (.int .i64 0), .lit (.int .i64 2), .lit (.int .i64 8)], .agg [.lit (.int .i64 2), .lit (.int .i64 2), .lit (.bool false), .lit (.int .i64 0), .lit (.int .i64 0), .lit (.int .i64 2), .lit (.int .i64 10)], .agg [.lit (.int .i64 2), .lit (.int .i64 2), .lit (.bool false), .lit (.int .i64 0), .lit (.int .i64 0), .lit (.int .i64 2), .lit (.int .i64 9)], .agg [.lit (.int .i64 1), .lit (.int .i64 1), .lit (.bool false), .lit (.int .i64 0), .lit (.int .i64 0), .lit (.int .i64 2), .lit (.int .i64 0)], .agg [.lit (.int .i64 1), .lit (.int .i64 1), .lit (.bool false), .lit (.int .i64 0), .lit (.int .i64 0), .lit (.int .i64 2), .lit (.int .i64 0)], .agg [.lit (.int .i64 1), .lit (.int .i64 1), .lit (.bool false), .lit (.int .i64 0), .lit (.int .i64 9), .lit (.int .i64 2), .lit (.int .i64 0)], .agg [.lit (.int .i64 1), .lit (.int .i64 1), .lit (.bool false), .lit (.int .i64 0), .lit (.int .i64 9), .lit (.int .i64 2), .lit (.int .i64 0)], .agg [.lit (.int .i64 1), .lit (.int .i64 1), .lit (.bool false), .lit (.int .i64 1), .lit (.int .i64 0), .lit (.int .i64 1), .lit (.int .i64 15)], .agg [.lit (.int .i64 2), .lit (.int .i64 2), .lit (.bool false), .lit (.int .i64 1), .lit (.int .i64 0), .lit (.int .i64 1), .lit (.int .i64 17)], .agg [.lit (.int .i64 2), .lit (.int .i64 2), .lit (.bool false), .lit (.int .i64 1), .lit (.int .i64 0), .lit (.int .i64 1), .lit (.int .i64 16)], .agg [.lit (.int .i64 1), .lit (.int .i64 1), .lit (.bool false), .lit (.int .i64 0), .lit (.int .i64 0), .lit (.int .i64 1), .lit (.int .i64 0)], .agg [.lit (.int .i64 1), .lit (.int .i64 1), .lit (.bool false), .lit (.int .i64 0), .lit (.int .i64 0), .lit (.int .i64 1), .lit (.int .i64 0)]]

/-- 'foresightlaw03.FormulaMatchesReference': WHATEVER THE INPUT: true; the input reads as it did. -/
def formulaMatchesReferenceSpec : ChangeSpec := { name := "formulaMatchesReference", fn := fun _ => fun
  | [d1, d2, d3] => { results := [.lit (.bool true)], args := [d1, d2, d3] }
  | _ => none }
def formulaMatchesReferenceRow : OpenClaim := { program := "ytbnnjbfbifihaaagreatdoor", sum := "3fe9016603a408f5a7045e1713a5ff55f8148de24f71f498604fcd1f8bc7fbcf", func := "foresight/foresightlaw03.FormulaMatchesReference", spec := "formulaMatchesReference", unfollowed := true, recurses := true, named := ["foresight/formula.forms"], loops := true, apart := false, laid := [("foresight/formula.forms", laid_foresight_formula_forms)] }
def FormulaMatchesReferenceSaid : Prop := formulaMatchesReferenceRow.holds Tryz.pinned (OpenSpec.ofChange formulaMatchesReferenceSpec)

/-- ITS FALSE NEIGHBOUR: 'it returns false'. Refute it at one input. -/
def formulaMatchesReferenceWrong : ChangeSpec := { name := "formulaMatchesReference", fn := fun _ => fun
  | [d1, d2, d3] => { results := [.lit (.bool false)], args := [d1, d2, d3] }
  | _ => none }
def FormulaMatchesReferenceWrongFalsely : Prop := formulaMatchesReferenceRow.holds Tryz.pinned (OpenSpec.ofChange formulaMatchesReferenceWrong)

/-- 'foresightlaw03.FormulaOrder': WHATEVER THE INPUT: true; the input reads as it did. -/
def formulaOrderSpec : ChangeSpec := { name := "formulaOrder", fn := fun _ => fun
  | [d1, d2, d3] => { results := [.lit (.bool true)], args := [d1, d2, d3] }
  | _ => none }
def formulaOrderRow : OpenClaim := { program := "ytbnnjbfbifihaaagreatdoor", sum := "3fe9016603a408f5a7045e1713a5ff55f8148de24f71f498604fcd1f8bc7fbcf", func := "foresight/foresightlaw03.FormulaOrder", spec := "formulaOrder", unfollowed := true, recurses := true, named := ["foresight/formula.forms"], loops := true, apart := false, laid := [("foresight/formula.forms", laid_foresight_formula_forms)] }
def FormulaOrderSaid : Prop := formulaOrderRow.holds Tryz.pinned (OpenSpec.ofChange formulaOrderSpec)

/-- ITS FALSE NEIGHBOUR: 'it returns false'. Refute it at one input. -/
def formulaOrderWrong : ChangeSpec := { name := "formulaOrder", fn := fun _ => fun
  | [d1, d2, d3] => { results := [.lit (.bool false)], args := [d1, d2, d3] }
  | _ => none }
def FormulaOrderWrongFalsely : Prop := formulaOrderRow.holds Tryz.pinned (OpenSpec.ofChange formulaOrderWrong)

/-- 'foresightlaw03.FormulaParts': WHATEVER THE INPUT: true; the input reads as it did. -/
def formulaPartsSpec : ChangeSpec := { name := "formulaParts", fn := fun _ => fun
  | [d1, d2] => { results := [.lit (.bool true)], args := [d1, d2] }
  | _ => none }
def formulaPartsRow : OpenClaim := { program := "ytbnnjbfbifihaaagreatdoor", sum := "3fe9016603a408f5a7045e1713a5ff55f8148de24f71f498604fcd1f8bc7fbcf", func := "foresight/foresightlaw03.FormulaParts", spec := "formulaParts", unfollowed := true, recurses := true, named := ["foresight/formula.forms"], loops := true, apart := false, laid := [("foresight/formula.forms", laid_foresight_formula_forms)] }
def FormulaPartsSaid : Prop := formulaPartsRow.holds Tryz.pinned (OpenSpec.ofChange formulaPartsSpec)

/-- ITS FALSE NEIGHBOUR: 'it returns false'. Refute it at one input. -/
def formulaPartsWrong : ChangeSpec := { name := "formulaParts", fn := fun _ => fun
  | [d1, d2] => { results := [.lit (.bool false)], args := [d1, d2] }
  | _ => none }
def FormulaPartsWrongFalsely : Prop := formulaPartsRow.holds Tryz.pinned (OpenSpec.ofChange formulaPartsWrong)

/-- 'foresightlaw03.FormulaKernels': WHATEVER THE INPUT: true; the input reads as it did. -/
def formulaKernelsSpec : ChangeSpec := { name := "formulaKernels", fn := fun _ => fun
  | [d] => { results := [.lit (.bool true)], args := [d] }
  | _ => none }
def formulaKernelsRow : OpenClaim := { program := "ytbnnjbfbifihaaagreatdoor", sum := "3fe9016603a408f5a7045e1713a5ff55f8148de24f71f498604fcd1f8bc7fbcf", func := "foresight/foresightlaw03.FormulaKernels", spec := "formulaKernels", unfollowed := true, recurses := true, named := ["foresight/formula.forms"], loops := true, apart := false, laid := [("foresight/formula.forms", laid_foresight_formula_forms)] }
def FormulaKernelsSaid : Prop := formulaKernelsRow.holds Tryz.pinned (OpenSpec.ofChange formulaKernelsSpec)

/-- ITS FALSE NEIGHBOUR: 'it returns false'. Refute it at one input. -/
def formulaKernelsWrong : ChangeSpec := { name := "formulaKernels", fn := fun _ => fun
  | [d] => { results := [.lit (.bool false)], args := [d] }
  | _ => none }
def FormulaKernelsWrongFalsely : Prop := formulaKernelsRow.holds Tryz.pinned (OpenSpec.ofChange formulaKernelsWrong)

/-- 'foresightlaw03.FormulaNegation': WHATEVER THE INPUT: true; the input reads as it did. -/
def formulaNegationSpec : ChangeSpec := { name := "formulaNegation", fn := fun _ => fun
  | [d] => { results := [.lit (.bool true)], args := [d] }
  | _ => none }
def formulaNegationRow : OpenClaim := { program := "ytbnnjbfbifihaaagreatdoor", sum := "3fe9016603a408f5a7045e1713a5ff55f8148de24f71f498604fcd1f8bc7fbcf", func := "foresight/foresightlaw03.FormulaNegation", spec := "formulaNegation", unfollowed := true, recurses := true, named := ["foresight/formula.forms"], loops := true, apart := false, laid := [("foresight/formula.forms", laid_foresight_formula_forms)] }
def FormulaNegationSaid : Prop := formulaNegationRow.holds Tryz.pinned (OpenSpec.ofChange formulaNegationSpec)

/-- ITS FALSE NEIGHBOUR: 'it returns false'. Refute it at one input. -/
def formulaNegationWrong : ChangeSpec := { name := "formulaNegation", fn := fun _ => fun
  | [d] => { results := [.lit (.bool false)], args := [d] }
  | _ => none }
def FormulaNegationWrongFalsely : Prop := formulaNegationRow.holds Tryz.pinned (OpenSpec.ofChange formulaNegationWrong)

/-- 'foresightlaw03.FormulaExpansion': WHATEVER THE INPUT: true; the input reads as it did. -/
def formulaExpansionSpec : ChangeSpec := { name := "formulaExpansion", fn := fun _ => fun
  | [d1, d2, d3] => { results := [.lit (.bool true)], args := [d1, d2, d3] }
  | _ => none }
def formulaExpansionRow : OpenClaim := { program := "ytbnnjbfbifihaaagreatdoor", sum := "3fe9016603a408f5a7045e1713a5ff55f8148de24f71f498604fcd1f8bc7fbcf", func := "foresight/foresightlaw03.FormulaExpansion", spec := "formulaExpansion", unfollowed := true, recurses := true, named := ["foresight/formula.forms"], loops := true, apart := false, laid := [("foresight/formula.forms", laid_foresight_formula_forms)] }
def FormulaExpansionSaid : Prop := formulaExpansionRow.holds Tryz.pinned (OpenSpec.ofChange formulaExpansionSpec)

/-- ITS FALSE NEIGHBOUR: 'it returns false'. Refute it at one input. -/
def formulaExpansionWrong : ChangeSpec := { name := "formulaExpansion", fn := fun _ => fun
  | [d1, d2, d3] => { results := [.lit (.bool false)], args := [d1, d2, d3] }
  | _ => none }
def FormulaExpansionWrongFalsely : Prop := formulaExpansionRow.holds Tryz.pinned (OpenSpec.ofChange formulaExpansionWrong)

/-- 'foresightlaw03.FormulaCanon': WHATEVER THE INPUT: true; the input reads as it did. -/
def formulaCanonSpec : ChangeSpec := { name := "formulaCanon", fn := fun _ => fun
  | [d] => { results := [.lit (.bool true)], args := [d] }
  | _ => none }
def formulaCanonRow : OpenClaim := { program := "ytbnnjbfbifihaaagreatdoor", sum := "3fe9016603a408f5a7045e1713a5ff55f8148de24f71f498604fcd1f8bc7fbcf", func := "foresight/foresightlaw03.FormulaCanon", spec := "formulaCanon", unfollowed := true, recurses := true, named := ["foresight/formula.forms"], loops := true, apart := false, laid := [("foresight/formula.forms", laid_foresight_formula_forms)] }
def FormulaCanonSaid : Prop := formulaCanonRow.holds Tryz.pinned (OpenSpec.ofChange formulaCanonSpec)

/-- ITS FALSE NEIGHBOUR: 'it returns false'. Refute it at one input. -/
def formulaCanonWrong : ChangeSpec := { name := "formulaCanon", fn := fun _ => fun
  | [d] => { results := [.lit (.bool false)], args := [d] }
  | _ => none }
def FormulaCanonWrongFalsely : Prop := formulaCanonRow.holds Tryz.pinned (OpenSpec.ofChange formulaCanonWrong)

/-- 'foresightlaw03.FormulaLattice': WHATEVER THE INPUT: true; the input reads as it did. -/
def formulaLatticeSpec : ChangeSpec := { name := "formulaLattice", fn := fun _ => fun
  | [d1, d2, d3] => { results := [.lit (.bool true)], args := [d1, d2, d3] }
  | _ => none }
def formulaLatticeRow : OpenClaim := { program := "ytbnnjbfbifihaaagreatdoor", sum := "3fe9016603a408f5a7045e1713a5ff55f8148de24f71f498604fcd1f8bc7fbcf", func := "foresight/foresightlaw03.FormulaLattice", spec := "formulaLattice", unfollowed := true, recurses := true, named := ["foresight/formula.forms"], loops := true, apart := false, laid := [("foresight/formula.forms", laid_foresight_formula_forms)] }
def FormulaLatticeSaid : Prop := formulaLatticeRow.holds Tryz.pinned (OpenSpec.ofChange formulaLatticeSpec)

/-- ITS FALSE NEIGHBOUR: 'it returns false'. Refute it at one input. -/
def formulaLatticeWrong : ChangeSpec := { name := "formulaLattice", fn := fun _ => fun
  | [d1, d2, d3] => { results := [.lit (.bool false)], args := [d1, d2, d3] }
  | _ => none }
def FormulaLatticeWrongFalsely : Prop := formulaLatticeRow.holds Tryz.pinned (OpenSpec.ofChange formulaLatticeWrong)

/-- 'foresightlaw03.FormulaDuality': WHATEVER THE INPUT: true; the input reads as it did. -/
def formulaDualitySpec : ChangeSpec := { name := "formulaDuality", fn := fun _ => fun
  | [d1, d2] => { results := [.lit (.bool true)], args := [d1, d2] }
  | _ => none }
def formulaDualityRow : OpenClaim := { program := "ytbnnjbfbifihaaagreatdoor", sum := "3fe9016603a408f5a7045e1713a5ff55f8148de24f71f498604fcd1f8bc7fbcf", func := "foresight/foresightlaw03.FormulaDuality", spec := "formulaDuality", unfollowed := true, recurses := true, named := ["foresight/formula.forms"], loops := true, apart := false, laid := [("foresight/formula.forms", laid_foresight_formula_forms)] }
def FormulaDualitySaid : Prop := formulaDualityRow.holds Tryz.pinned (OpenSpec.ofChange formulaDualitySpec)

/-- ITS FALSE NEIGHBOUR: 'it returns false'. Refute it at one input. -/
def formulaDualityWrong : ChangeSpec := { name := "formulaDuality", fn := fun _ => fun
  | [d1, d2] => { results := [.lit (.bool false)], args := [d1, d2] }
  | _ => none }
def FormulaDualityWrongFalsely : Prop := formulaDualityRow.holds Tryz.pinned (OpenSpec.ofChange formulaDualityWrong)

/- THE SECOND FORM. 'bulk': how many values and letters a reading holds, each counted each time it is reached (what is shared counts as often as it is met; a slice's spare places count too). A statement '..UptoSaid' is the law's where the arguments, and the package variables that the reading takes, are together of bulk at most 1048576: NARROWER than '..Said'. Prove '..Said' where nothing that the law and all that it calls make is longer than what came in: it says more and counts as full. Else prove '..UptoSaid'. A law counts once. -/
mutual
def uptoBulk {H : Type} : DataW H → Nat
  | .lit (.string bytes) => bytes.length + 1
  | .lit _ => 1
  | .nil => 1
  | .ptr d => uptoBulk d + 1
  | .slice elems spare => uptoBulkAll elems + uptoBulkAll spare + 1
  | .agg parts => uptoBulkAll parts + 1
  | .iface _ d => uptoBulk d + 1
  | .map entries => uptoBulkEntries entries + 1
  | .held _ => 1
def uptoBulkAll {H : Type} : List (DataW H) → Nat
  | [] => 0
  | d :: r => uptoBulk d + uptoBulkAll r
def uptoBulkEntries {H : Type} : List (Lit × DataW H) → Nat
  | [] => 0
  | x :: r => uptoBulkEntry x + uptoBulkEntries r
def uptoBulkEntry {H : Type} : Lit × DataW H → Nat
  | (.string bytes, d) => bytes.length + uptoBulk d + 1
  | (_, d) => uptoBulk d + 1
 end
def uptoSmall : (H : Type) → List (DataW H) → Bool := fun _ ds => decide (uptoBulkAll ds ≤ 1048576)
def OpenSpec.upto (s : _root_.Go.ChangeSpec) : _root_.Go.OpenSpec := { _root_.Go.OpenSpec.ofChange s with cond := some uptoSmall }

/-- 'foresightlaw03.FormulaMatchesReference', WHERE WHAT IT READS IS OF BULK AT MOST 1048576: true; the input reads as it did. -/
def formulaMatchesReferenceUptoRow : OpenClaim := { program := "ytbnnjbfbifihaaagreatdoor", sum := "3fe9016603a408f5a7045e1713a5ff55f8148de24f71f498604fcd1f8bc7fbcf", func := "foresight/foresightlaw03.FormulaMatchesReference", spec := "formulaMatchesReference", unfollowed := true, recurses := true, named := ["foresight/formula.forms"], loops := true, apart := false, laid := [("foresight/formula.forms", laid_foresight_formula_forms)], narrowed := true }
def FormulaMatchesReferenceUptoSaid : Prop := formulaMatchesReferenceUptoRow.holds Tryz.pinned (OpenSpec.upto formulaMatchesReferenceSpec)

/-- 'foresightlaw03.FormulaOrder', WHERE WHAT IT READS IS OF BULK AT MOST 1048576: true; the input reads as it did. -/
def formulaOrderUptoRow : OpenClaim := { program := "ytbnnjbfbifihaaagreatdoor", sum := "3fe9016603a408f5a7045e1713a5ff55f8148de24f71f498604fcd1f8bc7fbcf", func := "foresight/foresightlaw03.FormulaOrder", spec := "formulaOrder", unfollowed := true, recurses := true, named := ["foresight/formula.forms"], loops := true, apart := false, laid := [("foresight/formula.forms", laid_foresight_formula_forms)], narrowed := true }
def FormulaOrderUptoSaid : Prop := formulaOrderUptoRow.holds Tryz.pinned (OpenSpec.upto formulaOrderSpec)

/-- 'foresightlaw03.FormulaParts', WHERE WHAT IT READS IS OF BULK AT MOST 1048576: true; the input reads as it did. -/
def formulaPartsUptoRow : OpenClaim := { program := "ytbnnjbfbifihaaagreatdoor", sum := "3fe9016603a408f5a7045e1713a5ff55f8148de24f71f498604fcd1f8bc7fbcf", func := "foresight/foresightlaw03.FormulaParts", spec := "formulaParts", unfollowed := true, recurses := true, named := ["foresight/formula.forms"], loops := true, apart := false, laid := [("foresight/formula.forms", laid_foresight_formula_forms)], narrowed := true }
def FormulaPartsUptoSaid : Prop := formulaPartsUptoRow.holds Tryz.pinned (OpenSpec.upto formulaPartsSpec)

/-- 'foresightlaw03.FormulaKernels', WHERE WHAT IT READS IS OF BULK AT MOST 1048576: true; the input reads as it did. -/
def formulaKernelsUptoRow : OpenClaim := { program := "ytbnnjbfbifihaaagreatdoor", sum := "3fe9016603a408f5a7045e1713a5ff55f8148de24f71f498604fcd1f8bc7fbcf", func := "foresight/foresightlaw03.FormulaKernels", spec := "formulaKernels", unfollowed := true, recurses := true, named := ["foresight/formula.forms"], loops := true, apart := false, laid := [("foresight/formula.forms", laid_foresight_formula_forms)], narrowed := true }
def FormulaKernelsUptoSaid : Prop := formulaKernelsUptoRow.holds Tryz.pinned (OpenSpec.upto formulaKernelsSpec)

/-- 'foresightlaw03.FormulaNegation', WHERE WHAT IT READS IS OF BULK AT MOST 1048576: true; the input reads as it did. -/
def formulaNegationUptoRow : OpenClaim := { program := "ytbnnjbfbifihaaagreatdoor", sum := "3fe9016603a408f5a7045e1713a5ff55f8148de24f71f498604fcd1f8bc7fbcf", func := "foresight/foresightlaw03.FormulaNegation", spec := "formulaNegation", unfollowed := true, recurses := true, named := ["foresight/formula.forms"], loops := true, apart := false, laid := [("foresight/formula.forms", laid_foresight_formula_forms)], narrowed := true }
def FormulaNegationUptoSaid : Prop := formulaNegationUptoRow.holds Tryz.pinned (OpenSpec.upto formulaNegationSpec)

/-- 'foresightlaw03.FormulaExpansion', WHERE WHAT IT READS IS OF BULK AT MOST 1048576: true; the input reads as it did. -/
def formulaExpansionUptoRow : OpenClaim := { program := "ytbnnjbfbifihaaagreatdoor", sum := "3fe9016603a408f5a7045e1713a5ff55f8148de24f71f498604fcd1f8bc7fbcf", func := "foresight/foresightlaw03.FormulaExpansion", spec := "formulaExpansion", unfollowed := true, recurses := true, named := ["foresight/formula.forms"], loops := true, apart := false, laid := [("foresight/formula.forms", laid_foresight_formula_forms)], narrowed := true }
def FormulaExpansionUptoSaid : Prop := formulaExpansionUptoRow.holds Tryz.pinned (OpenSpec.upto formulaExpansionSpec)

/-- 'foresightlaw03.FormulaCanon', WHERE WHAT IT READS IS OF BULK AT MOST 1048576: true; the input reads as it did. -/
def formulaCanonUptoRow : OpenClaim := { program := "ytbnnjbfbifihaaagreatdoor", sum := "3fe9016603a408f5a7045e1713a5ff55f8148de24f71f498604fcd1f8bc7fbcf", func := "foresight/foresightlaw03.FormulaCanon", spec := "formulaCanon", unfollowed := true, recurses := true, named := ["foresight/formula.forms"], loops := true, apart := false, laid := [("foresight/formula.forms", laid_foresight_formula_forms)], narrowed := true }
def FormulaCanonUptoSaid : Prop := formulaCanonUptoRow.holds Tryz.pinned (OpenSpec.upto formulaCanonSpec)

/-- 'foresightlaw03.FormulaLattice', WHERE WHAT IT READS IS OF BULK AT MOST 1048576: true; the input reads as it did. -/
def formulaLatticeUptoRow : OpenClaim := { program := "ytbnnjbfbifihaaagreatdoor", sum := "3fe9016603a408f5a7045e1713a5ff55f8148de24f71f498604fcd1f8bc7fbcf", func := "foresight/foresightlaw03.FormulaLattice", spec := "formulaLattice", unfollowed := true, recurses := true, named := ["foresight/formula.forms"], loops := true, apart := false, laid := [("foresight/formula.forms", laid_foresight_formula_forms)], narrowed := true }
def FormulaLatticeUptoSaid : Prop := formulaLatticeUptoRow.holds Tryz.pinned (OpenSpec.upto formulaLatticeSpec)

/-- 'foresightlaw03.FormulaDuality', WHERE WHAT IT READS IS OF BULK AT MOST 1048576: true; the input reads as it did. -/
def formulaDualityUptoRow : OpenClaim := { program := "ytbnnjbfbifihaaagreatdoor", sum := "3fe9016603a408f5a7045e1713a5ff55f8148de24f71f498604fcd1f8bc7fbcf", func := "foresight/foresightlaw03.FormulaDuality", spec := "formulaDuality", unfollowed := true, recurses := true, named := ["foresight/formula.forms"], loops := true, apart := false, laid := [("foresight/formula.forms", laid_foresight_formula_forms)], narrowed := true }
def FormulaDualityUptoSaid : Prop := formulaDualityUptoRow.holds Tryz.pinned (OpenSpec.upto formulaDualitySpec)

end Rows
end Go.Proofs.YtbnnjbfbifihaaaGreatDoor
