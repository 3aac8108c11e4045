/-
  DERIVED. GIVEN WITH THE SEED: THE CARDS: each row of YtdamddfhflhfbaaDoorRows.lean that lists a variable, with what it lists TIED to the program's text (the seventh form; the later family's looks); each row that meets fmt, with fmt's text TOLD by the authors' own Lean function (tested against real Go, not proved from fmt's source: count such statements apart). THE CARD IS WHAT COUNTS. Prove the row's statement (the work); the ties are given (YtdamddfhflhfbaaDoorTie.lean); close each card by the builder's one call (the guide's Derived/Test/ToyasCard.lean, 'card_holds'). Laid BY PROGRAM, IN A SANDBOX (cutbox-door.mjs). By AI agents, Wed Nov 11 2026. No macro, syntax, notation, axiom, sorry.
-/
import Derived.Test.YtdamddfhflhfbaaDoorRows
import GoSem.ClaimSeven
namespace Go.Proofs.YtdamddfhflhfbaaDoor
namespace Rows

/-- THE TIED CARD OF 'laws.FnExactSliceList'. -/
def fnExactSliceListCard : Claim7 := { stood := { row := fnExactSliceListRow, standIns := [], harness := (true, "d474565968cf35167ebe04a535e5104e8aefcdda047951601308bd8882e6346c"), looks := true }, kinds := [], alts := [], laidByText := true, laidKinds := [.sentinel, .sentinel, .sentinel], laidTests := true, laidLooks := .later }
def FnExactSliceListCardSaid : Prop := Claim7.holds Tryd.pinned (.plain (OpenSpec.ofChange fnExactSliceListSpec)) fnExactSliceListCard

/-- THE TIED CARD OF 'laws.FnExactTextFind'. -/
def fnExactTextFindCard : Claim7 := { stood := { row := fnExactTextFindRow, standIns := [], harness := (true, "d474565968cf35167ebe04a535e5104e8aefcdda047951601308bd8882e6346c"), looks := true }, kinds := [], alts := [], laidByText := true, laidKinds := [.data, .pinned], laidTests := true, laidLooks := .later }
def FnExactTextFindCardSaid : Prop := Claim7.holds Tryd.pinned (.plain (OpenSpec.ofChange fnExactTextFindSpec)) fnExactTextFindCard

/-- THE TIED CARD OF 'laws.FnExactTextRepr'. -/
def fnExactTextReprCard : Claim7 := { stood := { row := fnExactTextReprRow, standIns := [], harness := (true, "d474565968cf35167ebe04a535e5104e8aefcdda047951601308bd8882e6346c"), looks := true }, kinds := [], alts := [], laidByText := true, laidKinds := [.data, .pinned], laidTests := true, laidLooks := .later }
def FnExactTextReprCardSaid : Prop := Claim7.holds Tryd.pinned (.plain (OpenSpec.ofChange fnExactTextReprSpec)) fnExactTextReprCard

/-- THE TIED CARD OF 'laws.FnExactStrValue'. -/
def fnExactStrValueCard : Claim7 := { stood := { row := fnExactStrValueRow, standIns := [], harness := (true, "d474565968cf35167ebe04a535e5104e8aefcdda047951601308bd8882e6346c"), looks := true }, kinds := [], alts := [], laidByText := true, laidKinds := [.data, .data, .data, .data, .sentinel, .sentinel, .pinned], laidTests := true, laidLooks := .later }
def FnExactStrValueCardSaid : Prop := Claim7.holds Tryd.pinned (.plain (OpenSpec.ofChange fnExactStrValueSpec)) fnExactStrValueCard

/-- THE TIED CARD OF 'laws.FnExactTextSplit'. -/
def fnExactTextSplitCard : Claim7 := { stood := { row := fnExactTextSplitRow, standIns := [], harness := (true, "d474565968cf35167ebe04a535e5104e8aefcdda047951601308bd8882e6346c"), looks := true }, kinds := [], alts := [], laidByText := true, laidKinds := [.data, .pinned], laidTests := true, laidLooks := .later }
def FnExactTextSplitCardSaid : Prop := Claim7.holds Tryd.pinned (.plain (OpenSpec.ofChange fnExactTextSplitSpec)) fnExactTextSplitCard

/-- THE TIED CARD OF 'laws.FnExactTextStrip'. -/
def fnExactTextStripCard : Claim7 := { stood := { row := fnExactTextStripRow, standIns := [], harness := (true, "d474565968cf35167ebe04a535e5104e8aefcdda047951601308bd8882e6346c"), looks := true }, kinds := [], alts := [], laidByText := true, laidKinds := [.data, .pinned], laidTests := true, laidLooks := .later }
def FnExactTextStripCardSaid : Prop := Claim7.holds Tryd.pinned (.plain (OpenSpec.ofChange fnExactTextStripSpec)) fnExactTextStripCard

/-- THE TIED CARD OF 'laws.FnExactTextWords'. -/
def fnExactTextWordsCard : Claim7 := { stood := { row := fnExactTextWordsRow, standIns := [], harness := (true, "d474565968cf35167ebe04a535e5104e8aefcdda047951601308bd8882e6346c"), looks := true }, kinds := [], alts := [], laidByText := true, laidKinds := [.data, .pinned], laidTests := true, laidLooks := .later }
def FnExactTextWordsCardSaid : Prop := Claim7.holds Tryd.pinned (.plain (OpenSpec.ofChange fnExactTextWordsSpec)) fnExactTextWordsCard

/-- THE TIED CARD OF 'laws.FnExactTextTimes'. -/
def fnExactTextTimesCard : Claim7 := { stood := { row := fnExactTextTimesRow, standIns := [], harness := (true, "d474565968cf35167ebe04a535e5104e8aefcdda047951601308bd8882e6346c"), looks := true }, kinds := [], alts := [], laidByText := true, laidKinds := [.data, .sentinel, .sentinel, .sentinel, .pinned], laidTests := true, laidLooks := .later }
def FnExactTextTimesCardSaid : Prop := Claim7.holds Tryd.pinned (.plain (OpenSpec.ofChange fnExactTextTimesSpec)) fnExactTextTimesCard

/-- THE TIED CARD OF 'laws.FnExactTextCut'. -/
def fnExactTextCutCard : Claim7 := { stood := { row := fnExactTextCutRow, standIns := [], harness := (true, "d474565968cf35167ebe04a535e5104e8aefcdda047951601308bd8882e6346c"), looks := true }, kinds := [], alts := [], laidByText := true, laidKinds := [.data, .sentinel, .sentinel, .sentinel, .pinned], laidTests := true, laidLooks := .later }
def FnExactTextCutCardSaid : Prop := Claim7.holds Tryd.pinned (.plain (OpenSpec.ofChange fnExactTextCutSpec)) fnExactTextCutCard

/-- THE SECOND FORM's CARD OF 'laws.FnExactSliceList'. -/
def fnExactSliceListUptoCard : Claim7 := { stood := { row := fnExactSliceListUptoRow, standIns := [], harness := (true, "d474565968cf35167ebe04a535e5104e8aefcdda047951601308bd8882e6346c"), looks := true }, kinds := [], alts := [], laidByText := true, laidKinds := [.sentinel, .sentinel, .sentinel], laidTests := true, laidLooks := .later }
def FnExactSliceListUptoCardSaid : Prop := Claim7.holds Tryd.pinned (.plain (OpenSpec.upto fnExactSliceListSpec)) fnExactSliceListUptoCard

/-- THE SECOND FORM's CARD OF 'laws.FnExactTextFind'. -/
def fnExactTextFindUptoCard : Claim7 := { stood := { row := fnExactTextFindUptoRow, standIns := [], harness := (true, "d474565968cf35167ebe04a535e5104e8aefcdda047951601308bd8882e6346c"), looks := true }, kinds := [], alts := [], laidByText := true, laidKinds := [.data, .pinned], laidTests := true, laidLooks := .later }
def FnExactTextFindUptoCardSaid : Prop := Claim7.holds Tryd.pinned (.plain (OpenSpec.upto fnExactTextFindSpec)) fnExactTextFindUptoCard

/-- THE SECOND FORM's CARD OF 'laws.FnExactTextRepr'. -/
def fnExactTextReprUptoCard : Claim7 := { stood := { row := fnExactTextReprUptoRow, standIns := [], harness := (true, "d474565968cf35167ebe04a535e5104e8aefcdda047951601308bd8882e6346c"), looks := true }, kinds := [], alts := [], laidByText := true, laidKinds := [.data, .pinned], laidTests := true, laidLooks := .later }
def FnExactTextReprUptoCardSaid : Prop := Claim7.holds Tryd.pinned (.plain (OpenSpec.upto fnExactTextReprSpec)) fnExactTextReprUptoCard

/-- THE SECOND FORM's CARD OF 'laws.FnExactStrValue'. -/
def fnExactStrValueUptoCard : Claim7 := { stood := { row := fnExactStrValueUptoRow, standIns := [], harness := (true, "d474565968cf35167ebe04a535e5104e8aefcdda047951601308bd8882e6346c"), looks := true }, kinds := [], alts := [], laidByText := true, laidKinds := [.data, .data, .data, .data, .sentinel, .sentinel, .pinned], laidTests := true, laidLooks := .later }
def FnExactStrValueUptoCardSaid : Prop := Claim7.holds Tryd.pinned (.plain (OpenSpec.upto fnExactStrValueSpec)) fnExactStrValueUptoCard

/-- THE SECOND FORM's CARD OF 'laws.FnExactTextSplit'. -/
def fnExactTextSplitUptoCard : Claim7 := { stood := { row := fnExactTextSplitUptoRow, standIns := [], harness := (true, "d474565968cf35167ebe04a535e5104e8aefcdda047951601308bd8882e6346c"), looks := true }, kinds := [], alts := [], laidByText := true, laidKinds := [.data, .pinned], laidTests := true, laidLooks := .later }
def FnExactTextSplitUptoCardSaid : Prop := Claim7.holds Tryd.pinned (.plain (OpenSpec.upto fnExactTextSplitSpec)) fnExactTextSplitUptoCard

/-- THE SECOND FORM's CARD OF 'laws.FnExactTextStrip'. -/
def fnExactTextStripUptoCard : Claim7 := { stood := { row := fnExactTextStripUptoRow, standIns := [], harness := (true, "d474565968cf35167ebe04a535e5104e8aefcdda047951601308bd8882e6346c"), looks := true }, kinds := [], alts := [], laidByText := true, laidKinds := [.data, .pinned], laidTests := true, laidLooks := .later }
def FnExactTextStripUptoCardSaid : Prop := Claim7.holds Tryd.pinned (.plain (OpenSpec.upto fnExactTextStripSpec)) fnExactTextStripUptoCard

/-- THE SECOND FORM's CARD OF 'laws.FnExactTextWords'. -/
def fnExactTextWordsUptoCard : Claim7 := { stood := { row := fnExactTextWordsUptoRow, standIns := [], harness := (true, "d474565968cf35167ebe04a535e5104e8aefcdda047951601308bd8882e6346c"), looks := true }, kinds := [], alts := [], laidByText := true, laidKinds := [.data, .pinned], laidTests := true, laidLooks := .later }
def FnExactTextWordsUptoCardSaid : Prop := Claim7.holds Tryd.pinned (.plain (OpenSpec.upto fnExactTextWordsSpec)) fnExactTextWordsUptoCard

/-- THE SECOND FORM's CARD OF 'laws.FnExactTextTimes'. -/
def fnExactTextTimesUptoCard : Claim7 := { stood := { row := fnExactTextTimesUptoRow, standIns := [], harness := (true, "d474565968cf35167ebe04a535e5104e8aefcdda047951601308bd8882e6346c"), looks := true }, kinds := [], alts := [], laidByText := true, laidKinds := [.data, .sentinel, .sentinel, .sentinel, .pinned], laidTests := true, laidLooks := .later }
def FnExactTextTimesUptoCardSaid : Prop := Claim7.holds Tryd.pinned (.plain (OpenSpec.upto fnExactTextTimesSpec)) fnExactTextTimesUptoCard

/-- THE SECOND FORM's CARD OF 'laws.FnExactTextCut'. -/
def fnExactTextCutUptoCard : Claim7 := { stood := { row := fnExactTextCutUptoRow, standIns := [], harness := (true, "d474565968cf35167ebe04a535e5104e8aefcdda047951601308bd8882e6346c"), looks := true }, kinds := [], alts := [], laidByText := true, laidKinds := [.data, .sentinel, .sentinel, .sentinel, .pinned], laidTests := true, laidLooks := .later }
def FnExactTextCutUptoCardSaid : Prop := Claim7.holds Tryd.pinned (.plain (OpenSpec.upto fnExactTextCutSpec)) fnExactTextCutUptoCard
end Rows
end Go.Proofs.YtdamddfhflhfbaaDoor
