/-
  DERIVED. GIVEN WITH THE SEED: THE CARDS: each row of YtakbmjndhejfpaaDoorRows.lean that lists a variable, with what it lists TIED to the program's text (the seventh form; the later family's looks); each row that meets fmt, with fmt's text TOLD by the authors' own Lean function (tested against real Go, not proved from fmt's source: count such statements apart). THE CARD IS WHAT COUNTS. Prove the row's statement (the work); the ties are given (YtakbmjndhejfpaaDoorTie.lean); close each card by the builder's one call (the guide's Derived/Test/ToyasCard.lean, 'card_holds'). Laid BY PROGRAM, IN A SANDBOX (cutbox-door.mjs). By AI agents, Wed Nov 11 2026. No macro, syntax, notation, axiom, sorry.
-/
import Derived.Test.YtakbmjndhejfpaaDoorRows
import GoSem.ClaimSeven
namespace Go.Proofs.YtakbmjndhejfpaaDoor
namespace Rows

/-- THE TIED CARD OF 'laws.FnExactTextJoin'. -/
def fnExactTextJoinCard : Claim7 := { stood := { row := fnExactTextJoinRow, standIns := [], harness := (true, "bc1b962296fc971a8917e2e82934ade982bfe9c245d51b1b75851f2328d4868a"), looks := true }, kinds := [], alts := [], laidByText := true, laidKinds := [.data, .sentinel, .sentinel, .sentinel, .pinned], laidTests := true, laidLooks := .later }
def FnExactTextJoinCardSaid : Prop := Claim7.holds Tryd.pinned (.plain (OpenSpec.ofChange fnExactTextJoinSpec)) fnExactTextJoinCard

/-- THE TIED CARD OF 'laws.FnExactTextReplace'. -/
def fnExactTextReplaceCard : Claim7 := { stood := { row := fnExactTextReplaceRow, standIns := [], harness := (true, "bc1b962296fc971a8917e2e82934ade982bfe9c245d51b1b75851f2328d4868a"), looks := true }, kinds := [], alts := [], laidByText := true, laidKinds := [.data, .sentinel, .sentinel, .sentinel, .pinned], laidTests := true, laidLooks := .later }
def FnExactTextReplaceCardSaid : Prop := Claim7.holds Tryd.pinned (.plain (OpenSpec.ofChange fnExactTextReplaceSpec)) fnExactTextReplaceCard

/-- THE TIED CARD OF 'laws.FnExactTextStrip'. -/
def fnExactTextStripCard : Claim7 := { stood := { row := fnExactTextStripRow, standIns := [], harness := (true, "bc1b962296fc971a8917e2e82934ade982bfe9c245d51b1b75851f2328d4868a"), looks := true }, kinds := [], alts := [], laidByText := true, laidKinds := [.data, .pinned], laidTests := true, laidLooks := .later }
def FnExactTextStripCardSaid : Prop := Claim7.holds Tryd.pinned (.plain (OpenSpec.ofChange fnExactTextStripSpec)) fnExactTextStripCard

/-- THE TIED CARD OF 'laws.FnExactStrValue'. -/
def fnExactStrValueCard : Claim7 := { stood := { row := fnExactStrValueRow, standIns := [], harness := (true, "bc1b962296fc971a8917e2e82934ade982bfe9c245d51b1b75851f2328d4868a"), looks := true }, kinds := [], alts := [], laidByText := true, laidKinds := [.data, .data, .data, .data, .sentinel, .sentinel, .pinned], laidTests := true, laidLooks := .later }
def FnExactStrValueCardSaid : Prop := Claim7.holds Tryd.pinned (.plain (OpenSpec.ofChange fnExactStrValueSpec)) fnExactStrValueCard

/-- THE TIED CARD OF 'laws.FnExactTextSplit'. -/
def fnExactTextSplitCard : Claim7 := { stood := { row := fnExactTextSplitRow, standIns := [], harness := (true, "bc1b962296fc971a8917e2e82934ade982bfe9c245d51b1b75851f2328d4868a"), looks := true }, kinds := [], alts := [], laidByText := true, laidKinds := [.data, .pinned], laidTests := true, laidLooks := .later }
def FnExactTextSplitCardSaid : Prop := Claim7.holds Tryd.pinned (.plain (OpenSpec.ofChange fnExactTextSplitSpec)) fnExactTextSplitCard

/-- THE TIED CARD OF 'laws.FnExactTextTimes'. -/
def fnExactTextTimesCard : Claim7 := { stood := { row := fnExactTextTimesRow, standIns := [], harness := (true, "bc1b962296fc971a8917e2e82934ade982bfe9c245d51b1b75851f2328d4868a"), looks := true }, kinds := [], alts := [], laidByText := true, laidKinds := [.data, .sentinel, .sentinel, .sentinel, .pinned], laidTests := true, laidLooks := .later }
def FnExactTextTimesCardSaid : Prop := Claim7.holds Tryd.pinned (.plain (OpenSpec.ofChange fnExactTextTimesSpec)) fnExactTextTimesCard

/-- THE TIED CARD OF 'laws.FnExactTextRepr'. -/
def fnExactTextReprCard : Claim7 := { stood := { row := fnExactTextReprRow, standIns := [], harness := (true, "bc1b962296fc971a8917e2e82934ade982bfe9c245d51b1b75851f2328d4868a"), looks := true }, kinds := [], alts := [], laidByText := true, laidKinds := [.data, .pinned], laidTests := true, laidLooks := .later }
def FnExactTextReprCardSaid : Prop := Claim7.holds Tryd.pinned (.plain (OpenSpec.ofChange fnExactTextReprSpec)) fnExactTextReprCard

/-- THE SECOND FORM's CARD OF 'laws.FnExactTextJoin'. -/
def fnExactTextJoinUptoCard : Claim7 := { stood := { row := fnExactTextJoinUptoRow, standIns := [], harness := (true, "bc1b962296fc971a8917e2e82934ade982bfe9c245d51b1b75851f2328d4868a"), looks := true }, kinds := [], alts := [], laidByText := true, laidKinds := [.data, .sentinel, .sentinel, .sentinel, .pinned], laidTests := true, laidLooks := .later }
def FnExactTextJoinUptoCardSaid : Prop := Claim7.holds Tryd.pinned (.plain (OpenSpec.upto fnExactTextJoinSpec)) fnExactTextJoinUptoCard

/-- THE SECOND FORM's CARD OF 'laws.FnExactTextReplace'. -/
def fnExactTextReplaceUptoCard : Claim7 := { stood := { row := fnExactTextReplaceUptoRow, standIns := [], harness := (true, "bc1b962296fc971a8917e2e82934ade982bfe9c245d51b1b75851f2328d4868a"), looks := true }, kinds := [], alts := [], laidByText := true, laidKinds := [.data, .sentinel, .sentinel, .sentinel, .pinned], laidTests := true, laidLooks := .later }
def FnExactTextReplaceUptoCardSaid : Prop := Claim7.holds Tryd.pinned (.plain (OpenSpec.upto fnExactTextReplaceSpec)) fnExactTextReplaceUptoCard

/-- THE SECOND FORM's CARD OF 'laws.FnExactTextStrip'. -/
def fnExactTextStripUptoCard : Claim7 := { stood := { row := fnExactTextStripUptoRow, standIns := [], harness := (true, "bc1b962296fc971a8917e2e82934ade982bfe9c245d51b1b75851f2328d4868a"), looks := true }, kinds := [], alts := [], laidByText := true, laidKinds := [.data, .pinned], laidTests := true, laidLooks := .later }
def FnExactTextStripUptoCardSaid : Prop := Claim7.holds Tryd.pinned (.plain (OpenSpec.upto fnExactTextStripSpec)) fnExactTextStripUptoCard

/-- THE SECOND FORM's CARD OF 'laws.FnExactStrValue'. -/
def fnExactStrValueUptoCard : Claim7 := { stood := { row := fnExactStrValueUptoRow, standIns := [], harness := (true, "bc1b962296fc971a8917e2e82934ade982bfe9c245d51b1b75851f2328d4868a"), looks := true }, kinds := [], alts := [], laidByText := true, laidKinds := [.data, .data, .data, .data, .sentinel, .sentinel, .pinned], laidTests := true, laidLooks := .later }
def FnExactStrValueUptoCardSaid : Prop := Claim7.holds Tryd.pinned (.plain (OpenSpec.upto fnExactStrValueSpec)) fnExactStrValueUptoCard

/-- THE SECOND FORM's CARD OF 'laws.FnExactTextSplit'. -/
def fnExactTextSplitUptoCard : Claim7 := { stood := { row := fnExactTextSplitUptoRow, standIns := [], harness := (true, "bc1b962296fc971a8917e2e82934ade982bfe9c245d51b1b75851f2328d4868a"), looks := true }, kinds := [], alts := [], laidByText := true, laidKinds := [.data, .pinned], laidTests := true, laidLooks := .later }
def FnExactTextSplitUptoCardSaid : Prop := Claim7.holds Tryd.pinned (.plain (OpenSpec.upto fnExactTextSplitSpec)) fnExactTextSplitUptoCard

/-- THE SECOND FORM's CARD OF 'laws.FnExactTextTimes'. -/
def fnExactTextTimesUptoCard : Claim7 := { stood := { row := fnExactTextTimesUptoRow, standIns := [], harness := (true, "bc1b962296fc971a8917e2e82934ade982bfe9c245d51b1b75851f2328d4868a"), looks := true }, kinds := [], alts := [], laidByText := true, laidKinds := [.data, .sentinel, .sentinel, .sentinel, .pinned], laidTests := true, laidLooks := .later }
def FnExactTextTimesUptoCardSaid : Prop := Claim7.holds Tryd.pinned (.plain (OpenSpec.upto fnExactTextTimesSpec)) fnExactTextTimesUptoCard

/-- THE SECOND FORM's CARD OF 'laws.FnExactTextRepr'. -/
def fnExactTextReprUptoCard : Claim7 := { stood := { row := fnExactTextReprUptoRow, standIns := [], harness := (true, "bc1b962296fc971a8917e2e82934ade982bfe9c245d51b1b75851f2328d4868a"), looks := true }, kinds := [], alts := [], laidByText := true, laidKinds := [.data, .pinned], laidTests := true, laidLooks := .later }
def FnExactTextReprUptoCardSaid : Prop := Claim7.holds Tryd.pinned (.plain (OpenSpec.upto fnExactTextReprSpec)) fnExactTextReprUptoCard
end Rows
end Go.Proofs.YtakbmjndhejfpaaDoor
