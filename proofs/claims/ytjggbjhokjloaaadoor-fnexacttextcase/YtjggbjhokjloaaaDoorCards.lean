/-
  DERIVED. GIVEN WITH THE SEED: THE CARDS: each row of YtjggbjhokjloaaaDoorRows.lean that lists a variable, with what it lists TIED to the program's text (the seventh form; the later family's looks); each row that meets fmt, with fmt's text TOLD by the authors' own Lean function (tested against real Go, not proved from fmt's source: count such statements apart). THE CARD IS WHAT COUNTS. Prove the row's statement (the work); the ties are given (YtjggbjhokjloaaaDoorTie.lean); close each card by the builder's one call (the guide's Derived/Test/ToyasCard.lean, 'card_holds'). Laid BY PROGRAM, IN A SANDBOX (cutbox-door.mjs). By AI agents, Wed Nov 11 2026. No macro, syntax, notation, axiom, sorry.
-/
import Derived.Test.YtjggbjhokjloaaaDoorRows
import GoSem.ClaimSeven
namespace Go.Proofs.YtjggbjhokjloaaaDoor
namespace Rows

/-- THE TIED CARD OF 'laws.FnExactTextCase'. -/
def fnExactTextCaseCard : Claim7 := { stood := { row := fnExactTextCaseRow, standIns := [], harness := (true, "b1ce1b498e7b649c8546bf6e1bafb22a466aa7341350c2898002ad33675a0130"), looks := false }, kinds := [], alts := [], laidByText := true, laidKinds := [.data, .pinned], laidTests := true, laidLooks := .later }
def FnExactTextCaseCardSaid : Prop := Claim7.holds Tryd.pinned (.plain (OpenSpec.ofChange fnExactTextCaseSpec)) fnExactTextCaseCard

/-- THE TIED CARD OF 'laws.FnExactTextRepr'. -/
def fnExactTextReprCard : Claim7 := { stood := { row := fnExactTextReprRow, standIns := [], harness := (true, "b1ce1b498e7b649c8546bf6e1bafb22a466aa7341350c2898002ad33675a0130"), looks := false }, kinds := [], alts := [], laidByText := true, laidKinds := [.data, .pinned], laidTests := true, laidLooks := .later }
def FnExactTextReprCardSaid : Prop := Claim7.holds Tryd.pinned (.plain (OpenSpec.ofChange fnExactTextReprSpec)) fnExactTextReprCard

/-- THE SECOND FORM's CARD OF 'laws.FnExactTextCase'. -/
def fnExactTextCaseUptoCard : Claim7 := { stood := { row := fnExactTextCaseUptoRow, standIns := [], harness := (true, "b1ce1b498e7b649c8546bf6e1bafb22a466aa7341350c2898002ad33675a0130"), looks := false }, kinds := [], alts := [], laidByText := true, laidKinds := [.data, .pinned], laidTests := true, laidLooks := .later }
def FnExactTextCaseUptoCardSaid : Prop := Claim7.holds Tryd.pinned (.plain (OpenSpec.upto fnExactTextCaseSpec)) fnExactTextCaseUptoCard

/-- THE SECOND FORM's CARD OF 'laws.FnExactTextRepr'. -/
def fnExactTextReprUptoCard : Claim7 := { stood := { row := fnExactTextReprUptoRow, standIns := [], harness := (true, "b1ce1b498e7b649c8546bf6e1bafb22a466aa7341350c2898002ad33675a0130"), looks := false }, kinds := [], alts := [], laidByText := true, laidKinds := [.data, .pinned], laidTests := true, laidLooks := .later }
def FnExactTextReprUptoCardSaid : Prop := Claim7.holds Tryd.pinned (.plain (OpenSpec.upto fnExactTextReprSpec)) fnExactTextReprUptoCard
end Rows
end Go.Proofs.YtjggbjhokjloaaaDoor
