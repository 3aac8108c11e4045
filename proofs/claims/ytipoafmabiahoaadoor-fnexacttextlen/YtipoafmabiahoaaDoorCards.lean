/-
  DERIVED. GIVEN WITH THE SEED: THE CARDS: each row of YtipoafmabiahoaaDoorRows.lean that lists a variable, with what it lists TIED to the program's text (the seventh form; the later family's looks); each row that meets fmt, with fmt's text TOLD by the authors' own Lean function (tested against real Go, not proved from fmt's source: count such statements apart). THE CARD IS WHAT COUNTS. Prove the row's statement (the work); the ties are given (YtipoafmabiahoaaDoorTie.lean); close each card by the builder's one call (the guide's Derived/Test/ToyasCard.lean, 'card_holds'). Laid BY PROGRAM, IN A SANDBOX (cutbox-door.mjs). By AI agents, Wed Nov 11 2026. No macro, syntax, notation, axiom, sorry.
-/
import Derived.Test.YtipoafmabiahoaaDoorRows
import GoSem.ClaimSeven
namespace Go.Proofs.YtipoafmabiahoaaDoor
namespace Rows

/-- THE TIED CARD OF 'laws.FnExactSliceList'. -/
def fnExactSliceListCard : Claim7 := { stood := { row := fnExactSliceListRow, standIns := [], harness := (true, "911d646cdb23109c9ad4eaa4e19ef2a913a2eb44d7e011dfc99fff41a1f4caab"), looks := true }, kinds := [], alts := [], laidByText := true, laidKinds := [.sentinel, .sentinel, .sentinel], laidTests := true, laidLooks := .later }
def FnExactSliceListCardSaid : Prop := Claim7.holds Tryd.pinned (.plain (OpenSpec.ofChange fnExactSliceListSpec)) fnExactSliceListCard

/-- THE TIED CARD OF 'laws.FnExactTextOk'. -/
def fnExactTextOkCard : Claim7 := { stood := { row := fnExactTextOkRow, standIns := [], harness := (true, "911d646cdb23109c9ad4eaa4e19ef2a913a2eb44d7e011dfc99fff41a1f4caab"), looks := true }, kinds := [], alts := [], laidByText := true, laidKinds := [.data, .pinned], laidTests := true, laidLooks := .later }
def FnExactTextOkCardSaid : Prop := Claim7.holds Tryd.pinned (.plain (OpenSpec.ofChange fnExactTextOkSpec)) fnExactTextOkCard

/-- THE TIED CARD OF 'laws.FnExactTextLen'. -/
def fnExactTextLenCard : Claim7 := { stood := { row := fnExactTextLenRow, standIns := [], harness := (true, "911d646cdb23109c9ad4eaa4e19ef2a913a2eb44d7e011dfc99fff41a1f4caab"), looks := true }, kinds := [], alts := [], laidByText := true, laidKinds := [.data, .pinned], laidTests := true, laidLooks := .later }
def FnExactTextLenCardSaid : Prop := Claim7.holds Tryd.pinned (.plain (OpenSpec.ofChange fnExactTextLenSpec)) fnExactTextLenCard

/-- THE SECOND FORM's CARD OF 'laws.FnExactSliceList'. -/
def fnExactSliceListUptoCard : Claim7 := { stood := { row := fnExactSliceListUptoRow, standIns := [], harness := (true, "911d646cdb23109c9ad4eaa4e19ef2a913a2eb44d7e011dfc99fff41a1f4caab"), looks := true }, kinds := [], alts := [], laidByText := true, laidKinds := [.sentinel, .sentinel, .sentinel], laidTests := true, laidLooks := .later }
def FnExactSliceListUptoCardSaid : Prop := Claim7.holds Tryd.pinned (.plain (OpenSpec.upto fnExactSliceListSpec)) fnExactSliceListUptoCard

/-- THE SECOND FORM's CARD OF 'laws.FnExactTextOk'. -/
def fnExactTextOkUptoCard : Claim7 := { stood := { row := fnExactTextOkUptoRow, standIns := [], harness := (true, "911d646cdb23109c9ad4eaa4e19ef2a913a2eb44d7e011dfc99fff41a1f4caab"), looks := true }, kinds := [], alts := [], laidByText := true, laidKinds := [.data, .pinned], laidTests := true, laidLooks := .later }
def FnExactTextOkUptoCardSaid : Prop := Claim7.holds Tryd.pinned (.plain (OpenSpec.upto fnExactTextOkSpec)) fnExactTextOkUptoCard

/-- THE SECOND FORM's CARD OF 'laws.FnExactTextLen'. -/
def fnExactTextLenUptoCard : Claim7 := { stood := { row := fnExactTextLenUptoRow, standIns := [], harness := (true, "911d646cdb23109c9ad4eaa4e19ef2a913a2eb44d7e011dfc99fff41a1f4caab"), looks := true }, kinds := [], alts := [], laidByText := true, laidKinds := [.data, .pinned], laidTests := true, laidLooks := .later }
def FnExactTextLenUptoCardSaid : Prop := Claim7.holds Tryd.pinned (.plain (OpenSpec.upto fnExactTextLenSpec)) fnExactTextLenUptoCard
end Rows
end Go.Proofs.YtipoafmabiahoaaDoor
