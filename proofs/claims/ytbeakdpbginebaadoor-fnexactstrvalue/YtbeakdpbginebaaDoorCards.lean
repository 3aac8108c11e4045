/-
  DERIVED. GIVEN WITH THE SEED: THE CARDS: each row of YtbeakdpbginebaaDoorRows.lean that lists a variable, with what it lists TIED to the program's text (the seventh form; the later family's looks); each row that meets fmt, with fmt's text TOLD by the authors' own Lean function (tested against real Go, not proved from fmt's source: count such statements apart). THE CARD IS WHAT COUNTS. Prove the row's statement (the work); the ties are given (YtbeakdpbginebaaDoorTie.lean); close each card by the builder's one call (the guide's Derived/Test/ToyasCard.lean, 'card_holds'). Laid BY PROGRAM, IN A SANDBOX (cutbox-door.mjs). By AI agents, Wed Nov 11 2026. No macro, syntax, notation, axiom, sorry.
-/
import Derived.Test.YtbeakdpbginebaaDoorRows
import GoSem.ClaimSeven
namespace Go.Proofs.YtbeakdpbginebaaDoor
namespace Rows

/-- THE TIED CARD OF 'laws.FnExactTextStrip'. -/
def fnExactTextStripCard : Claim7 := { stood := { row := fnExactTextStripRow, standIns := [], harness := (true, "a995169bae29de6b2c91766308f1c2b7d6e57c57ea4caf5788e4df42cc6e6ee1"), looks := true }, kinds := [], alts := [], laidByText := true, laidKinds := [.data, .pinned], laidTests := true, laidLooks := .later }
def FnExactTextStripCardSaid : Prop := Claim7.holds Tryd.pinned (.plain (OpenSpec.ofChange fnExactTextStripSpec)) fnExactTextStripCard

/-- THE TIED CARD OF 'laws.FnExactStrValue'. -/
def fnExactStrValueCard : Claim7 := { stood := { row := fnExactStrValueRow, standIns := [], harness := (true, "a995169bae29de6b2c91766308f1c2b7d6e57c57ea4caf5788e4df42cc6e6ee1"), looks := true }, kinds := [], alts := [], laidByText := true, laidKinds := [.data, .data, .data, .data, .sentinel, .sentinel, .pinned], laidTests := true, laidLooks := .later }
def FnExactStrValueCardSaid : Prop := Claim7.holds Tryd.pinned (.plain (OpenSpec.ofChange fnExactStrValueSpec)) fnExactStrValueCard

/-- THE SECOND FORM's CARD OF 'laws.FnExactTextStrip'. -/
def fnExactTextStripUptoCard : Claim7 := { stood := { row := fnExactTextStripUptoRow, standIns := [], harness := (true, "a995169bae29de6b2c91766308f1c2b7d6e57c57ea4caf5788e4df42cc6e6ee1"), looks := true }, kinds := [], alts := [], laidByText := true, laidKinds := [.data, .pinned], laidTests := true, laidLooks := .later }
def FnExactTextStripUptoCardSaid : Prop := Claim7.holds Tryd.pinned (.plain (OpenSpec.upto fnExactTextStripSpec)) fnExactTextStripUptoCard

/-- THE SECOND FORM's CARD OF 'laws.FnExactStrValue'. -/
def fnExactStrValueUptoCard : Claim7 := { stood := { row := fnExactStrValueUptoRow, standIns := [], harness := (true, "a995169bae29de6b2c91766308f1c2b7d6e57c57ea4caf5788e4df42cc6e6ee1"), looks := true }, kinds := [], alts := [], laidByText := true, laidKinds := [.data, .data, .data, .data, .sentinel, .sentinel, .pinned], laidTests := true, laidLooks := .later }
def FnExactStrValueUptoCardSaid : Prop := Claim7.holds Tryd.pinned (.plain (OpenSpec.upto fnExactStrValueSpec)) fnExactStrValueUptoCard
end Rows
end Go.Proofs.YtbeakdpbginebaaDoor
