/-
  DERIVED. GIVEN WITH THE SEED: THE CARDS: each row of YtebpaobjonlelaaDoorRows.lean that lists a variable, with what it lists TIED to the program's text (the seventh form; the later family's looks); each row that meets fmt, with fmt's text TOLD by the authors' own Lean function (tested against real Go, not proved from fmt's source: count such statements apart). THE CARD IS WHAT COUNTS. Prove the row's statement (the work); the ties are given (YtebpaobjonlelaaDoorTie.lean); close each card by the builder's one call (the guide's Derived/Test/ToyasCard.lean, 'card_holds'). Laid BY PROGRAM, IN A SANDBOX (cutbox-door.mjs). By AI agents, Wed Nov 11 2026. No macro, syntax, notation, axiom, sorry.
-/
import Derived.Test.YtebpaobjonlelaaDoorRows
import GoSem.ClaimSeven
namespace Go.Proofs.YtebpaobjonlelaaDoor
namespace Rows

/-- THE TIED CARD OF 'laws.FnSlices'. -/
def fnSlicesCard : Claim7 := { stood := { row := fnSlicesRow, standIns := [], harness := (true, "6aa08499ebc474da7a2f8df803ae800e7eca1fa4a625cd1e0410e4121b2521aa"), looks := true }, kinds := [], alts := [], laidByText := true, laidKinds := [.data, .sentinel, .sentinel, .sentinel, .pinned], laidTests := true, laidLooks := .later }
def FnSlicesCardSaid : Prop := Claim7.holds Tryd.pinned (.plain (OpenSpec.ofChange fnSlicesSpec)) fnSlicesCard

/-- THE SECOND FORM's CARD OF 'laws.FnSlices'. -/
def fnSlicesUptoCard : Claim7 := { stood := { row := fnSlicesUptoRow, standIns := [], harness := (true, "6aa08499ebc474da7a2f8df803ae800e7eca1fa4a625cd1e0410e4121b2521aa"), looks := true }, kinds := [], alts := [], laidByText := true, laidKinds := [.data, .sentinel, .sentinel, .sentinel, .pinned], laidTests := true, laidLooks := .later }
def FnSlicesUptoCardSaid : Prop := Claim7.holds Tryd.pinned (.plain (OpenSpec.upto fnSlicesSpec)) fnSlicesUptoCard
end Rows
end Go.Proofs.YtebpaobjonlelaaDoor
