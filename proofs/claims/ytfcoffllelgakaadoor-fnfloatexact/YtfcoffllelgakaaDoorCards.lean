/-
  DERIVED. GIVEN WITH THE SEED: THE CARDS: each row of YtfcoffllelgakaaDoorRows.lean that lists a variable, with what it lists TIED to the program's text (the seventh form; the later family's looks); each row that meets fmt, with fmt's text TOLD by the authors' own Lean function (tested against real Go, not proved from fmt's source: count such statements apart). THE CARD IS WHAT COUNTS. Prove the row's statement (the work); the ties are given (YtfcoffllelgakaaDoorTie.lean); close each card by the builder's one call (the guide's Derived/Test/ToyasCard.lean, 'card_holds'). Laid BY PROGRAM, IN A SANDBOX (cutbox-door.mjs). By AI agents, Wed Nov 11 2026. No macro, syntax, notation, axiom, sorry.
-/
import Derived.Test.YtfcoffllelgakaaDoorRows
import GoSem.ClaimSeven
namespace Go.Proofs.YtfcoffllelgakaaDoor
namespace Rows

/-- THE TIED CARD OF 'laws.FnExactFloatOfBig'. -/
def fnExactFloatOfBigCard : Claim7 := { stood := { row := fnExactFloatOfBigRow, standIns := [], harness := (true, "c6e637e6dcfbbe0556957d50cec29f40808f33e44fa38ef3b2142fee4cd1c7fe"), looks := true }, kinds := [], alts := [], laidByText := true, laidKinds := [.sentinel, .sentinel, .sentinel], laidTests := true, laidLooks := .later }
def FnExactFloatOfBigCardSaid : Prop := Claim7.holds Tryd.pinned (.plain (OpenSpec.ofChange fnExactFloatOfBigSpec)) fnExactFloatOfBigCard

/-- THE TIED CARD OF 'laws.FnExactFloatOp'. -/
def fnExactFloatOpCard : Claim7 := { stood := { row := fnExactFloatOpRow, standIns := [], harness := (true, "c6e637e6dcfbbe0556957d50cec29f40808f33e44fa38ef3b2142fee4cd1c7fe"), looks := true }, kinds := [], alts := [], laidByText := true, laidKinds := [.sentinel, .sentinel, .sentinel], laidTests := true, laidLooks := .later }
def FnExactFloatOpCardSaid : Prop := Claim7.holds Tryd.pinned (.plain (OpenSpec.ofChange fnExactFloatOpSpec)) fnExactFloatOpCard

/-- THE TIED CARD OF 'laws.FnFloatExact'. -/
def fnFloatExactCard : Claim7 := { stood := { row := fnFloatExactRow, standIns := [], harness := (true, "c6e637e6dcfbbe0556957d50cec29f40808f33e44fa38ef3b2142fee4cd1c7fe"), looks := true }, kinds := [], alts := [], laidByText := true, laidKinds := [.sentinel, .sentinel, .sentinel], laidTests := true, laidLooks := .later }
def FnFloatExactCardSaid : Prop := Claim7.holds Tryd.pinned (.plain (OpenSpec.ofChange fnFloatExactSpec)) fnFloatExactCard

/-- THE SECOND FORM's CARD OF 'laws.FnExactFloatOfBig'. -/
def fnExactFloatOfBigUptoCard : Claim7 := { stood := { row := fnExactFloatOfBigUptoRow, standIns := [], harness := (true, "c6e637e6dcfbbe0556957d50cec29f40808f33e44fa38ef3b2142fee4cd1c7fe"), looks := true }, kinds := [], alts := [], laidByText := true, laidKinds := [.sentinel, .sentinel, .sentinel], laidTests := true, laidLooks := .later }
def FnExactFloatOfBigUptoCardSaid : Prop := Claim7.holds Tryd.pinned (.plain (OpenSpec.upto fnExactFloatOfBigSpec)) fnExactFloatOfBigUptoCard

/-- THE SECOND FORM's CARD OF 'laws.FnExactFloatOp'. -/
def fnExactFloatOpUptoCard : Claim7 := { stood := { row := fnExactFloatOpUptoRow, standIns := [], harness := (true, "c6e637e6dcfbbe0556957d50cec29f40808f33e44fa38ef3b2142fee4cd1c7fe"), looks := true }, kinds := [], alts := [], laidByText := true, laidKinds := [.sentinel, .sentinel, .sentinel], laidTests := true, laidLooks := .later }
def FnExactFloatOpUptoCardSaid : Prop := Claim7.holds Tryd.pinned (.plain (OpenSpec.upto fnExactFloatOpSpec)) fnExactFloatOpUptoCard

/-- THE SECOND FORM's CARD OF 'laws.FnFloatExact'. -/
def fnFloatExactUptoCard : Claim7 := { stood := { row := fnFloatExactUptoRow, standIns := [], harness := (true, "c6e637e6dcfbbe0556957d50cec29f40808f33e44fa38ef3b2142fee4cd1c7fe"), looks := true }, kinds := [], alts := [], laidByText := true, laidKinds := [.sentinel, .sentinel, .sentinel], laidTests := true, laidLooks := .later }
def FnFloatExactUptoCardSaid : Prop := Claim7.holds Tryd.pinned (.plain (OpenSpec.upto fnFloatExactSpec)) fnFloatExactUptoCard
end Rows
end Go.Proofs.YtfcoffllelgakaaDoor
