/-
  DERIVED. GIVEN WITH THE SEED: THE CARDS: each row of YtkjbbmmidjeecaaDoorRows.lean that lists a variable, with what it lists TIED to the program's text (the seventh form; the later family's looks); each row that meets fmt, with fmt's text TOLD by the authors' own Lean function (tested against real Go, not proved from fmt's source: count such statements apart). THE CARD IS WHAT COUNTS. Prove the row's statement (the work); the ties are given (YtkjbbmmidjeecaaDoorTie.lean); close each card by the builder's one call (the guide's Derived/Test/ToyasCard.lean, 'card_holds'). Laid BY PROGRAM, IN A SANDBOX (cutbox-door.mjs). By AI agents, Wed Nov 11 2026. No macro, syntax, notation, axiom, sorry.
-/
import Derived.Test.YtkjbbmmidjeecaaDoorRows
import GoSem.ClaimSeven
namespace Go.Proofs.YtkjbbmmidjeecaaDoor
namespace Rows

/-- THE TIED CARD OF 'laws.FnExactFloatBig'. -/
def fnExactFloatBigCard : Claim7 := { stood := { row := fnExactFloatBigRow, standIns := [], harness := (true, "fb0506ff873382c6f7690e37efe0eb7a42d011e300093d93883110c1d571891b"), looks := true }, kinds := [], alts := [], laidByText := true, laidKinds := [.sentinel, .sentinel, .sentinel], laidTests := true, laidLooks := .later }
def FnExactFloatBigCardSaid : Prop := Claim7.holds Tryd.pinned (.plain (OpenSpec.ofChange fnExactFloatBigSpec)) fnExactFloatBigCard

/-- THE TIED CARD OF 'laws.FnExactBigFloatCmp'. -/
def fnExactBigFloatCmpCard : Claim7 := { stood := { row := fnExactBigFloatCmpRow, standIns := [], harness := (true, "fb0506ff873382c6f7690e37efe0eb7a42d011e300093d93883110c1d571891b"), looks := true }, kinds := [], alts := [], laidByText := true, laidKinds := [.sentinel], laidTests := true, laidLooks := .later }
def FnExactBigFloatCmpCardSaid : Prop := Claim7.holds Tryd.pinned (.plain (OpenSpec.ofChange fnExactBigFloatCmpSpec)) fnExactBigFloatCmpCard

/-- THE TIED CARD OF 'laws.FnExactBigText'. -/
def fnExactBigTextCard : Claim7 := { stood := { row := fnExactBigTextRow, standIns := [], harness := (true, "fb0506ff873382c6f7690e37efe0eb7a42d011e300093d93883110c1d571891b"), looks := true }, kinds := [], alts := [], laidByText := true, laidKinds := [.data, .pinned], laidTests := true, laidLooks := .later }
def FnExactBigTextCardSaid : Prop := Claim7.holds Tryd.pinned (.plain (OpenSpec.ofChange fnExactBigTextSpec)) fnExactBigTextCard

/-- THE TIED CARD OF 'laws.FnExactFloatOfBig'. -/
def fnExactFloatOfBigCard : Claim7 := { stood := { row := fnExactFloatOfBigRow, standIns := [], harness := (true, "fb0506ff873382c6f7690e37efe0eb7a42d011e300093d93883110c1d571891b"), looks := true }, kinds := [], alts := [], laidByText := true, laidKinds := [.sentinel, .sentinel, .sentinel], laidTests := true, laidLooks := .later }
def FnExactFloatOfBigCardSaid : Prop := Claim7.holds Tryd.pinned (.plain (OpenSpec.ofChange fnExactFloatOfBigSpec)) fnExactFloatOfBigCard

/-- THE TIED CARD OF 'laws.FnExactFloatOp'. -/
def fnExactFloatOpCard : Claim7 := { stood := { row := fnExactFloatOpRow, standIns := [], harness := (true, "fb0506ff873382c6f7690e37efe0eb7a42d011e300093d93883110c1d571891b"), looks := true }, kinds := [], alts := [], laidByText := true, laidKinds := [.sentinel, .sentinel, .sentinel], laidTests := true, laidLooks := .later }
def FnExactFloatOpCardSaid : Prop := Claim7.holds Tryd.pinned (.plain (OpenSpec.ofChange fnExactFloatOpSpec)) fnExactFloatOpCard

/-- THE TIED CARD OF 'laws.FnFloatRules'. -/
def fnFloatRulesCard : Claim7 := { stood := { row := fnFloatRulesRow, standIns := [], harness := (true, "fb0506ff873382c6f7690e37efe0eb7a42d011e300093d93883110c1d571891b"), looks := true }, kinds := [], alts := [], laidByText := true, laidKinds := [.sentinel, .sentinel, .sentinel], laidTests := true, laidLooks := .later }
def FnFloatRulesCardSaid : Prop := Claim7.holds Tryd.pinned (.plain (OpenSpec.ofChange fnFloatRulesSpec)) fnFloatRulesCard

/-- THE SECOND FORM's CARD OF 'laws.FnExactFloatBig'. -/
def fnExactFloatBigUptoCard : Claim7 := { stood := { row := fnExactFloatBigUptoRow, standIns := [], harness := (true, "fb0506ff873382c6f7690e37efe0eb7a42d011e300093d93883110c1d571891b"), looks := true }, kinds := [], alts := [], laidByText := true, laidKinds := [.sentinel, .sentinel, .sentinel], laidTests := true, laidLooks := .later }
def FnExactFloatBigUptoCardSaid : Prop := Claim7.holds Tryd.pinned (.plain (OpenSpec.upto fnExactFloatBigSpec)) fnExactFloatBigUptoCard

/-- THE SECOND FORM's CARD OF 'laws.FnExactBigFloatCmp'. -/
def fnExactBigFloatCmpUptoCard : Claim7 := { stood := { row := fnExactBigFloatCmpUptoRow, standIns := [], harness := (true, "fb0506ff873382c6f7690e37efe0eb7a42d011e300093d93883110c1d571891b"), looks := true }, kinds := [], alts := [], laidByText := true, laidKinds := [.sentinel], laidTests := true, laidLooks := .later }
def FnExactBigFloatCmpUptoCardSaid : Prop := Claim7.holds Tryd.pinned (.plain (OpenSpec.upto fnExactBigFloatCmpSpec)) fnExactBigFloatCmpUptoCard

/-- THE SECOND FORM's CARD OF 'laws.FnExactBigText'. -/
def fnExactBigTextUptoCard : Claim7 := { stood := { row := fnExactBigTextUptoRow, standIns := [], harness := (true, "fb0506ff873382c6f7690e37efe0eb7a42d011e300093d93883110c1d571891b"), looks := true }, kinds := [], alts := [], laidByText := true, laidKinds := [.data, .pinned], laidTests := true, laidLooks := .later }
def FnExactBigTextUptoCardSaid : Prop := Claim7.holds Tryd.pinned (.plain (OpenSpec.upto fnExactBigTextSpec)) fnExactBigTextUptoCard

/-- THE SECOND FORM's CARD OF 'laws.FnExactFloatOfBig'. -/
def fnExactFloatOfBigUptoCard : Claim7 := { stood := { row := fnExactFloatOfBigUptoRow, standIns := [], harness := (true, "fb0506ff873382c6f7690e37efe0eb7a42d011e300093d93883110c1d571891b"), looks := true }, kinds := [], alts := [], laidByText := true, laidKinds := [.sentinel, .sentinel, .sentinel], laidTests := true, laidLooks := .later }
def FnExactFloatOfBigUptoCardSaid : Prop := Claim7.holds Tryd.pinned (.plain (OpenSpec.upto fnExactFloatOfBigSpec)) fnExactFloatOfBigUptoCard

/-- THE SECOND FORM's CARD OF 'laws.FnExactFloatOp'. -/
def fnExactFloatOpUptoCard : Claim7 := { stood := { row := fnExactFloatOpUptoRow, standIns := [], harness := (true, "fb0506ff873382c6f7690e37efe0eb7a42d011e300093d93883110c1d571891b"), looks := true }, kinds := [], alts := [], laidByText := true, laidKinds := [.sentinel, .sentinel, .sentinel], laidTests := true, laidLooks := .later }
def FnExactFloatOpUptoCardSaid : Prop := Claim7.holds Tryd.pinned (.plain (OpenSpec.upto fnExactFloatOpSpec)) fnExactFloatOpUptoCard

/-- THE SECOND FORM's CARD OF 'laws.FnFloatRules'. -/
def fnFloatRulesUptoCard : Claim7 := { stood := { row := fnFloatRulesUptoRow, standIns := [], harness := (true, "fb0506ff873382c6f7690e37efe0eb7a42d011e300093d93883110c1d571891b"), looks := true }, kinds := [], alts := [], laidByText := true, laidKinds := [.sentinel, .sentinel, .sentinel], laidTests := true, laidLooks := .later }
def FnFloatRulesUptoCardSaid : Prop := Claim7.holds Tryd.pinned (.plain (OpenSpec.upto fnFloatRulesSpec)) fnFloatRulesUptoCard
end Rows
end Go.Proofs.YtkjbbmmidjeecaaDoor
