/-
  DERIVED. GIVEN WITH THE SEED: THE CARDS: each row of YtahcpgldpbejiaaGreatDoorRows.lean that lists a variable, with what it lists TIED to the program's text (the seventh form; the later family's looks); each row that meets fmt, with fmt's text TOLD by the authors' own Lean function (tested against real Go, not proved from fmt's source: count such statements apart). THE CARD IS WHAT COUNTS. Prove the row's statement (the work); the ties are given (YtahcpgldpbejiaaGreatDoorTie.lean); close each card by the builder's one call (the guide's Derived/Test/ToyasCard.lean, 'card_holds'). Laid BY PROGRAM, IN A SANDBOX (cutbox-door.mjs). By AI agents, Wed Nov 11 2026. No macro, syntax, notation, axiom, sorry.
-/
import Derived.Test.YtahcpgldpbejiaaGreatDoorRows
import GoSem.ClaimSeven
namespace Go.Proofs.YtahcpgldpbejiaaGreatDoor
namespace Rows

/-- THE TIED CARD OF 'laws.FnExactFormatText'. -/
def fnExactFormatTextCard : Claim7 := { stood := { row := fnExactFormatTextRow, standIns := [], harness := (true, "668dc94d2a19b212a32130af262f3a213287e3543974dba2861bf08e04756427"), looks := true }, kinds := [], alts := [], laidByText := true, laidKinds := [.data, .data, .data, .data, .sentinel, .sentinel, .sentinel, .sentinel, .sentinel, .pinned], laidTests := true, laidLooks := .later }
def FnExactFormatTextCardSaid : Prop := Claim7.holds Tryz.pinned (.plain (OpenSpec.ofChange fnExactFormatTextSpec)) fnExactFormatTextCard

/-- THE TIED CARD OF 'laws.FnExactFormatBig'. -/
def fnExactFormatBigCard : Claim7 := { stood := { row := fnExactFormatBigRow, standIns := [], harness := (true, "668dc94d2a19b212a32130af262f3a213287e3543974dba2861bf08e04756427"), looks := true }, kinds := [], alts := [], laidByText := true, laidKinds := [.data, .data, .data, .data, .sentinel, .sentinel, .sentinel, .sentinel, .sentinel, .pinned], laidTests := true, laidLooks := .later }
def FnExactFormatBigCardSaid : Prop := Claim7.holds Tryz.pinned (.plain (OpenSpec.ofChange fnExactFormatBigSpec)) fnExactFormatBigCard

/-- THE TIED CARD OF 'laws.FnWide'. -/
def fnWideCard : Claim7 := { stood := { row := fnWideRow, standIns := [], harness := (true, "668dc94d2a19b212a32130af262f3a213287e3543974dba2861bf08e04756427"), looks := true }, kinds := [], alts := [], laidByText := true, laidKinds := [.data, .data, .data, .data, .sentinel, .sentinel, .sentinel, .sentinel, .sentinel, .pinned], laidTests := true, laidLooks := .later }
def FnWideCardSaid : Prop := Claim7.holds Tryz.pinned (.plain (OpenSpec.ofChange fnWideSpec)) fnWideCard

/-- THE SECOND FORM's CARD OF 'laws.FnExactFormatText'. -/
def fnExactFormatTextUptoCard : Claim7 := { stood := { row := fnExactFormatTextUptoRow, standIns := [], harness := (true, "668dc94d2a19b212a32130af262f3a213287e3543974dba2861bf08e04756427"), looks := true }, kinds := [], alts := [], laidByText := true, laidKinds := [.data, .data, .data, .data, .sentinel, .sentinel, .sentinel, .sentinel, .sentinel, .pinned], laidTests := true, laidLooks := .later }
def FnExactFormatTextUptoCardSaid : Prop := Claim7.holds Tryz.pinned (.plain (OpenSpec.upto fnExactFormatTextSpec)) fnExactFormatTextUptoCard

/-- THE SECOND FORM's CARD OF 'laws.FnExactFormatBig'. -/
def fnExactFormatBigUptoCard : Claim7 := { stood := { row := fnExactFormatBigUptoRow, standIns := [], harness := (true, "668dc94d2a19b212a32130af262f3a213287e3543974dba2861bf08e04756427"), looks := true }, kinds := [], alts := [], laidByText := true, laidKinds := [.data, .data, .data, .data, .sentinel, .sentinel, .sentinel, .sentinel, .sentinel, .pinned], laidTests := true, laidLooks := .later }
def FnExactFormatBigUptoCardSaid : Prop := Claim7.holds Tryz.pinned (.plain (OpenSpec.upto fnExactFormatBigSpec)) fnExactFormatBigUptoCard

/-- THE SECOND FORM's CARD OF 'laws.FnWide'. -/
def fnWideUptoCard : Claim7 := { stood := { row := fnWideUptoRow, standIns := [], harness := (true, "668dc94d2a19b212a32130af262f3a213287e3543974dba2861bf08e04756427"), looks := true }, kinds := [], alts := [], laidByText := true, laidKinds := [.data, .data, .data, .data, .sentinel, .sentinel, .sentinel, .sentinel, .sentinel, .pinned], laidTests := true, laidLooks := .later }
def FnWideUptoCardSaid : Prop := Claim7.holds Tryz.pinned (.plain (OpenSpec.upto fnWideSpec)) fnWideUptoCard
end Rows
end Go.Proofs.YtahcpgldpbejiaaGreatDoor
