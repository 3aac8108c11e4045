/-
  DERIVED. GIVEN WITH THE SEED: THE CARDS: each row of YtfpadeamhoeonaaDoorRows.lean that lists a variable, with what it lists TIED to the program's text (the seventh form; the later family's looks); each row that meets fmt, with fmt's text TOLD by the authors' own Lean function (tested against real Go, not proved from fmt's source: count such statements apart). THE CARD IS WHAT COUNTS. Prove the row's statement (the work); the ties are given (YtfpadeamhoeonaaDoorTie.lean); close each card by the builder's one call (the guide's Derived/Test/ToyasCard.lean, 'card_holds'). Laid BY PROGRAM, IN A SANDBOX (cutbox-door.mjs). By AI agents, Wed Nov 11 2026. No macro, syntax, notation, axiom, sorry.
-/
import Derived.Test.YtfpadeamhoeonaaDoorRows
import GoSem.ClaimSeven
namespace Go.Proofs.YtfpadeamhoeonaaDoor
namespace Rows

/-- THE TIED CARD OF 'laws.FnFloatRules'. -/
def fnFloatRulesCard : Claim7 := { stood := { row := fnFloatRulesRow, standIns := [], harness := (true, "77529c60ab2729412f9db586049f0def1781d0bdb3cc449a332b6961c06e05b1"), looks := true }, kinds := [], alts := [], laidByText := true, laidKinds := [.sentinel, .sentinel, .sentinel], laidTests := true, laidLooks := .later }
def FnFloatRulesCardSaid : Prop := Claim7.holds Tryd.pinned (.plain (OpenSpec.ofChange fnFloatRulesSpec)) fnFloatRulesCard

/-- THE SECOND FORM's CARD OF 'laws.FnFloatRules'. -/
def fnFloatRulesUptoCard : Claim7 := { stood := { row := fnFloatRulesUptoRow, standIns := [], harness := (true, "77529c60ab2729412f9db586049f0def1781d0bdb3cc449a332b6961c06e05b1"), looks := true }, kinds := [], alts := [], laidByText := true, laidKinds := [.sentinel, .sentinel, .sentinel], laidTests := true, laidLooks := .later }
def FnFloatRulesUptoCardSaid : Prop := Claim7.holds Tryd.pinned (.plain (OpenSpec.upto fnFloatRulesSpec)) fnFloatRulesUptoCard
end Rows
end Go.Proofs.YtfpadeamhoeonaaDoor
