/-
  NARROWER THAN 'FOR EVERY INPUT', by the rows' own cells (each row's printed sentence says how): FnFloatRules: ifaces, laid.
  DERIVED. THE GIVEN ROWS OF THIS SEAT. 1 by the template 'for every input the law returns true; each argument reads behind the call as it read before'; 0 by the template 'total and deterministic' (their statements: YtfpadeamhoeonaaDoorTotals.lean).
  GIVEN WITH THE SEED: the statements are not yours to turn. If you find one false, say at which input.
  Laid BY PROGRAM, IN A SANDBOX (cutbox-rows.mjs): the forced cells as the released guide's own fill.sh prints them over the translation dd0e5329df86ca4b… (all of the seat's roots in one cut). By AI agents, Wed Nov 11 2026. No macro, syntax, notation, axiom, sorry.
-/
import Derived.Test.YtfpadeamhoeonaaDoorChecked
import GoSem.Claim
import GoSem.ClaimJoined
import GoSem.ClaimMapViews
import Derived.JoinedTies
import Derived.KernelRfl
namespace Go.Proofs.YtfpadeamhoeonaaDoor
/- THE CELL 'sum', in the pinned program and in every row, IS THE sha256 OF THE DUMP (.gsa) THAT YtfpadeamhoeonaaDoorProg.lean LOADS. Nothing in Lean hashes anything: it is a label: what it is worth is what the hold of that sum in a sandbox is worth. -/
noncomputable def Tryd.pinned : Pinned := { name := "ytfpadeamhoeonaadoor", sum := "dd0e5329df86ca4bcc938f671ea35215fef06da9530b24eca79c6ab7275df020", checked := Tryd.checked }
namespace Rows
def none {H : Type} : Left H := { results := [], args := [] }

/- WHAT THE LISTED PACKAGE-LEVEL VARIABLES READ AS WHEN THE CALL BEGINS. Each datum BY PROGRAM (the guide's laid-datum.mjs) off the statement by which the dump's own 'gosem.cut.vars' lays the variable. In a bare row this is a premise. The card (YtfpadeamhoeonaaDoorCards.lean) ties it to the program's text. -/
def laid_loop_example_g00009_impl_errArgs {H : Type} : DataW H := .iface "*errors.errorString" (.ptr (.agg [.lit (.string [97, 110, 32, 97, 114, 103, 117, 109, 101, 110, 116, 32, 116, 104, 97, 116, 32, 99, 97, 110, 39, 116, 32, 98, 101])]))
def laid_loop_example_g00009_impl_errZero {H : Type} : DataW H := .iface "*errors.errorString" (.ptr (.agg [.lit (.string [97, 32, 100, 105, 118, 105, 115, 105, 111, 110, 32, 98, 121, 32, 122, 101, 114, 111, 44, 32, 97, 32, 115, 116, 101, 112, 32, 111, 102, 32, 122, 101, 114, 111])]))
def laid_loop_example_g00009_impl_errLarge {H : Type} : DataW H := .iface "*errors.errorString" (.ptr (.agg [.lit (.string [97, 32, 114, 101, 115, 117, 108, 116, 32, 98, 101, 121, 111, 110, 100, 32, 105, 116, 115, 32, 108, 105, 109, 105, 116])]))

/-- 'laws.FnFloatRules': WHATEVER THE INPUT: true; the input reads as it did. -/
def fnFloatRulesSpec : ChangeSpec := { name := "fnFloatRules", vars := ["loop.example/g00009/impl.errArgs", "loop.example/g00009/impl.errZero", "loop.example/g00009/impl.errLarge"], fn := fun _ => fun
  | [d, g1, g2, g3] => { results := [.lit (.bool true)], args := [d], vars := [g1, g2, g3] }
  | _ => none }
def fnFloatRulesRow : OpenClaim := { program := "ytfpadeamhoeonaadoor", sum := "dd0e5329df86ca4bcc938f671ea35215fef06da9530b24eca79c6ab7275df020", func := "loop.example/g00009/laws.FnFloatRules", spec := "fnFloatRules", inPlace := ["math.Float64frombits", "math.archFloor", "math.Float64bits", "math.archTrunc", "internal/reflectlite.TypeOf"], unfollowed := true, recurses := true, named := ["loop.example/g00009/impl.errArgs", "loop.example/g00009/impl.errZero", "loop.example/g00009/impl.errLarge"], ifaces := true, apart := false, laid := [("loop.example/g00009/impl.errArgs", laid_loop_example_g00009_impl_errArgs), ("loop.example/g00009/impl.errZero", laid_loop_example_g00009_impl_errZero), ("loop.example/g00009/impl.errLarge", laid_loop_example_g00009_impl_errLarge)] }
def FnFloatRulesSaid : Prop := fnFloatRulesRow.holds Tryd.pinned (OpenSpec.ofChange fnFloatRulesSpec)

/-- ITS FALSE NEIGHBOUR: 'it returns false'. Refute it at one input. -/
def fnFloatRulesWrong : ChangeSpec := { name := "fnFloatRules", vars := ["loop.example/g00009/impl.errArgs", "loop.example/g00009/impl.errZero", "loop.example/g00009/impl.errLarge"], fn := fun _ => fun
  | [d, g1, g2, g3] => { results := [.lit (.bool false)], args := [d], vars := [g1, g2, g3] }
  | _ => none }
def FnFloatRulesWrongFalsely : Prop := fnFloatRulesRow.holds Tryd.pinned (OpenSpec.ofChange fnFloatRulesWrong)

/- THE SECOND FORM. 'bulk': how many values and letters a reading holds, each counted each time it is reached (what is shared counts as often as it is met; a slice's spare places count too). A statement '..UptoSaid' is the law's where the arguments, and the package variables that the reading takes, are together of bulk at most 1048576: NARROWER than '..Said'. Prove '..Said' where nothing that the law and all that it calls make is longer than what came in: it says more and counts as full. Else prove '..UptoSaid'. A law counts once. -/
mutual
def uptoBulk {H : Type} : DataW H → Nat
  | .lit (.string bytes) => bytes.length + 1
  | .lit _ => 1
  | .nil => 1
  | .ptr d => uptoBulk d + 1
  | .slice elems spare => uptoBulkAll elems + uptoBulkAll spare + 1
  | .agg parts => uptoBulkAll parts + 1
  | .iface _ d => uptoBulk d + 1
  | .map entries => uptoBulkEntries entries + 1
  | .held _ => 1
def uptoBulkAll {H : Type} : List (DataW H) → Nat
  | [] => 0
  | d :: r => uptoBulk d + uptoBulkAll r
def uptoBulkEntries {H : Type} : List (Lit × DataW H) → Nat
  | [] => 0
  | x :: r => uptoBulkEntry x + uptoBulkEntries r
def uptoBulkEntry {H : Type} : Lit × DataW H → Nat
  | (.string bytes, d) => bytes.length + uptoBulk d + 1
  | (_, d) => uptoBulk d + 1
 end
def uptoSmall : (H : Type) → List (DataW H) → Bool := fun _ ds => decide (uptoBulkAll ds ≤ 1048576)
def OpenSpec.upto (s : _root_.Go.ChangeSpec) : _root_.Go.OpenSpec := { _root_.Go.OpenSpec.ofChange s with cond := some uptoSmall }

/-- 'laws.FnFloatRules', WHERE WHAT IT READS IS OF BULK AT MOST 1048576: true; the input reads as it did. -/
def fnFloatRulesUptoRow : OpenClaim := { program := "ytfpadeamhoeonaadoor", sum := "dd0e5329df86ca4bcc938f671ea35215fef06da9530b24eca79c6ab7275df020", func := "loop.example/g00009/laws.FnFloatRules", spec := "fnFloatRules", inPlace := ["math.Float64frombits", "math.archFloor", "math.Float64bits", "math.archTrunc", "internal/reflectlite.TypeOf"], unfollowed := true, recurses := true, named := ["loop.example/g00009/impl.errArgs", "loop.example/g00009/impl.errZero", "loop.example/g00009/impl.errLarge"], ifaces := true, apart := false, laid := [("loop.example/g00009/impl.errArgs", laid_loop_example_g00009_impl_errArgs), ("loop.example/g00009/impl.errZero", laid_loop_example_g00009_impl_errZero), ("loop.example/g00009/impl.errLarge", laid_loop_example_g00009_impl_errLarge)], narrowed := true }
def FnFloatRulesUptoSaid : Prop := fnFloatRulesUptoRow.holds Tryd.pinned (OpenSpec.upto fnFloatRulesSpec)

end Rows
end Go.Proofs.YtfpadeamhoeonaaDoor
