/-
  NARROWER THAN 'FOR EVERY INPUT', by the rows' own cells (each row's printed sentence says how): FnExactFloatOfBig: ifaces, laid · FnExactFloatOp: ifaces, laid · FnFloatExact: ifaces, laid.
  DERIVED. THE GIVEN ROWS OF THIS SEAT. 3 by the template 'for every input the law returns true; each argument reads behind the call as it read before'; 0 by the template 'total and deterministic' (their statements: YtfcoffllelgakaaDoorTotals.lean).
  GIVEN WITH THE SEED: the statements are not yours to turn. If you find one false, say at which input.
  Laid BY PROGRAM, IN A SANDBOX (cutbox-rows.mjs): the forced cells as the released guide's own fill.sh prints them over the translation e3d1ef48f71d3e73… (all of the seat's roots in one cut). By AI agents, Wed Nov 11 2026. No macro, syntax, notation, axiom, sorry.
-/
import Derived.Test.YtfcoffllelgakaaDoorChecked
import GoSem.Claim
import GoSem.ClaimJoined
import GoSem.ClaimMapViews
import Derived.JoinedTies
import Derived.KernelRfl
namespace Go.Proofs.YtfcoffllelgakaaDoor
/- THE CELL 'sum', in the pinned program and in every row, IS THE sha256 OF THE DUMP (.gsa) THAT YtfcoffllelgakaaDoorProg.lean LOADS. Nothing in Lean hashes anything: it is a label: what it is worth is what the hold of that sum in a sandbox is worth. -/
noncomputable def Tryd.pinned : Pinned := { name := "ytfcoffllelgakaadoor", sum := "e3d1ef48f71d3e732a0e1a388e6b728cecbd68d193ce30fab8bf18f56df19e28", checked := Tryd.checked }
namespace Rows
def none {H : Type} : Left H := { results := [], args := [] }

/- WHAT THE LISTED PACKAGE-LEVEL VARIABLES READ AS WHEN THE CALL BEGINS. Each datum BY PROGRAM (the guide's laid-datum.mjs) off the statement by which the dump's own 'gosem.cut.vars' lays the variable. In a bare row this is a premise. The card (YtfcoffllelgakaaDoorCards.lean) ties it to the program's text. -/
def laid_loop_example_g00009_impl_errArgs {H : Type} : DataW H := .iface "*errors.errorString" (.ptr (.agg [.lit (.string [97, 110, 32, 97, 114, 103, 117, 109, 101, 110, 116, 32, 116, 104, 97, 116, 32, 99, 97, 110, 39, 116, 32, 98, 101])]))
def laid_loop_example_g00009_impl_errZero {H : Type} : DataW H := .iface "*errors.errorString" (.ptr (.agg [.lit (.string [97, 32, 100, 105, 118, 105, 115, 105, 111, 110, 32, 98, 121, 32, 122, 101, 114, 111, 44, 32, 97, 32, 115, 116, 101, 112, 32, 111, 102, 32, 122, 101, 114, 111])]))
def laid_loop_example_g00009_impl_errLarge {H : Type} : DataW H := .iface "*errors.errorString" (.ptr (.agg [.lit (.string [97, 32, 114, 101, 115, 117, 108, 116, 32, 98, 101, 121, 111, 110, 100, 32, 105, 116, 115, 32, 108, 105, 109, 105, 116])]))

/-- 'laws.FnExactFloatOfBig': WHATEVER THE INPUT: true; the input reads as it did. -/
def fnExactFloatOfBigSpec : ChangeSpec := { name := "fnExactFloatOfBig", vars := ["loop.example/g00009/impl.errArgs", "loop.example/g00009/impl.errLarge", "loop.example/g00009/impl.errZero"], fn := fun _ => fun
  | [d, g1, g2, g3] => { results := [.lit (.bool true)], args := [d], vars := [g1, g2, g3] }
  | _ => none }
def fnExactFloatOfBigRow : OpenClaim := { program := "ytfcoffllelgakaadoor", sum := "e3d1ef48f71d3e732a0e1a388e6b728cecbd68d193ce30fab8bf18f56df19e28", func := "loop.example/g00009/laws.FnExactFloatOfBig", spec := "fnExactFloatOfBig", inPlace := ["math.Float64bits", "math.Float64frombits", "internal/reflectlite.TypeOf"], unfollowed := true, recurses := true, named := ["loop.example/g00009/impl.errArgs", "loop.example/g00009/impl.errLarge", "loop.example/g00009/impl.errZero"], ifaces := true, apart := false, laid := [("loop.example/g00009/impl.errArgs", laid_loop_example_g00009_impl_errArgs), ("loop.example/g00009/impl.errZero", laid_loop_example_g00009_impl_errZero), ("loop.example/g00009/impl.errLarge", laid_loop_example_g00009_impl_errLarge)] }
def FnExactFloatOfBigSaid : Prop := fnExactFloatOfBigRow.holds Tryd.pinned (OpenSpec.ofChange fnExactFloatOfBigSpec)

/-- ITS FALSE NEIGHBOUR: 'it returns false'. Refute it at one input. -/
def fnExactFloatOfBigWrong : ChangeSpec := { name := "fnExactFloatOfBig", vars := ["loop.example/g00009/impl.errArgs", "loop.example/g00009/impl.errLarge", "loop.example/g00009/impl.errZero"], fn := fun _ => fun
  | [d, g1, g2, g3] => { results := [.lit (.bool false)], args := [d], vars := [g1, g2, g3] }
  | _ => none }
def FnExactFloatOfBigWrongFalsely : Prop := fnExactFloatOfBigRow.holds Tryd.pinned (OpenSpec.ofChange fnExactFloatOfBigWrong)

/-- 'laws.FnExactFloatOp': WHATEVER THE INPUT: true; the input reads as it did. -/
def fnExactFloatOpSpec : ChangeSpec := { name := "fnExactFloatOp", vars := ["loop.example/g00009/impl.errArgs", "loop.example/g00009/impl.errZero", "loop.example/g00009/impl.errLarge"], fn := fun _ => fun
  | [d1, d2, d3, g1, g2, g3] => { results := [.lit (.bool true)], args := [d1, d2, d3], vars := [g1, g2, g3] }
  | _ => none }
def fnExactFloatOpRow : OpenClaim := { program := "ytfcoffllelgakaadoor", sum := "e3d1ef48f71d3e732a0e1a388e6b728cecbd68d193ce30fab8bf18f56df19e28", func := "loop.example/g00009/laws.FnExactFloatOp", spec := "fnExactFloatOp", inPlace := ["math.Float64frombits", "math.archFloor", "math.Float64bits", "math.archTrunc", "internal/reflectlite.TypeOf"], unfollowed := true, recurses := true, named := ["loop.example/g00009/impl.errArgs", "loop.example/g00009/impl.errZero", "loop.example/g00009/impl.errLarge"], ifaces := true, apart := false, laid := [("loop.example/g00009/impl.errArgs", laid_loop_example_g00009_impl_errArgs), ("loop.example/g00009/impl.errZero", laid_loop_example_g00009_impl_errZero), ("loop.example/g00009/impl.errLarge", laid_loop_example_g00009_impl_errLarge)] }
def FnExactFloatOpSaid : Prop := fnExactFloatOpRow.holds Tryd.pinned (OpenSpec.ofChange fnExactFloatOpSpec)

/-- ITS FALSE NEIGHBOUR: 'it returns false'. Refute it at one input. -/
def fnExactFloatOpWrong : ChangeSpec := { name := "fnExactFloatOp", vars := ["loop.example/g00009/impl.errArgs", "loop.example/g00009/impl.errZero", "loop.example/g00009/impl.errLarge"], fn := fun _ => fun
  | [d1, d2, d3, g1, g2, g3] => { results := [.lit (.bool false)], args := [d1, d2, d3], vars := [g1, g2, g3] }
  | _ => none }
def FnExactFloatOpWrongFalsely : Prop := fnExactFloatOpRow.holds Tryd.pinned (OpenSpec.ofChange fnExactFloatOpWrong)

/-- 'laws.FnFloatExact': WHATEVER THE INPUT: true; the input reads as it did. -/
def fnFloatExactSpec : ChangeSpec := { name := "fnFloatExact", vars := ["loop.example/g00009/impl.errArgs", "loop.example/g00009/impl.errLarge", "loop.example/g00009/impl.errZero"], fn := fun _ => fun
  | [d1, d2, g1, g2, g3] => { results := [.lit (.bool true)], args := [d1, d2], vars := [g1, g2, g3] }
  | _ => none }
def fnFloatExactRow : OpenClaim := { program := "ytfcoffllelgakaadoor", sum := "e3d1ef48f71d3e732a0e1a388e6b728cecbd68d193ce30fab8bf18f56df19e28", func := "loop.example/g00009/laws.FnFloatExact", spec := "fnFloatExact", inPlace := ["math.Float64bits", "math.Float64frombits", "internal/reflectlite.TypeOf", "math.archFloor", "math.archTrunc"], unfollowed := true, recurses := true, named := ["loop.example/g00009/impl.errArgs", "loop.example/g00009/impl.errLarge", "loop.example/g00009/impl.errZero"], ifaces := true, apart := false, laid := [("loop.example/g00009/impl.errArgs", laid_loop_example_g00009_impl_errArgs), ("loop.example/g00009/impl.errZero", laid_loop_example_g00009_impl_errZero), ("loop.example/g00009/impl.errLarge", laid_loop_example_g00009_impl_errLarge)] }
def FnFloatExactSaid : Prop := fnFloatExactRow.holds Tryd.pinned (OpenSpec.ofChange fnFloatExactSpec)

/-- ITS FALSE NEIGHBOUR: 'it returns false'. Refute it at one input. -/
def fnFloatExactWrong : ChangeSpec := { name := "fnFloatExact", vars := ["loop.example/g00009/impl.errArgs", "loop.example/g00009/impl.errLarge", "loop.example/g00009/impl.errZero"], fn := fun _ => fun
  | [d1, d2, g1, g2, g3] => { results := [.lit (.bool false)], args := [d1, d2], vars := [g1, g2, g3] }
  | _ => none }
def FnFloatExactWrongFalsely : Prop := fnFloatExactRow.holds Tryd.pinned (OpenSpec.ofChange fnFloatExactWrong)

/- THE SECOND FORM. 'bulk': how many values and letters a reading holds, each counted each time it is reached (what is shared counts as often as it is met; a slice's spare places count too). A statement '..UptoSaid' is the law's where the arguments, and the package variables that the reading takes, are together of bulk at most 1048576: NARROWER than '..Said'. Prove '..Said' where nothing that the law and all that it calls make is longer than what came in: it says more and counts as full. Else prove '..UptoSaid'. A law counts once. -/
mutual
def uptoBulk {H : Type} : DataW H → Nat
  | .lit (.string bytes) => bytes.length + 1
  | .lit _ => 1
  | .nil => 1
  | .ptr d => uptoBulk d + 1
  | .slice elems spare => uptoBulkAll elems + uptoBulkAll spare + 1
  | .agg parts => uptoBulkAll parts + 1
  | .iface _ d => uptoBulk d + 1
  | .map entries => uptoBulkEntries entries + 1
  | .held _ => 1
def uptoBulkAll {H : Type} : List (DataW H) → Nat
  | [] => 0
  | d :: r => uptoBulk d + uptoBulkAll r
def uptoBulkEntries {H : Type} : List (Lit × DataW H) → Nat
  | [] => 0
  | x :: r => uptoBulkEntry x + uptoBulkEntries r
def uptoBulkEntry {H : Type} : Lit × DataW H → Nat
  | (.string bytes, d) => bytes.length + uptoBulk d + 1
  | (_, d) => uptoBulk d + 1
 end
def uptoSmall : (H : Type) → List (DataW H) → Bool := fun _ ds => decide (uptoBulkAll ds ≤ 1048576)
def OpenSpec.upto (s : _root_.Go.ChangeSpec) : _root_.Go.OpenSpec := { _root_.Go.OpenSpec.ofChange s with cond := some uptoSmall }

/-- 'laws.FnExactFloatOfBig', WHERE WHAT IT READS IS OF BULK AT MOST 1048576: true; the input reads as it did. -/
def fnExactFloatOfBigUptoRow : OpenClaim := { program := "ytfcoffllelgakaadoor", sum := "e3d1ef48f71d3e732a0e1a388e6b728cecbd68d193ce30fab8bf18f56df19e28", func := "loop.example/g00009/laws.FnExactFloatOfBig", spec := "fnExactFloatOfBig", inPlace := ["math.Float64bits", "math.Float64frombits", "internal/reflectlite.TypeOf"], unfollowed := true, recurses := true, named := ["loop.example/g00009/impl.errArgs", "loop.example/g00009/impl.errLarge", "loop.example/g00009/impl.errZero"], ifaces := true, apart := false, laid := [("loop.example/g00009/impl.errArgs", laid_loop_example_g00009_impl_errArgs), ("loop.example/g00009/impl.errZero", laid_loop_example_g00009_impl_errZero), ("loop.example/g00009/impl.errLarge", laid_loop_example_g00009_impl_errLarge)], narrowed := true }
def FnExactFloatOfBigUptoSaid : Prop := fnExactFloatOfBigUptoRow.holds Tryd.pinned (OpenSpec.upto fnExactFloatOfBigSpec)

/-- 'laws.FnExactFloatOp', WHERE WHAT IT READS IS OF BULK AT MOST 1048576: true; the input reads as it did. -/
def fnExactFloatOpUptoRow : OpenClaim := { program := "ytfcoffllelgakaadoor", sum := "e3d1ef48f71d3e732a0e1a388e6b728cecbd68d193ce30fab8bf18f56df19e28", func := "loop.example/g00009/laws.FnExactFloatOp", spec := "fnExactFloatOp", inPlace := ["math.Float64frombits", "math.archFloor", "math.Float64bits", "math.archTrunc", "internal/reflectlite.TypeOf"], unfollowed := true, recurses := true, named := ["loop.example/g00009/impl.errArgs", "loop.example/g00009/impl.errZero", "loop.example/g00009/impl.errLarge"], ifaces := true, apart := false, laid := [("loop.example/g00009/impl.errArgs", laid_loop_example_g00009_impl_errArgs), ("loop.example/g00009/impl.errZero", laid_loop_example_g00009_impl_errZero), ("loop.example/g00009/impl.errLarge", laid_loop_example_g00009_impl_errLarge)], narrowed := true }
def FnExactFloatOpUptoSaid : Prop := fnExactFloatOpUptoRow.holds Tryd.pinned (OpenSpec.upto fnExactFloatOpSpec)

/-- 'laws.FnFloatExact', WHERE WHAT IT READS IS OF BULK AT MOST 1048576: true; the input reads as it did. -/
def fnFloatExactUptoRow : OpenClaim := { program := "ytfcoffllelgakaadoor", sum := "e3d1ef48f71d3e732a0e1a388e6b728cecbd68d193ce30fab8bf18f56df19e28", func := "loop.example/g00009/laws.FnFloatExact", spec := "fnFloatExact", inPlace := ["math.Float64bits", "math.Float64frombits", "internal/reflectlite.TypeOf", "math.archFloor", "math.archTrunc"], unfollowed := true, recurses := true, named := ["loop.example/g00009/impl.errArgs", "loop.example/g00009/impl.errLarge", "loop.example/g00009/impl.errZero"], ifaces := true, apart := false, laid := [("loop.example/g00009/impl.errArgs", laid_loop_example_g00009_impl_errArgs), ("loop.example/g00009/impl.errZero", laid_loop_example_g00009_impl_errZero), ("loop.example/g00009/impl.errLarge", laid_loop_example_g00009_impl_errLarge)], narrowed := true }
def FnFloatExactUptoSaid : Prop := fnFloatExactUptoRow.holds Tryd.pinned (OpenSpec.upto fnFloatExactSpec)

end Rows
end Go.Proofs.YtfcoffllelgakaaDoor
