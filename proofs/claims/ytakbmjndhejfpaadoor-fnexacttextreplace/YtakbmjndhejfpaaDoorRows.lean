/-
  NARROWER THAN 'FOR EVERY INPUT', by the rows' own cells (each row's printed sentence says how): FnExactTextJoin: ifaces, laid · FnExactTextReplace: ifaces, laid · FnExactTextStrip: laid · FnExactStrValue: laid · FnExactTextSplit: laid · FnExactTextTimes: ifaces, laid · FnExactTextRepr: laid.
  DERIVED. THE GIVEN ROWS OF THIS SEAT. 7 by the template 'for every input the law returns true; each argument reads behind the call as it read before'; 0 by the template 'total and deterministic' (their statements: YtakbmjndhejfpaaDoorTotals.lean).
  GIVEN WITH THE SEED: the statements are not yours to turn. If you find one false, say at which input.
  Laid BY PROGRAM, IN A SANDBOX (cutbox-rows.mjs): the forced cells as the released guide's own fill.sh prints them over the translation a00e0ad7054113b5… (all of the seat's roots in one cut). By AI agents, Wed Nov 11 2026. No macro, syntax, notation, axiom, sorry.
-/
import Derived.Test.YtakbmjndhejfpaaDoorChecked
import GoSem.PinnedTables
import GoSem.Claim
import GoSem.ClaimJoined
import GoSem.ClaimMapViews
import Derived.JoinedTies
import Derived.KernelRfl
namespace Go.Proofs.YtakbmjndhejfpaaDoor
/- THE CELL 'sum', in the pinned program and in every row, IS THE sha256 OF THE DUMP (.gsa) THAT YtakbmjndhejfpaaDoorProg.lean LOADS. Nothing in Lean hashes anything: it is a label: what it is worth is what the hold of that sum in a sandbox is worth. -/
noncomputable def Tryd.pinned : Pinned := { name := "ytakbmjndhejfpaadoor", sum := "a00e0ad7054113b5960d31488f7b356cac0640dbf3b0ddebff051e8b24e78724", checked := Tryd.checked }
namespace Rows
def none {H : Type} : Left H := { results := [], args := [] }

/- WHAT THE LISTED PACKAGE-LEVEL VARIABLES READ AS WHEN THE CALL BEGINS. Each datum BY PROGRAM (the guide's laid-datum.mjs) off the statement by which the dump's own 'gosem.cut.vars' lays the variable. In a bare row this is a premise. The card (YtakbmjndhejfpaaDoorCards.lean) ties it to the program's text. -/
def laid_unicode_utf8_acceptRanges {H : Type} : DataW H := .agg [.agg [.lit (.int .u8 128), .lit (.int .u8 191)], .agg [.lit (.int .u8 160), .lit (.int .u8 191)], .agg [.lit (.int .u8 128), .lit (.int .u8 159)], .agg [.lit (.int .u8 144), .lit (.int .u8 191)], .agg [.lit (.int .u8 128), .lit (.int .u8 143)], .agg [.lit (.int .u8 0), .lit (.int .u8 0)], .agg [.lit (.int .u8 0), .lit (.int .u8 0)], .agg [.lit (.int .u8 0), .lit (.int .u8 0)], .agg [.lit (.int .u8 0), .lit (.int .u8 0)], .agg [.lit (.int .u8 0), .lit (.int .u8 0)], .agg [.lit (.int .u8 0), .lit (.int .u8 0)], .agg [.lit (.int .u8 0), .lit (.int .u8 0)], .agg [.lit (.int .u8 0), .lit (.int .u8 0)], .agg [.lit (.int .u8 0), .lit (.int .u8 0)], .agg [.lit (.int .u8 0), .lit (.int .u8 0)], .agg [.lit (.int .u8 0), .lit (.int .u8 0)]]
def laid_loop_example_g00009_impl_errArgs {H : Type} : DataW H := .iface "*errors.errorString" (.ptr (.agg [.lit (.string [97, 110, 32, 97, 114, 103, 117, 109, 101, 110, 116, 32, 116, 104, 97, 116, 32, 99, 97, 110, 39, 116, 32, 98, 101])]))
def laid_loop_example_g00009_impl_errZero {H : Type} : DataW H := .iface "*errors.errorString" (.ptr (.agg [.lit (.string [97, 32, 100, 105, 118, 105, 115, 105, 111, 110, 32, 98, 121, 32, 122, 101, 114, 111, 44, 32, 97, 32, 115, 116, 101, 112, 32, 111, 102, 32, 122, 101, 114, 111])]))
def laid_loop_example_g00009_impl_errLarge {H : Type} : DataW H := .iface "*errors.errorString" (.ptr (.agg [.lit (.string [97, 32, 114, 101, 115, 117, 108, 116, 32, 98, 101, 121, 111, 110, 100, 32, 105, 116, 115, 32, 108, 105, 109, 105, 116])]))
/-- One of Go's own tables, pinned by name: the form's constant. -/
def laid_unicode_utf8_first : DataW Unit := Go.Pinned.utf8First
def laid_math_bits_deBruijn32tab {H : Type} : DataW H := .agg [.lit (.int .u8 0), .lit (.int .u8 1), .lit (.int .u8 28), .lit (.int .u8 2), .lit (.int .u8 29), .lit (.int .u8 14), .lit (.int .u8 24), .lit (.int .u8 3), .lit (.int .u8 30), .lit (.int .u8 22), .lit (.int .u8 20), .lit (.int .u8 15), .lit (.int .u8 25), .lit (.int .u8 17), .lit (.int .u8 4), .lit (.int .u8 8), .lit (.int .u8 31), .lit (.int .u8 27), .lit (.int .u8 13), .lit (.int .u8 23), .lit (.int .u8 21), .lit (.int .u8 19), .lit (.int .u8 16), .lit (.int .u8 7), .lit (.int .u8 26), .lit (.int .u8 12), .lit (.int .u8 18), .lit (.int .u8 6), .lit (.int .u8 11), .lit (.int .u8 5), .lit (.int .u8 10), .lit (.int .u8 9)]
def laid_math_bits_deBruijn64tab {H : Type} : DataW H := .agg [.lit (.int .u8 0), .lit (.int .u8 1), .lit (.int .u8 56), .lit (.int .u8 2), .lit (.int .u8 57), .lit (.int .u8 49), .lit (.int .u8 28), .lit (.int .u8 3), .lit (.int .u8 61), .lit (.int .u8 58), .lit (.int .u8 42), .lit (.int .u8 50), .lit (.int .u8 38), .lit (.int .u8 29), .lit (.int .u8 17), .lit (.int .u8 4), .lit (.int .u8 62), .lit (.int .u8 47), .lit (.int .u8 59), .lit (.int .u8 36), .lit (.int .u8 45), .lit (.int .u8 43), .lit (.int .u8 51), .lit (.int .u8 22), .lit (.int .u8 53), .lit (.int .u8 39), .lit (.int .u8 33), .lit (.int .u8 30), .lit (.int .u8 24), .lit (.int .u8 18), .lit (.int .u8 12), .lit (.int .u8 5), .lit (.int .u8 63), .lit (.int .u8 55), .lit (.int .u8 48), .lit (.int .u8 27), .lit (.int .u8 60), .lit (.int .u8 41), .lit (.int .u8 37), .lit (.int .u8 16), .lit (.int .u8 46), .lit (.int .u8 35), .lit (.int .u8 44), .lit (.int .u8 21), .lit (.int .u8 52), .lit (.int .u8 32), .lit (.int .u8 23), .lit (.int .u8 11), .lit (.int .u8 54), .lit (.int .u8 26), .lit (.int .u8 40), .lit (.int .u8 15), .lit (.int .u8 34), .lit (.int .u8 20), .lit (.int .u8 31), .lit (.int .u8 10), .lit (.int .u8 25), .lit (.int .u8 14), .lit (.int .u8 19), .lit (.int .u8 9), .lit (.int .u8 13), .lit (.int .u8 8), .lit (.int .u8 7), .lit (.int .u8 6)]
def laid_internal_strconv_uint64pow10 {H : Type} : DataW H := .agg [.lit (.int .u64 1), .lit (.int .u64 10), .lit (.int .u64 100), .lit (.int .u64 1000), .lit (.int .u64 10000), .lit (.int .u64 100000), .lit (.int .u64 1000000), .lit (.int .u64 10000000), .lit (.int .u64 100000000), .lit (.int .u64 1000000000), .lit (.int .u64 10000000000), .lit (.int .u64 100000000000), .lit (.int .u64 1000000000000), .lit (.int .u64 10000000000000), .lit (.int .u64 100000000000000), .lit (.int .u64 1000000000000000), .lit (.int .u64 10000000000000000), .lit (.int .u64 100000000000000000), .lit (.int .u64 1000000000000000000), .lit (.int .u64 10000000000000000000)]
def laid_strconv_ErrRange {H : Type} : DataW H := .iface "*errors.errorString" (.ptr (.agg [.lit (.string [118, 97, 108, 117, 101, 32, 111, 117, 116, 32, 111, 102, 32, 114, 97, 110, 103, 101])]))
def laid_strconv_ErrSyntax {H : Type} : DataW H := .iface "*errors.errorString" (.ptr (.agg [.lit (.string [105, 110, 118, 97, 108, 105, 100, 32, 115, 121, 110, 116, 97, 120])]))

/-- 'laws.FnExactTextJoin': WHATEVER THE INPUT: true; the input reads as it did. -/
def fnExactTextJoinSpec : ChangeSpec := { name := "fnExactTextJoin", vars := ["loop.example/g00009/impl.errArgs", "loop.example/g00009/impl.errLarge", "loop.example/g00009/impl.errZero"], fn := fun _ => fun
  | [d1, d2, g1, g2, g3] => { results := [.lit (.bool true)], args := [d1, d2], vars := [g1, g2, g3] }
  | _ => none }
def fnExactTextJoinRow : OpenClaim := { program := "ytakbmjndhejfpaadoor", sum := "a00e0ad7054113b5960d31488f7b356cac0640dbf3b0ddebff051e8b24e78724", func := "loop.example/g00009/laws.FnExactTextJoin", spec := "fnExactTextJoin", inPlace := ["internal/abi.NoEscape", "internal/bytealg.MakeNoZero", "internal/reflectlite.TypeOf"], unfollowed := true, recurses := true, named := ["loop.example/g00009/impl.errArgs", "loop.example/g00009/impl.errLarge", "unicode/utf8.first", "unicode/utf8.acceptRanges", "loop.example/g00009/impl.errZero"], ifaces := true, apart := false, laid := [("unicode/utf8.acceptRanges", laid_unicode_utf8_acceptRanges), ("loop.example/g00009/impl.errArgs", laid_loop_example_g00009_impl_errArgs), ("loop.example/g00009/impl.errZero", laid_loop_example_g00009_impl_errZero), ("loop.example/g00009/impl.errLarge", laid_loop_example_g00009_impl_errLarge), ("unicode/utf8.first", laid_unicode_utf8_first)] }
def FnExactTextJoinSaid : Prop := fnExactTextJoinRow.holds Tryd.pinned (OpenSpec.ofChange fnExactTextJoinSpec)

/-- ITS FALSE NEIGHBOUR: 'it returns false'. Refute it at one input. -/
def fnExactTextJoinWrong : ChangeSpec := { name := "fnExactTextJoin", vars := ["loop.example/g00009/impl.errArgs", "loop.example/g00009/impl.errLarge", "loop.example/g00009/impl.errZero"], fn := fun _ => fun
  | [d1, d2, g1, g2, g3] => { results := [.lit (.bool false)], args := [d1, d2], vars := [g1, g2, g3] }
  | _ => none }
def FnExactTextJoinWrongFalsely : Prop := fnExactTextJoinRow.holds Tryd.pinned (OpenSpec.ofChange fnExactTextJoinWrong)

/-- 'laws.FnExactTextReplace': WHATEVER THE INPUT: true; the input reads as it did. -/
def fnExactTextReplaceSpec : ChangeSpec := { name := "fnExactTextReplace", vars := ["loop.example/g00009/impl.errArgs", "loop.example/g00009/impl.errLarge", "loop.example/g00009/impl.errZero"], fn := fun _ => fun
  | [d1, d2, d3, g1, g2, g3] => { results := [.lit (.bool true)], args := [d1, d2, d3], vars := [g1, g2, g3] }
  | _ => none }
def fnExactTextReplaceRow : OpenClaim := { program := "ytakbmjndhejfpaadoor", sum := "a00e0ad7054113b5960d31488f7b356cac0640dbf3b0ddebff051e8b24e78724", func := "loop.example/g00009/laws.FnExactTextReplace", spec := "fnExactTextReplace", inPlace := ["internal/bytealg.CountString", "internal/bytealg.IndexByteString", "internal/bytealg.IndexString", "internal/abi.NoEscape", "internal/bytealg.MakeNoZero", "internal/reflectlite.TypeOf"], unfollowed := true, recurses := true, named := ["loop.example/g00009/impl.errArgs", "loop.example/g00009/impl.errLarge", "unicode/utf8.first", "unicode/utf8.acceptRanges", "internal/bytealg.MaxLen", "loop.example/g00009/impl.errZero"], ifaces := true, apart := false, laid := [("unicode/utf8.acceptRanges", laid_unicode_utf8_acceptRanges), ("loop.example/g00009/impl.errArgs", laid_loop_example_g00009_impl_errArgs), ("loop.example/g00009/impl.errZero", laid_loop_example_g00009_impl_errZero), ("loop.example/g00009/impl.errLarge", laid_loop_example_g00009_impl_errLarge), ("unicode/utf8.first", laid_unicode_utf8_first)] }
def FnExactTextReplaceSaid : Prop := fnExactTextReplaceRow.holds Tryd.pinned (OpenSpec.ofChange fnExactTextReplaceSpec)

/-- ITS FALSE NEIGHBOUR: 'it returns false'. Refute it at one input. -/
def fnExactTextReplaceWrong : ChangeSpec := { name := "fnExactTextReplace", vars := ["loop.example/g00009/impl.errArgs", "loop.example/g00009/impl.errLarge", "loop.example/g00009/impl.errZero"], fn := fun _ => fun
  | [d1, d2, d3, g1, g2, g3] => { results := [.lit (.bool false)], args := [d1, d2, d3], vars := [g1, g2, g3] }
  | _ => none }
def FnExactTextReplaceWrongFalsely : Prop := fnExactTextReplaceRow.holds Tryd.pinned (OpenSpec.ofChange fnExactTextReplaceWrong)

/-- 'laws.FnExactTextStrip': WHATEVER THE INPUT: true; the input reads as it did. -/
def fnExactTextStripSpec : ChangeSpec := { name := "fnExactTextStrip", fn := fun _ => fun
  | [d1, d2, d3] => { results := [.lit (.bool true)], args := [d1, d2, d3] }
  | _ => none }
def fnExactTextStripRow : OpenClaim := { program := "ytakbmjndhejfpaadoor", sum := "a00e0ad7054113b5960d31488f7b356cac0640dbf3b0ddebff051e8b24e78724", func := "loop.example/g00009/laws.FnExactTextStrip", spec := "fnExactTextStrip", inPlace := ["internal/bytealg.IndexByteString", "internal/bytealg.IndexString"], named := ["unicode/utf8.first", "unicode/utf8.acceptRanges", "internal/bytealg.MaxLen"], apart := false, laid := [("unicode/utf8.acceptRanges", laid_unicode_utf8_acceptRanges), ("unicode/utf8.first", laid_unicode_utf8_first)] }
def FnExactTextStripSaid : Prop := fnExactTextStripRow.holds Tryd.pinned (OpenSpec.ofChange fnExactTextStripSpec)

/-- ITS FALSE NEIGHBOUR: 'it returns false'. Refute it at one input. -/
def fnExactTextStripWrong : ChangeSpec := { name := "fnExactTextStrip", fn := fun _ => fun
  | [d1, d2, d3] => { results := [.lit (.bool false)], args := [d1, d2, d3] }
  | _ => none }
def FnExactTextStripWrongFalsely : Prop := fnExactTextStripRow.holds Tryd.pinned (OpenSpec.ofChange fnExactTextStripWrong)

/-- 'laws.FnExactStrValue': WHATEVER THE INPUT: true; the input reads as it did. -/
def fnExactStrValueSpec : ChangeSpec := { name := "fnExactStrValue", fn := fun _ => fun
  | [d] => { results := [.lit (.bool true)], args := [d] }
  | _ => none }
def fnExactStrValueRow : OpenClaim := { program := "ytakbmjndhejfpaadoor", sum := "a00e0ad7054113b5960d31488f7b356cac0640dbf3b0ddebff051e8b24e78724", func := "loop.example/g00009/laws.FnExactStrValue", spec := "fnExactStrValue", inPlace := ["internal/bytealg.IndexByteString", "internal/bytealg.IndexString", "internal/abi.NoEscape"], named := ["unicode/utf8.first", "unicode/utf8.acceptRanges", "internal/bytealg.MaxLen", "strconv.ErrSyntax", "strconv.ErrRange", "internal/strconv.uint64pow10", "math/bits.deBruijn32tab", "math/bits.deBruijn64tab"], apart := false, laid := [("math/bits.deBruijn32tab", laid_math_bits_deBruijn32tab), ("math/bits.deBruijn64tab", laid_math_bits_deBruijn64tab), ("internal/strconv.uint64pow10", laid_internal_strconv_uint64pow10), ("unicode/utf8.acceptRanges", laid_unicode_utf8_acceptRanges), ("strconv.ErrRange", laid_strconv_ErrRange), ("strconv.ErrSyntax", laid_strconv_ErrSyntax), ("unicode/utf8.first", laid_unicode_utf8_first)] }
def FnExactStrValueSaid : Prop := fnExactStrValueRow.holds Tryd.pinned (OpenSpec.ofChange fnExactStrValueSpec)

/-- ITS FALSE NEIGHBOUR: 'it returns false'. Refute it at one input. -/
def fnExactStrValueWrong : ChangeSpec := { name := "fnExactStrValue", fn := fun _ => fun
  | [d] => { results := [.lit (.bool false)], args := [d] }
  | _ => none }
def FnExactStrValueWrongFalsely : Prop := fnExactStrValueRow.holds Tryd.pinned (OpenSpec.ofChange fnExactStrValueWrong)

/-- 'laws.FnExactTextSplit': WHATEVER THE INPUT: true; the input reads as it did. -/
def fnExactTextSplitSpec : ChangeSpec := { name := "fnExactTextSplit", fn := fun _ => fun
  | [d1, d2] => { results := [.lit (.bool true)], args := [d1, d2] }
  | _ => none }
def fnExactTextSplitRow : OpenClaim := { program := "ytakbmjndhejfpaadoor", sum := "a00e0ad7054113b5960d31488f7b356cac0640dbf3b0ddebff051e8b24e78724", func := "loop.example/g00009/laws.FnExactTextSplit", spec := "fnExactTextSplit", inPlace := ["internal/bytealg.CountString", "internal/bytealg.IndexByteString", "internal/bytealg.IndexString"], named := ["unicode/utf8.first", "unicode/utf8.acceptRanges", "internal/bytealg.MaxLen"], apart := false, laid := [("unicode/utf8.acceptRanges", laid_unicode_utf8_acceptRanges), ("unicode/utf8.first", laid_unicode_utf8_first)] }
def FnExactTextSplitSaid : Prop := fnExactTextSplitRow.holds Tryd.pinned (OpenSpec.ofChange fnExactTextSplitSpec)

/-- ITS FALSE NEIGHBOUR: 'it returns false'. Refute it at one input. -/
def fnExactTextSplitWrong : ChangeSpec := { name := "fnExactTextSplit", fn := fun _ => fun
  | [d1, d2] => { results := [.lit (.bool false)], args := [d1, d2] }
  | _ => none }
def FnExactTextSplitWrongFalsely : Prop := fnExactTextSplitRow.holds Tryd.pinned (OpenSpec.ofChange fnExactTextSplitWrong)

/-- 'laws.FnExactTextTimes': WHATEVER THE INPUT: true; the input reads as it did. -/
def fnExactTextTimesSpec : ChangeSpec := { name := "fnExactTextTimes", vars := ["loop.example/g00009/impl.errArgs", "loop.example/g00009/impl.errLarge", "loop.example/g00009/impl.errZero"], fn := fun _ => fun
  | [d1, d2, g1, g2, g3] => { results := [.lit (.bool true)], args := [d1, d2], vars := [g1, g2, g3] }
  | _ => none }
def fnExactTextTimesRow : OpenClaim := { program := "ytakbmjndhejfpaadoor", sum := "a00e0ad7054113b5960d31488f7b356cac0640dbf3b0ddebff051e8b24e78724", func := "loop.example/g00009/laws.FnExactTextTimes", spec := "fnExactTextTimes", inPlace := ["internal/abi.NoEscape", "internal/bytealg.MakeNoZero", "internal/reflectlite.TypeOf"], unfollowed := true, recurses := true, named := ["loop.example/g00009/impl.errArgs", "loop.example/g00009/impl.errLarge", "unicode/utf8.first", "unicode/utf8.acceptRanges", "loop.example/g00009/impl.errZero"], ifaces := true, apart := false, laid := [("unicode/utf8.acceptRanges", laid_unicode_utf8_acceptRanges), ("loop.example/g00009/impl.errArgs", laid_loop_example_g00009_impl_errArgs), ("loop.example/g00009/impl.errZero", laid_loop_example_g00009_impl_errZero), ("loop.example/g00009/impl.errLarge", laid_loop_example_g00009_impl_errLarge), ("unicode/utf8.first", laid_unicode_utf8_first)] }
def FnExactTextTimesSaid : Prop := fnExactTextTimesRow.holds Tryd.pinned (OpenSpec.ofChange fnExactTextTimesSpec)

/-- ITS FALSE NEIGHBOUR: 'it returns false'. Refute it at one input. -/
def fnExactTextTimesWrong : ChangeSpec := { name := "fnExactTextTimes", vars := ["loop.example/g00009/impl.errArgs", "loop.example/g00009/impl.errLarge", "loop.example/g00009/impl.errZero"], fn := fun _ => fun
  | [d1, d2, g1, g2, g3] => { results := [.lit (.bool false)], args := [d1, d2], vars := [g1, g2, g3] }
  | _ => none }
def FnExactTextTimesWrongFalsely : Prop := fnExactTextTimesRow.holds Tryd.pinned (OpenSpec.ofChange fnExactTextTimesWrong)

/-- 'laws.FnExactTextRepr': WHATEVER THE INPUT: true; the input reads as it did. -/
def fnExactTextReprSpec : ChangeSpec := { name := "fnExactTextRepr", fn := fun _ => fun
  | [d] => { results := [.lit (.bool true)], args := [d] }
  | _ => none }
def fnExactTextReprRow : OpenClaim := { program := "ytakbmjndhejfpaadoor", sum := "a00e0ad7054113b5960d31488f7b356cac0640dbf3b0ddebff051e8b24e78724", func := "loop.example/g00009/laws.FnExactTextRepr", spec := "fnExactTextRepr", inPlace := ["internal/bytealg.IndexByteString", "internal/bytealg.IndexString", "internal/abi.NoEscape"], named := ["unicode/utf8.first", "unicode/utf8.acceptRanges", "internal/bytealg.MaxLen"], apart := false, laid := [("unicode/utf8.acceptRanges", laid_unicode_utf8_acceptRanges), ("unicode/utf8.first", laid_unicode_utf8_first)] }
def FnExactTextReprSaid : Prop := fnExactTextReprRow.holds Tryd.pinned (OpenSpec.ofChange fnExactTextReprSpec)

/-- ITS FALSE NEIGHBOUR: 'it returns false'. Refute it at one input. -/
def fnExactTextReprWrong : ChangeSpec := { name := "fnExactTextRepr", fn := fun _ => fun
  | [d] => { results := [.lit (.bool false)], args := [d] }
  | _ => none }
def FnExactTextReprWrongFalsely : Prop := fnExactTextReprRow.holds Tryd.pinned (OpenSpec.ofChange fnExactTextReprWrong)

/- THE SECOND FORM. 'bulk': how many values and letters a reading holds, each counted each time it is reached (what is shared counts as often as it is met; a slice's spare places count too). A statement '..UptoSaid' is the law's where the arguments, and the package variables that the reading takes, are together of bulk at most 1048576: NARROWER than '..Said'. Prove '..Said' where nothing that the law and all that it calls make is longer than what came in: it says more and counts as full. Else prove '..UptoSaid'. A law counts once. -/
mutual
def uptoBulk {H : Type} : DataW H → Nat
  | .lit (.string bytes) => bytes.length + 1
  | .lit _ => 1
  | .nil => 1
  | .ptr d => uptoBulk d + 1
  | .slice elems spare => uptoBulkAll elems + uptoBulkAll spare + 1
  | .agg parts => uptoBulkAll parts + 1
  | .iface _ d => uptoBulk d + 1
  | .map entries => uptoBulkEntries entries + 1
  | .held _ => 1
def uptoBulkAll {H : Type} : List (DataW H) → Nat
  | [] => 0
  | d :: r => uptoBulk d + uptoBulkAll r
def uptoBulkEntries {H : Type} : List (Lit × DataW H) → Nat
  | [] => 0
  | x :: r => uptoBulkEntry x + uptoBulkEntries r
def uptoBulkEntry {H : Type} : Lit × DataW H → Nat
  | (.string bytes, d) => bytes.length + uptoBulk d + 1
  | (_, d) => uptoBulk d + 1
 end
def uptoSmall : (H : Type) → List (DataW H) → Bool := fun _ ds => decide (uptoBulkAll ds ≤ 1048576)
def OpenSpec.upto (s : _root_.Go.ChangeSpec) : _root_.Go.OpenSpec := { _root_.Go.OpenSpec.ofChange s with cond := some uptoSmall }

/-- 'laws.FnExactTextJoin', WHERE WHAT IT READS IS OF BULK AT MOST 1048576: true; the input reads as it did. -/
def fnExactTextJoinUptoRow : OpenClaim := { program := "ytakbmjndhejfpaadoor", sum := "a00e0ad7054113b5960d31488f7b356cac0640dbf3b0ddebff051e8b24e78724", func := "loop.example/g00009/laws.FnExactTextJoin", spec := "fnExactTextJoin", inPlace := ["internal/abi.NoEscape", "internal/bytealg.MakeNoZero", "internal/reflectlite.TypeOf"], unfollowed := true, recurses := true, named := ["loop.example/g00009/impl.errArgs", "loop.example/g00009/impl.errLarge", "unicode/utf8.first", "unicode/utf8.acceptRanges", "loop.example/g00009/impl.errZero"], ifaces := true, apart := false, laid := [("unicode/utf8.acceptRanges", laid_unicode_utf8_acceptRanges), ("loop.example/g00009/impl.errArgs", laid_loop_example_g00009_impl_errArgs), ("loop.example/g00009/impl.errZero", laid_loop_example_g00009_impl_errZero), ("loop.example/g00009/impl.errLarge", laid_loop_example_g00009_impl_errLarge), ("unicode/utf8.first", laid_unicode_utf8_first)], narrowed := true }
def FnExactTextJoinUptoSaid : Prop := fnExactTextJoinUptoRow.holds Tryd.pinned (OpenSpec.upto fnExactTextJoinSpec)

/-- 'laws.FnExactTextReplace', WHERE WHAT IT READS IS OF BULK AT MOST 1048576: true; the input reads as it did. -/
def fnExactTextReplaceUptoRow : OpenClaim := { program := "ytakbmjndhejfpaadoor", sum := "a00e0ad7054113b5960d31488f7b356cac0640dbf3b0ddebff051e8b24e78724", func := "loop.example/g00009/laws.FnExactTextReplace", spec := "fnExactTextReplace", inPlace := ["internal/bytealg.CountString", "internal/bytealg.IndexByteString", "internal/bytealg.IndexString", "internal/abi.NoEscape", "internal/bytealg.MakeNoZero", "internal/reflectlite.TypeOf"], unfollowed := true, recurses := true, named := ["loop.example/g00009/impl.errArgs", "loop.example/g00009/impl.errLarge", "unicode/utf8.first", "unicode/utf8.acceptRanges", "internal/bytealg.MaxLen", "loop.example/g00009/impl.errZero"], ifaces := true, apart := false, laid := [("unicode/utf8.acceptRanges", laid_unicode_utf8_acceptRanges), ("loop.example/g00009/impl.errArgs", laid_loop_example_g00009_impl_errArgs), ("loop.example/g00009/impl.errZero", laid_loop_example_g00009_impl_errZero), ("loop.example/g00009/impl.errLarge", laid_loop_example_g00009_impl_errLarge), ("unicode/utf8.first", laid_unicode_utf8_first)], narrowed := true }
def FnExactTextReplaceUptoSaid : Prop := fnExactTextReplaceUptoRow.holds Tryd.pinned (OpenSpec.upto fnExactTextReplaceSpec)

/-- 'laws.FnExactTextStrip', WHERE WHAT IT READS IS OF BULK AT MOST 1048576: true; the input reads as it did. -/
def fnExactTextStripUptoRow : OpenClaim := { program := "ytakbmjndhejfpaadoor", sum := "a00e0ad7054113b5960d31488f7b356cac0640dbf3b0ddebff051e8b24e78724", func := "loop.example/g00009/laws.FnExactTextStrip", spec := "fnExactTextStrip", inPlace := ["internal/bytealg.IndexByteString", "internal/bytealg.IndexString"], named := ["unicode/utf8.first", "unicode/utf8.acceptRanges", "internal/bytealg.MaxLen"], apart := false, laid := [("unicode/utf8.acceptRanges", laid_unicode_utf8_acceptRanges), ("unicode/utf8.first", laid_unicode_utf8_first)], narrowed := true }
def FnExactTextStripUptoSaid : Prop := fnExactTextStripUptoRow.holds Tryd.pinned (OpenSpec.upto fnExactTextStripSpec)

/-- 'laws.FnExactStrValue', WHERE WHAT IT READS IS OF BULK AT MOST 1048576: true; the input reads as it did. -/
def fnExactStrValueUptoRow : OpenClaim := { program := "ytakbmjndhejfpaadoor", sum := "a00e0ad7054113b5960d31488f7b356cac0640dbf3b0ddebff051e8b24e78724", func := "loop.example/g00009/laws.FnExactStrValue", spec := "fnExactStrValue", inPlace := ["internal/bytealg.IndexByteString", "internal/bytealg.IndexString", "internal/abi.NoEscape"], named := ["unicode/utf8.first", "unicode/utf8.acceptRanges", "internal/bytealg.MaxLen", "strconv.ErrSyntax", "strconv.ErrRange", "internal/strconv.uint64pow10", "math/bits.deBruijn32tab", "math/bits.deBruijn64tab"], apart := false, laid := [("math/bits.deBruijn32tab", laid_math_bits_deBruijn32tab), ("math/bits.deBruijn64tab", laid_math_bits_deBruijn64tab), ("internal/strconv.uint64pow10", laid_internal_strconv_uint64pow10), ("unicode/utf8.acceptRanges", laid_unicode_utf8_acceptRanges), ("strconv.ErrRange", laid_strconv_ErrRange), ("strconv.ErrSyntax", laid_strconv_ErrSyntax), ("unicode/utf8.first", laid_unicode_utf8_first)], narrowed := true }
def FnExactStrValueUptoSaid : Prop := fnExactStrValueUptoRow.holds Tryd.pinned (OpenSpec.upto fnExactStrValueSpec)

/-- 'laws.FnExactTextSplit', WHERE WHAT IT READS IS OF BULK AT MOST 1048576: true; the input reads as it did. -/
def fnExactTextSplitUptoRow : OpenClaim := { program := "ytakbmjndhejfpaadoor", sum := "a00e0ad7054113b5960d31488f7b356cac0640dbf3b0ddebff051e8b24e78724", func := "loop.example/g00009/laws.FnExactTextSplit", spec := "fnExactTextSplit", inPlace := ["internal/bytealg.CountString", "internal/bytealg.IndexByteString", "internal/bytealg.IndexString"], named := ["unicode/utf8.first", "unicode/utf8.acceptRanges", "internal/bytealg.MaxLen"], apart := false, laid := [("unicode/utf8.acceptRanges", laid_unicode_utf8_acceptRanges), ("unicode/utf8.first", laid_unicode_utf8_first)], narrowed := true }
def FnExactTextSplitUptoSaid : Prop := fnExactTextSplitUptoRow.holds Tryd.pinned (OpenSpec.upto fnExactTextSplitSpec)

/-- 'laws.FnExactTextTimes', WHERE WHAT IT READS IS OF BULK AT MOST 1048576: true; the input reads as it did. -/
def fnExactTextTimesUptoRow : OpenClaim := { program := "ytakbmjndhejfpaadoor", sum := "a00e0ad7054113b5960d31488f7b356cac0640dbf3b0ddebff051e8b24e78724", func := "loop.example/g00009/laws.FnExactTextTimes", spec := "fnExactTextTimes", inPlace := ["internal/abi.NoEscape", "internal/bytealg.MakeNoZero", "internal/reflectlite.TypeOf"], unfollowed := true, recurses := true, named := ["loop.example/g00009/impl.errArgs", "loop.example/g00009/impl.errLarge", "unicode/utf8.first", "unicode/utf8.acceptRanges", "loop.example/g00009/impl.errZero"], ifaces := true, apart := false, laid := [("unicode/utf8.acceptRanges", laid_unicode_utf8_acceptRanges), ("loop.example/g00009/impl.errArgs", laid_loop_example_g00009_impl_errArgs), ("loop.example/g00009/impl.errZero", laid_loop_example_g00009_impl_errZero), ("loop.example/g00009/impl.errLarge", laid_loop_example_g00009_impl_errLarge), ("unicode/utf8.first", laid_unicode_utf8_first)], narrowed := true }
def FnExactTextTimesUptoSaid : Prop := fnExactTextTimesUptoRow.holds Tryd.pinned (OpenSpec.upto fnExactTextTimesSpec)

/-- 'laws.FnExactTextRepr', WHERE WHAT IT READS IS OF BULK AT MOST 1048576: true; the input reads as it did. -/
def fnExactTextReprUptoRow : OpenClaim := { program := "ytakbmjndhejfpaadoor", sum := "a00e0ad7054113b5960d31488f7b356cac0640dbf3b0ddebff051e8b24e78724", func := "loop.example/g00009/laws.FnExactTextRepr", spec := "fnExactTextRepr", inPlace := ["internal/bytealg.IndexByteString", "internal/bytealg.IndexString", "internal/abi.NoEscape"], named := ["unicode/utf8.first", "unicode/utf8.acceptRanges", "internal/bytealg.MaxLen"], apart := false, laid := [("unicode/utf8.acceptRanges", laid_unicode_utf8_acceptRanges), ("unicode/utf8.first", laid_unicode_utf8_first)], narrowed := true }
def FnExactTextReprUptoSaid : Prop := fnExactTextReprUptoRow.holds Tryd.pinned (OpenSpec.upto fnExactTextReprSpec)

end Rows
end Go.Proofs.YtakbmjndhejfpaaDoor
