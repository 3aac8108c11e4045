/-
  No cell of these rows narrows 'for every input' (looked for: loops, veiled, ifaces, maps, wideKeys, modest, calm, conditions, laid).
  DERIVED. THE GIVEN ROWS OF THIS SEAT. 13 by the template 'for every input the law returns true; each argument reads behind the call as it read before'; 0 by the template 'total and deterministic' (their statements: YtkmbmbeglemocaaTotals.lean).
  GIVEN WITH THE SEED: the statements are not yours to turn. If you find one false, say at which input.
  Laid BY PROGRAM, IN A SANDBOX (cutbox-rows.mjs): the forced cells as the released guide's own fill.sh prints them over the translation 1763dae7ecdc308b… (all of the seat's roots in one cut). By AI agents, Wed Nov 11 2026. No macro, syntax, notation, axiom, sorry.
-/
import Derived.Test.YtkmbmbeglemocaaChecked
import GoSem.Claim
import GoSem.ClaimJoined
import GoSem.ClaimMapViews
import Derived.JoinedTies
import Derived.KernelRfl
namespace Go.Proofs.Ytkmbmbeglemocaa
/- THE CELL 'sum', in the pinned program and in every row, IS THE sha256 OF THE DUMP (.gsa) THAT YtkmbmbeglemocaaProg.lean LOADS. Nothing in Lean hashes anything: it is a label: what it is worth is what the hold of that sum in a sandbox is worth. -/
noncomputable def Try.pinned : Pinned := { name := "ytkmbmbeglemocaa", sum := "1763dae7ecdc308b484f39b51aaa3649febd3666a041ca844f35b1a0e927c0cf", checked := Try.checked }
namespace Rows
def none {H : Type} : Left H := { results := [], args := [] }

/-- 'laws.FnExactBigOk': WHATEVER THE INPUT: true; the input reads as it did. -/
def fnExactBigOkSpec : ChangeSpec := { name := "fnExactBigOk", fn := fun _ => fun
  | [d] => { results := [.lit (.bool true)], args := [d] }
  | _ => none }
def fnExactBigOkRow : OpenClaim := { program := "ytkmbmbeglemocaa", sum := "1763dae7ecdc308b484f39b51aaa3649febd3666a041ca844f35b1a0e927c0cf", func := "loop.example/g00009/laws.FnExactBigOk", spec := "fnExactBigOk", apart := false }
def FnExactBigOkSaid : Prop := fnExactBigOkRow.holds Try.pinned (OpenSpec.ofChange fnExactBigOkSpec)

/-- ITS FALSE NEIGHBOUR: 'it returns false'. Refute it at one input. -/
def fnExactBigOkWrong : ChangeSpec := { name := "fnExactBigOk", fn := fun _ => fun
  | [d] => { results := [.lit (.bool false)], args := [d] }
  | _ => none }
def FnExactBigOkWrongFalsely : Prop := fnExactBigOkRow.holds Try.pinned (OpenSpec.ofChange fnExactBigOkWrong)

/-- 'laws.FnExactBigOf': WHATEVER THE INPUT: true; the input reads as it did. -/
def fnExactBigOfSpec : ChangeSpec := { name := "fnExactBigOf", fn := fun _ => fun
  | [d] => { results := [.lit (.bool true)], args := [d] }
  | _ => none }
def fnExactBigOfRow : OpenClaim := { program := "ytkmbmbeglemocaa", sum := "1763dae7ecdc308b484f39b51aaa3649febd3666a041ca844f35b1a0e927c0cf", func := "loop.example/g00009/laws.FnExactBigOf", spec := "fnExactBigOf", apart := false }
def FnExactBigOfSaid : Prop := fnExactBigOfRow.holds Try.pinned (OpenSpec.ofChange fnExactBigOfSpec)

/-- ITS FALSE NEIGHBOUR: 'it returns false'. Refute it at one input. -/
def fnExactBigOfWrong : ChangeSpec := { name := "fnExactBigOf", fn := fun _ => fun
  | [d] => { results := [.lit (.bool false)], args := [d] }
  | _ => none }
def FnExactBigOfWrongFalsely : Prop := fnExactBigOfRow.holds Try.pinned (OpenSpec.ofChange fnExactBigOfWrong)

/-- 'laws.FnExactBigInt': WHATEVER THE INPUT: true; the input reads as it did. -/
def fnExactBigIntSpec : ChangeSpec := { name := "fnExactBigInt", fn := fun _ => fun
  | [d] => { results := [.lit (.bool true)], args := [d] }
  | _ => none }
def fnExactBigIntRow : OpenClaim := { program := "ytkmbmbeglemocaa", sum := "1763dae7ecdc308b484f39b51aaa3649febd3666a041ca844f35b1a0e927c0cf", func := "loop.example/g00009/laws.FnExactBigInt", spec := "fnExactBigInt", apart := false }
def FnExactBigIntSaid : Prop := fnExactBigIntRow.holds Try.pinned (OpenSpec.ofChange fnExactBigIntSpec)

/-- ITS FALSE NEIGHBOUR: 'it returns false'. Refute it at one input. -/
def fnExactBigIntWrong : ChangeSpec := { name := "fnExactBigInt", fn := fun _ => fun
  | [d] => { results := [.lit (.bool false)], args := [d] }
  | _ => none }
def FnExactBigIntWrongFalsely : Prop := fnExactBigIntRow.holds Try.pinned (OpenSpec.ofChange fnExactBigIntWrong)

/-- 'laws.FnExactBigRead': WHATEVER THE INPUT: true; the input reads as it did. -/
def fnExactBigReadSpec : ChangeSpec := { name := "fnExactBigRead", fn := fun _ => fun
  | [d1, d2] => { results := [.lit (.bool true)], args := [d1, d2] }
  | _ => none }
def fnExactBigReadRow : OpenClaim := { program := "ytkmbmbeglemocaa", sum := "1763dae7ecdc308b484f39b51aaa3649febd3666a041ca844f35b1a0e927c0cf", func := "loop.example/g00009/laws.FnExactBigRead", spec := "fnExactBigRead", inPlace := ["internal/bytealg.IndexByteString"], unfollowed := true, recurses := true, apart := false }
def FnExactBigReadSaid : Prop := fnExactBigReadRow.holds Try.pinned (OpenSpec.ofChange fnExactBigReadSpec)

/-- ITS FALSE NEIGHBOUR: 'it returns false'. Refute it at one input. -/
def fnExactBigReadWrong : ChangeSpec := { name := "fnExactBigRead", fn := fun _ => fun
  | [d1, d2] => { results := [.lit (.bool false)], args := [d1, d2] }
  | _ => none }
def FnExactBigReadWrongFalsely : Prop := fnExactBigReadRow.holds Try.pinned (OpenSpec.ofChange fnExactBigReadWrong)

/-- 'laws.FnExactBigCmp': WHATEVER THE INPUT: true; the input reads as it did. -/
def fnExactBigCmpSpec : ChangeSpec := { name := "fnExactBigCmp", fn := fun _ => fun
  | [d1, d2] => { results := [.lit (.bool true)], args := [d1, d2] }
  | _ => none }
def fnExactBigCmpRow : OpenClaim := { program := "ytkmbmbeglemocaa", sum := "1763dae7ecdc308b484f39b51aaa3649febd3666a041ca844f35b1a0e927c0cf", func := "loop.example/g00009/laws.FnExactBigCmp", spec := "fnExactBigCmp", apart := false }
def FnExactBigCmpSaid : Prop := fnExactBigCmpRow.holds Try.pinned (OpenSpec.ofChange fnExactBigCmpSpec)

/-- ITS FALSE NEIGHBOUR: 'it returns false'. Refute it at one input. -/
def fnExactBigCmpWrong : ChangeSpec := { name := "fnExactBigCmp", fn := fun _ => fun
  | [d1, d2] => { results := [.lit (.bool false)], args := [d1, d2] }
  | _ => none }
def FnExactBigCmpWrongFalsely : Prop := fnExactBigCmpRow.holds Try.pinned (OpenSpec.ofChange fnExactBigCmpWrong)

/-- 'laws.FnExactBigBits': WHATEVER THE INPUT: true; the input reads as it did. -/
def fnExactBigBitsSpec : ChangeSpec := { name := "fnExactBigBits", fn := fun _ => fun
  | [d] => { results := [.lit (.bool true)], args := [d] }
  | _ => none }
def fnExactBigBitsRow : OpenClaim := { program := "ytkmbmbeglemocaa", sum := "1763dae7ecdc308b484f39b51aaa3649febd3666a041ca844f35b1a0e927c0cf", func := "loop.example/g00009/laws.FnExactBigBits", spec := "fnExactBigBits", apart := false }
def FnExactBigBitsSaid : Prop := fnExactBigBitsRow.holds Try.pinned (OpenSpec.ofChange fnExactBigBitsSpec)

/-- ITS FALSE NEIGHBOUR: 'it returns false'. Refute it at one input. -/
def fnExactBigBitsWrong : ChangeSpec := { name := "fnExactBigBits", fn := fun _ => fun
  | [d] => { results := [.lit (.bool false)], args := [d] }
  | _ => none }
def FnExactBigBitsWrongFalsely : Prop := fnExactBigBitsRow.holds Try.pinned (OpenSpec.ofChange fnExactBigBitsWrong)

/-- 'laws.FnExactBigAdd': WHATEVER THE INPUT: true; the input reads as it did. -/
def fnExactBigAddSpec : ChangeSpec := { name := "fnExactBigAdd", fn := fun _ => fun
  | [d1, d2] => { results := [.lit (.bool true)], args := [d1, d2] }
  | _ => none }
def fnExactBigAddRow : OpenClaim := { program := "ytkmbmbeglemocaa", sum := "1763dae7ecdc308b484f39b51aaa3649febd3666a041ca844f35b1a0e927c0cf", func := "loop.example/g00009/laws.FnExactBigAdd", spec := "fnExactBigAdd", apart := false }
def FnExactBigAddSaid : Prop := fnExactBigAddRow.holds Try.pinned (OpenSpec.ofChange fnExactBigAddSpec)

/-- ITS FALSE NEIGHBOUR: 'it returns false'. Refute it at one input. -/
def fnExactBigAddWrong : ChangeSpec := { name := "fnExactBigAdd", fn := fun _ => fun
  | [d1, d2] => { results := [.lit (.bool false)], args := [d1, d2] }
  | _ => none }
def FnExactBigAddWrongFalsely : Prop := fnExactBigAddRow.holds Try.pinned (OpenSpec.ofChange fnExactBigAddWrong)

/-- 'laws.FnExactBigSub': WHATEVER THE INPUT: true; the input reads as it did. -/
def fnExactBigSubSpec : ChangeSpec := { name := "fnExactBigSub", fn := fun _ => fun
  | [d1, d2] => { results := [.lit (.bool true)], args := [d1, d2] }
  | _ => none }
def fnExactBigSubRow : OpenClaim := { program := "ytkmbmbeglemocaa", sum := "1763dae7ecdc308b484f39b51aaa3649febd3666a041ca844f35b1a0e927c0cf", func := "loop.example/g00009/laws.FnExactBigSub", spec := "fnExactBigSub", apart := false }
def FnExactBigSubSaid : Prop := fnExactBigSubRow.holds Try.pinned (OpenSpec.ofChange fnExactBigSubSpec)

/-- ITS FALSE NEIGHBOUR: 'it returns false'. Refute it at one input. -/
def fnExactBigSubWrong : ChangeSpec := { name := "fnExactBigSub", fn := fun _ => fun
  | [d1, d2] => { results := [.lit (.bool false)], args := [d1, d2] }
  | _ => none }
def FnExactBigSubWrongFalsely : Prop := fnExactBigSubRow.holds Try.pinned (OpenSpec.ofChange fnExactBigSubWrong)

/-- 'laws.FnExactBigMul': WHATEVER THE INPUT: true; the input reads as it did. -/
def fnExactBigMulSpec : ChangeSpec := { name := "fnExactBigMul", fn := fun _ => fun
  | [d1, d2] => { results := [.lit (.bool true)], args := [d1, d2] }
  | _ => none }
def fnExactBigMulRow : OpenClaim := { program := "ytkmbmbeglemocaa", sum := "1763dae7ecdc308b484f39b51aaa3649febd3666a041ca844f35b1a0e927c0cf", func := "loop.example/g00009/laws.FnExactBigMul", spec := "fnExactBigMul", apart := false }
def FnExactBigMulSaid : Prop := fnExactBigMulRow.holds Try.pinned (OpenSpec.ofChange fnExactBigMulSpec)

/-- ITS FALSE NEIGHBOUR: 'it returns false'. Refute it at one input. -/
def fnExactBigMulWrong : ChangeSpec := { name := "fnExactBigMul", fn := fun _ => fun
  | [d1, d2] => { results := [.lit (.bool false)], args := [d1, d2] }
  | _ => none }
def FnExactBigMulWrongFalsely : Prop := fnExactBigMulRow.holds Try.pinned (OpenSpec.ofChange fnExactBigMulWrong)

/-- 'laws.FnExactBigDivMod': WHATEVER THE INPUT: true; the input reads as it did. -/
def fnExactBigDivModSpec : ChangeSpec := { name := "fnExactBigDivMod", fn := fun _ => fun
  | [d1, d2] => { results := [.lit (.bool true)], args := [d1, d2] }
  | _ => none }
def fnExactBigDivModRow : OpenClaim := { program := "ytkmbmbeglemocaa", sum := "1763dae7ecdc308b484f39b51aaa3649febd3666a041ca844f35b1a0e927c0cf", func := "loop.example/g00009/laws.FnExactBigDivMod", spec := "fnExactBigDivMod", named := ["math/bits.overflowError"], apart := false }
def FnExactBigDivModSaid : Prop := fnExactBigDivModRow.holds Try.pinned (OpenSpec.ofChange fnExactBigDivModSpec)

/-- ITS FALSE NEIGHBOUR: 'it returns false'. Refute it at one input. -/
def fnExactBigDivModWrong : ChangeSpec := { name := "fnExactBigDivMod", fn := fun _ => fun
  | [d1, d2] => { results := [.lit (.bool false)], args := [d1, d2] }
  | _ => none }
def FnExactBigDivModWrongFalsely : Prop := fnExactBigDivModRow.holds Try.pinned (OpenSpec.ofChange fnExactBigDivModWrong)

/-- 'laws.FnExactBigPow': WHATEVER THE INPUT: true; the input reads as it did. -/
def fnExactBigPowSpec : ChangeSpec := { name := "fnExactBigPow", fn := fun _ => fun
  | [d1, d2] => { results := [.lit (.bool true)], args := [d1, d2] }
  | _ => none }
def fnExactBigPowRow : OpenClaim := { program := "ytkmbmbeglemocaa", sum := "1763dae7ecdc308b484f39b51aaa3649febd3666a041ca844f35b1a0e927c0cf", func := "loop.example/g00009/laws.FnExactBigPow", spec := "fnExactBigPow", apart := false }
def FnExactBigPowSaid : Prop := fnExactBigPowRow.holds Try.pinned (OpenSpec.ofChange fnExactBigPowSpec)

/-- ITS FALSE NEIGHBOUR: 'it returns false'. Refute it at one input. -/
def fnExactBigPowWrong : ChangeSpec := { name := "fnExactBigPow", fn := fun _ => fun
  | [d1, d2] => { results := [.lit (.bool false)], args := [d1, d2] }
  | _ => none }
def FnExactBigPowWrongFalsely : Prop := fnExactBigPowRow.holds Try.pinned (OpenSpec.ofChange fnExactBigPowWrong)

/-- 'laws.FnExactBigShift': WHATEVER THE INPUT: true; the input reads as it did. -/
def fnExactBigShiftSpec : ChangeSpec := { name := "fnExactBigShift", fn := fun _ => fun
  | [d1, d2] => { results := [.lit (.bool true)], args := [d1, d2] }
  | _ => none }
def fnExactBigShiftRow : OpenClaim := { program := "ytkmbmbeglemocaa", sum := "1763dae7ecdc308b484f39b51aaa3649febd3666a041ca844f35b1a0e927c0cf", func := "loop.example/g00009/laws.FnExactBigShift", spec := "fnExactBigShift", apart := false }
def FnExactBigShiftSaid : Prop := fnExactBigShiftRow.holds Try.pinned (OpenSpec.ofChange fnExactBigShiftSpec)

/-- ITS FALSE NEIGHBOUR: 'it returns false'. Refute it at one input. -/
def fnExactBigShiftWrong : ChangeSpec := { name := "fnExactBigShift", fn := fun _ => fun
  | [d1, d2] => { results := [.lit (.bool false)], args := [d1, d2] }
  | _ => none }
def FnExactBigShiftWrongFalsely : Prop := fnExactBigShiftRow.holds Try.pinned (OpenSpec.ofChange fnExactBigShiftWrong)

/-- 'laws.FnExactBigBit': WHATEVER THE INPUT: true; the input reads as it did. -/
def fnExactBigBitSpec : ChangeSpec := { name := "fnExactBigBit", fn := fun _ => fun
  | [d1, d2, d3] => { results := [.lit (.bool true)], args := [d1, d2, d3] }
  | _ => none }
def fnExactBigBitRow : OpenClaim := { program := "ytkmbmbeglemocaa", sum := "1763dae7ecdc308b484f39b51aaa3649febd3666a041ca844f35b1a0e927c0cf", func := "loop.example/g00009/laws.FnExactBigBit", spec := "fnExactBigBit", apart := false }
def FnExactBigBitSaid : Prop := fnExactBigBitRow.holds Try.pinned (OpenSpec.ofChange fnExactBigBitSpec)

/-- ITS FALSE NEIGHBOUR: 'it returns false'. Refute it at one input. -/
def fnExactBigBitWrong : ChangeSpec := { name := "fnExactBigBit", fn := fun _ => fun
  | [d1, d2, d3] => { results := [.lit (.bool false)], args := [d1, d2, d3] }
  | _ => none }
def FnExactBigBitWrongFalsely : Prop := fnExactBigBitRow.holds Try.pinned (OpenSpec.ofChange fnExactBigBitWrong)

/- THE SECOND FORM. 'bulk': how many values and letters a reading holds, each counted each time it is reached (what is shared counts as often as it is met; a slice's spare places count too). A statement '..UptoSaid' is the law's where the arguments, and the package variables that the reading takes, are together of bulk at most 1048576: NARROWER than '..Said'. Prove '..Said' where nothing that the law and all that it calls make is longer than what came in: it says more and counts as full. Else prove '..UptoSaid'. A law counts once. -/
mutual
def uptoBulk {H : Type} : DataW H → Nat
  | .lit (.string bytes) => bytes.length + 1
  | .lit _ => 1
  | .nil => 1
  | .ptr d => uptoBulk d + 1
  | .slice elems spare => uptoBulkAll elems + uptoBulkAll spare + 1
  | .agg parts => uptoBulkAll parts + 1
  | .iface _ d => uptoBulk d + 1
  | .map entries => uptoBulkEntries entries + 1
  | .held _ => 1
def uptoBulkAll {H : Type} : List (DataW H) → Nat
  | [] => 0
  | d :: r => uptoBulk d + uptoBulkAll r
def uptoBulkEntries {H : Type} : List (Lit × DataW H) → Nat
  | [] => 0
  | x :: r => uptoBulkEntry x + uptoBulkEntries r
def uptoBulkEntry {H : Type} : Lit × DataW H → Nat
  | (.string bytes, d) => bytes.length + uptoBulk d + 1
  | (_, d) => uptoBulk d + 1
 end
def uptoSmall : (H : Type) → List (DataW H) → Bool := fun _ ds => decide (uptoBulkAll ds ≤ 1048576)
def OpenSpec.upto (s : _root_.Go.ChangeSpec) : _root_.Go.OpenSpec := { _root_.Go.OpenSpec.ofChange s with cond := some uptoSmall }

/-- 'laws.FnExactBigOk', WHERE WHAT IT READS IS OF BULK AT MOST 1048576: true; the input reads as it did. -/
def fnExactBigOkUptoRow : OpenClaim := { program := "ytkmbmbeglemocaa", sum := "1763dae7ecdc308b484f39b51aaa3649febd3666a041ca844f35b1a0e927c0cf", func := "loop.example/g00009/laws.FnExactBigOk", spec := "fnExactBigOk", apart := false, narrowed := true }
def FnExactBigOkUptoSaid : Prop := fnExactBigOkUptoRow.holds Try.pinned (OpenSpec.upto fnExactBigOkSpec)

/-- 'laws.FnExactBigOf', WHERE WHAT IT READS IS OF BULK AT MOST 1048576: true; the input reads as it did. -/
def fnExactBigOfUptoRow : OpenClaim := { program := "ytkmbmbeglemocaa", sum := "1763dae7ecdc308b484f39b51aaa3649febd3666a041ca844f35b1a0e927c0cf", func := "loop.example/g00009/laws.FnExactBigOf", spec := "fnExactBigOf", apart := false, narrowed := true }
def FnExactBigOfUptoSaid : Prop := fnExactBigOfUptoRow.holds Try.pinned (OpenSpec.upto fnExactBigOfSpec)

/-- 'laws.FnExactBigInt', WHERE WHAT IT READS IS OF BULK AT MOST 1048576: true; the input reads as it did. -/
def fnExactBigIntUptoRow : OpenClaim := { program := "ytkmbmbeglemocaa", sum := "1763dae7ecdc308b484f39b51aaa3649febd3666a041ca844f35b1a0e927c0cf", func := "loop.example/g00009/laws.FnExactBigInt", spec := "fnExactBigInt", apart := false, narrowed := true }
def FnExactBigIntUptoSaid : Prop := fnExactBigIntUptoRow.holds Try.pinned (OpenSpec.upto fnExactBigIntSpec)

/-- 'laws.FnExactBigRead', WHERE WHAT IT READS IS OF BULK AT MOST 1048576: true; the input reads as it did. -/
def fnExactBigReadUptoRow : OpenClaim := { program := "ytkmbmbeglemocaa", sum := "1763dae7ecdc308b484f39b51aaa3649febd3666a041ca844f35b1a0e927c0cf", func := "loop.example/g00009/laws.FnExactBigRead", spec := "fnExactBigRead", inPlace := ["internal/bytealg.IndexByteString"], unfollowed := true, recurses := true, apart := false, narrowed := true }
def FnExactBigReadUptoSaid : Prop := fnExactBigReadUptoRow.holds Try.pinned (OpenSpec.upto fnExactBigReadSpec)

/-- 'laws.FnExactBigCmp', WHERE WHAT IT READS IS OF BULK AT MOST 1048576: true; the input reads as it did. -/
def fnExactBigCmpUptoRow : OpenClaim := { program := "ytkmbmbeglemocaa", sum := "1763dae7ecdc308b484f39b51aaa3649febd3666a041ca844f35b1a0e927c0cf", func := "loop.example/g00009/laws.FnExactBigCmp", spec := "fnExactBigCmp", apart := false, narrowed := true }
def FnExactBigCmpUptoSaid : Prop := fnExactBigCmpUptoRow.holds Try.pinned (OpenSpec.upto fnExactBigCmpSpec)

/-- 'laws.FnExactBigBits', WHERE WHAT IT READS IS OF BULK AT MOST 1048576: true; the input reads as it did. -/
def fnExactBigBitsUptoRow : OpenClaim := { program := "ytkmbmbeglemocaa", sum := "1763dae7ecdc308b484f39b51aaa3649febd3666a041ca844f35b1a0e927c0cf", func := "loop.example/g00009/laws.FnExactBigBits", spec := "fnExactBigBits", apart := false, narrowed := true }
def FnExactBigBitsUptoSaid : Prop := fnExactBigBitsUptoRow.holds Try.pinned (OpenSpec.upto fnExactBigBitsSpec)

/-- 'laws.FnExactBigAdd', WHERE WHAT IT READS IS OF BULK AT MOST 1048576: true; the input reads as it did. -/
def fnExactBigAddUptoRow : OpenClaim := { program := "ytkmbmbeglemocaa", sum := "1763dae7ecdc308b484f39b51aaa3649febd3666a041ca844f35b1a0e927c0cf", func := "loop.example/g00009/laws.FnExactBigAdd", spec := "fnExactBigAdd", apart := false, narrowed := true }
def FnExactBigAddUptoSaid : Prop := fnExactBigAddUptoRow.holds Try.pinned (OpenSpec.upto fnExactBigAddSpec)

/-- 'laws.FnExactBigSub', WHERE WHAT IT READS IS OF BULK AT MOST 1048576: true; the input reads as it did. -/
def fnExactBigSubUptoRow : OpenClaim := { program := "ytkmbmbeglemocaa", sum := "1763dae7ecdc308b484f39b51aaa3649febd3666a041ca844f35b1a0e927c0cf", func := "loop.example/g00009/laws.FnExactBigSub", spec := "fnExactBigSub", apart := false, narrowed := true }
def FnExactBigSubUptoSaid : Prop := fnExactBigSubUptoRow.holds Try.pinned (OpenSpec.upto fnExactBigSubSpec)

/-- 'laws.FnExactBigMul', WHERE WHAT IT READS IS OF BULK AT MOST 1048576: true; the input reads as it did. -/
def fnExactBigMulUptoRow : OpenClaim := { program := "ytkmbmbeglemocaa", sum := "1763dae7ecdc308b484f39b51aaa3649febd3666a041ca844f35b1a0e927c0cf", func := "loop.example/g00009/laws.FnExactBigMul", spec := "fnExactBigMul", apart := false, narrowed := true }
def FnExactBigMulUptoSaid : Prop := fnExactBigMulUptoRow.holds Try.pinned (OpenSpec.upto fnExactBigMulSpec)

/-- 'laws.FnExactBigDivMod', WHERE WHAT IT READS IS OF BULK AT MOST 1048576: true; the input reads as it did. -/
def fnExactBigDivModUptoRow : OpenClaim := { program := "ytkmbmbeglemocaa", sum := "1763dae7ecdc308b484f39b51aaa3649febd3666a041ca844f35b1a0e927c0cf", func := "loop.example/g00009/laws.FnExactBigDivMod", spec := "fnExactBigDivMod", named := ["math/bits.overflowError"], apart := false, narrowed := true }
def FnExactBigDivModUptoSaid : Prop := fnExactBigDivModUptoRow.holds Try.pinned (OpenSpec.upto fnExactBigDivModSpec)

/-- 'laws.FnExactBigPow', WHERE WHAT IT READS IS OF BULK AT MOST 1048576: true; the input reads as it did. -/
def fnExactBigPowUptoRow : OpenClaim := { program := "ytkmbmbeglemocaa", sum := "1763dae7ecdc308b484f39b51aaa3649febd3666a041ca844f35b1a0e927c0cf", func := "loop.example/g00009/laws.FnExactBigPow", spec := "fnExactBigPow", apart := false, narrowed := true }
def FnExactBigPowUptoSaid : Prop := fnExactBigPowUptoRow.holds Try.pinned (OpenSpec.upto fnExactBigPowSpec)

/-- 'laws.FnExactBigShift', WHERE WHAT IT READS IS OF BULK AT MOST 1048576: true; the input reads as it did. -/
def fnExactBigShiftUptoRow : OpenClaim := { program := "ytkmbmbeglemocaa", sum := "1763dae7ecdc308b484f39b51aaa3649febd3666a041ca844f35b1a0e927c0cf", func := "loop.example/g00009/laws.FnExactBigShift", spec := "fnExactBigShift", apart := false, narrowed := true }
def FnExactBigShiftUptoSaid : Prop := fnExactBigShiftUptoRow.holds Try.pinned (OpenSpec.upto fnExactBigShiftSpec)

/-- 'laws.FnExactBigBit', WHERE WHAT IT READS IS OF BULK AT MOST 1048576: true; the input reads as it did. -/
def fnExactBigBitUptoRow : OpenClaim := { program := "ytkmbmbeglemocaa", sum := "1763dae7ecdc308b484f39b51aaa3649febd3666a041ca844f35b1a0e927c0cf", func := "loop.example/g00009/laws.FnExactBigBit", spec := "fnExactBigBit", apart := false, narrowed := true }
def FnExactBigBitUptoSaid : Prop := fnExactBigBitUptoRow.holds Try.pinned (OpenSpec.upto fnExactBigBitSpec)

end Rows
end Go.Proofs.Ytkmbmbeglemocaa
