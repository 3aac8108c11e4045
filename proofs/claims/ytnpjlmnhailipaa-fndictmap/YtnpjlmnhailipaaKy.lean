import Derived.Test.YtnpjlmnhailipaaFrmZ
import Derived.DeepKeys5
import Derived.Maps.OwnSet
namespace Go.Proofs.Ytnpjlmnhailipaa
open Go.RowKit Go.Maps
set_option linter.unusedVariables false
set_option linter.unusedSimpArgs false

theorem keyedN : Keyed Try.prog 95 := Keyed.of_law (deep_law_gate laidOut (by decide +kernel) (of_decide_eq_true (by kernel_rfl)) (by kernel_rfl) (by kernel_rfl))
theorem keyT : Try.prog.keyType 95 = true := by kernel_rfl
theorem tsz : Try.prog.types.size = 152 := by kernel_rfl
theorem keyN (h k : Int) (h0 : 0 ≤ h ∧ h < 18446744073709551616) (h1 : -9223372036854775808 ≤ k ∧ k < 9223372036854775808) : ∃ l, keyOf Try.prog 95 (.agg #[.int .u64 h, .int .i64 k]) = some l := by
  have w0 : (Lit.int .u64 h).wf = true := WalkArith.wf_u64 (by omega)
  have w1 : (Lit.int .i64 k).wf = true := WalkArith.wf_i64 (by omega)
  have hc : Try.prog.cellsOf 95 = 2 := by kernel_rfl
  have hc1 : Try.prog.cellsOf 37 = 1 := by kernel_rfl
  have hc2 : Try.prog.cellsOf 2 = 1 := by kernel_rfl
  have i1 : ∀ d, Try.prog.keyLits (d + 1) 37 [.int .u64 h] = some [.int .u64 h] := fun d => by simp [Program.keyLits, Try.underlying37, w0]
  have i2 : ∀ d, Try.prog.keyLits (d + 1) 2 [.int .i64 k] = some [.int .i64 k] := fun d => by simp [Program.keyLits, Try.underlying2, w1]
  have hl : Try.prog.keyLits (152 + 1) 95 [.int .u64 h, .int .i64 k] = some [.int .u64 h, .int .i64 k] := by
    have e1 := i1 151
    have e2 := i2 151
    unfold Program.keyLits
    simp only [Try.underlying95]
    simp [hc, hc1, hc2, e1, e2]
  refine ⟨.string (keyBytes [.int .u64 h, .int .i64 k]), ?_⟩
  unfold keyOf
  rw [Try.underlying95]
  simp only [keyT, tsz]
  simp only [Value.formed, Try.underlying95, hc, Value.cells]
  rw [if_pos (by simp), hl]
  rfl
theorem keyN_inj {h k h' k' : Int} {l : Lit} (a : keyOf Try.prog 95 (.agg #[.int .u64 h, .int .i64 k]) = some l) (b : keyOf Try.prog 95 (.agg #[.int .u64 h', .int .i64 k']) = some l) : h = h' ∧ k = k' := by
  have := keyedN.inj a b
  simpa using this
end Go.Proofs.Ytnpjlmnhailipaa
