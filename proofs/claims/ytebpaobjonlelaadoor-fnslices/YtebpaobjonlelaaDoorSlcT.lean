import Derived.Test.YtebpaobjonlelaaDoorSlcS
namespace Go.Proofs.YtebpaobjonlelaaDoor
open Go.RowKit
set_option linter.unusedVariables false
set_option linter.unusedSimpArgs false

theorem upL_succ (a : Int) (k d : Nat) : upL a k (d + 1) = upL a k d ++ (if d % k = 0 then [a + (d : Int)] else []) := by
  unfold upL
  rw [stepsL_succ, List.map_append]
  by_cases h : d % k = 0
  · rw [if_pos h, if_pos h]; rfl
  · rw [if_neg h, if_neg h]; rfl
theorem downL_succ (a : Int) (k d : Nat) : downL a k (d + 1) = downL a k d ++ (if d % k = 0 then [a - (d : Int)] else []) := by
  unfold downL
  rw [stepsL_succ, List.map_append]
  by_cases h : d % k = 0
  · rw [if_pos h, if_pos h]; rfl
  · rw [if_neg h, if_neg h]; rfl
theorem w64 {a : Int} (h0 : -9223372036854775808 ≤ a) (h1 : a ≤ 9223372036854775807) : IntKind.i64.wrap a = a := by
  simp [IntKind.wrap, IntKind.bits, IntKind.signed]; omega
theorem tmod_up (j k : Nat) : Int.tmod (j : Int) (k : Int) = ((j % k : Nat) : Int) := rfl
theorem tmod_down (j k : Nat) : Int.tmod (j : Int) (-(k : Int)) = ((j % k : Nat) : Int) := by rw [Int.tmod_neg]; rfl
end Go.Proofs.YtebpaobjonlelaaDoor
