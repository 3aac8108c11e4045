import Derived.Test.YtfcoffllelgakaaDoorPlus
import Derived.Test.YtfcoffllelgakaaDoorShl
import Derived.Laws.BitsAllLaws
import Derived.Test.YtfcoffllelgakaaDoorMinus
namespace Go.Proofs.YtfcoffllelgakaaDoor
open Go.RowKit
set_option linter.unusedVariables false
set_option linter.unusedSimpArgs false

theorem val_drop (xs : List Int) (k : Nat) : val xs = val (xs.take k) + 4294967296 ^ (xs.take k).length * val (xs.drop k) := by
  have := val_append (xs.take k) (xs.drop k)
  rwa [List.take_append_drop] at this
theorem drop_div {xs : List Int} (h : Limbs xs) (k : Nat) (hk : k ≤ xs.length) : val xs / 4294967296 ^ k = val (xs.drop k) := by
  have hd := val_drop xs k
  have hl : (xs.take k).length = k := by simp; omega
  have hlt := val_lt (h.take k)
  rw [hl] at hd hlt
  rw [hd, Nat.add_mul_div_left _ _ (Nat.pow_pos (by decide)), Nat.div_eq_of_lt hlt, Nat.zero_add]
theorem drop_cons_val (xs : List Int) (k : Nat) : val (xs.drop k) = (xs.getD k 0).toNat + 4294967296 * val (xs.drop (k + 1)) := by
  by_cases h : k < xs.length
  · rw [List.drop_eq_getElem_cons h]
    simp [val, List.getD, h]
  · rw [List.drop_eq_nil_of_le (by omega), List.drop_eq_nil_of_le (by omega)]
    have : xs[k]? = none := List.getElem?_eq_none (by omega)
    simp [val, List.getD, this]

theorem down_small {xs : List Int} (h : Limbs xs) (n : Nat) (hq : xs.length ≤ n / 32) : val xs / 2 ^ n = 0 := by
  apply Nat.div_eq_of_lt
  refine Nat.lt_of_lt_of_le (val_lt h) ?_
  rw [show (4294967296 : Nat) = 2 ^ 32 from by decide, ← Nat.pow_mul]
  exact Nat.pow_le_pow_right (by decide) (by omega)

end Go.Proofs.YtfcoffllelgakaaDoor
