import Derived.Test.YtgbkniliojpejaaDoorSub

import Derived.Test.YtgbkniliojpejaaDoorCmp
import Derived.Test.YtgbkniliojpejaaDoorOf
import Derived.Deep.RegionHeld3
namespace Go.Proofs.YtgbkniliojpejaaDoor
open Go.RowKit
set_option linter.unusedVariables false
set_option linter.unusedSimpArgs false

theorem l1Big_lim (neg : Bool) (v : Value) (n : Nat) (w : World) (hr : Rd w v (lim n)) :
    Calls Tryd.prog 38 #[.bool neg, v] w fun e w' => ∃ a c, e = .returned (.agg #[.bool (nz neg n), .slice a (lim n).length c]) ∧ Own w' w.heap.size (.slice a (lim n).length c) (lim n) ∧ Below w.heap.size w w' := by
  have := l1Big_any neg v (lim n) w hr
  rw [val_lim] at this
  exact this

/-- The sum of two numbers: its sign, its absolute value. -/
def sumR (p : Bool) (x : Nat) (q : Bool) (y : Nat) : Bool × Nat := if p = q then (p, x + y) else if y ≤ x then (p, x - y) else (q, y - x)
theorem sumR_same (p : Bool) (x y : Nat) : sumR p x p y = (p, x + y) := by unfold sumR; rw [if_pos rfl]
theorem sumR_ge {p q : Bool} (h : ¬ p = q) {x y : Nat} (h1 : y ≤ x) : sumR p x q y = (p, x - y) := by unfold sumR; rw [if_neg h, if_pos h1]
theorem sumR_lt {p q : Bool} (h : ¬ p = q) {x y : Nat} (h1 : x < y) : sumR p x q y = (q, y - x) := by unfold sumR; rw [if_neg h, if_neg (by omega)]
theorem len_le_of {xs ys : List Int} (hx : Limbs xs) (hy : Limbs ys) (ny : Norm ys) (h : val ys ≤ val xs) : ys.length ≤ xs.length := by
  rcases Nat.lt_or_ge xs.length ys.length with h1 | h1
  · have := val_lt_of_len hx hy ny h1; omega
  · exact h1
theorem cmpN_nonneg {m n : Nat} (h : n ≤ m) : 0 ≤ cmpN m n := by unfold cmpN; split <;> (try split) <;> omega

theorem Norm.lim (n : Nat) : Norm (lim n) := lim_norm n

theorem okB_norm {neg : Bool} {zs : List Int} (h : okB neg zs = true) : Norm zs ∧ zs.length ≤ 128 := by
  unfold okB at h
  by_cases h0 : zs.length = 0
  · exact ⟨.inl h0, by omega⟩
  · rw [if_neg h0] at h
    simp at h
    exact ⟨.inr (by simpa [List.getD] using h.2), h.1⟩

end Go.Proofs.YtgbkniliojpejaaDoor
