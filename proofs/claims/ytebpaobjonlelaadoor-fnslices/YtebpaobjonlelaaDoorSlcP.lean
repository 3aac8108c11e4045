import Derived.Test.YtebpaobjonlelaaDoorBaseI
namespace Go.Proofs.YtebpaobjonlelaaDoor
open Go.RowKit
set_option linter.unusedVariables false
set_option linter.unusedSimpArgs false

/-- The steps of a slice: those below d that k divides. -/
def stepsL (k d : Nat) : List Nat := (List.range d).filter fun j => decide (j % k = 0)
theorem stepsL_zero (k : Nat) : stepsL k 0 = [] := rfl
theorem stepsL_succ (k d : Nat) : stepsL k (d + 1) = stepsL k d ++ (if d % k = 0 then [d] else []) := by
  unfold stepsL
  rw [List.range_succ, List.filter_append]
  by_cases h : d % k = 0
  · simp [h]
  · simp [h]
theorem stepsL_skip (k t : Nat) (ht : t % k = 0) : ∀ m, m < k → stepsL k (t + m + 1) = stepsL k t ++ [t] := by
  intro m
  induction m with
  | zero => intro h; rw [Nat.add_zero, stepsL_succ, if_pos ht]
  | succ m ih =>
    intro h
    rw [show t + (m + 1) + 1 = (t + m + 1) + 1 by omega, stepsL_succ, ih (by omega), if_neg, List.append_nil]
    rw [show t + m + 1 = (m + 1) + t by omega, Nat.add_mod, ht, Nat.add_zero, Nat.mod_mod, Nat.mod_eq_of_lt h]
    omega
theorem stepsL_next (k t : Nat) (hk : 0 < k) (ht : t % k = 0) : stepsL k (t + k) = stepsL k t ++ [t] := by
  have := stepsL_skip k t ht (k - 1) (by omega)
  rwa [show t + (k - 1) + 1 = t + k by omega] at this
/-- Behind the end there is none. -/
theorem stepsL_end (k t d : Nat) (hk : 0 < k) (ht : t % k = 0) (h1 : d ≤ t) (h2 : t < d + k) : stepsL k t = stepsL k d := by
  by_cases h0 : t = 0
  · have : d = 0 := by omega
    rw [h0, this]
  · have hkt : k ≤ t := by
      rcases Nat.lt_or_ge t k with h | h
      · rw [Nat.mod_eq_of_lt h] at ht; omega
      · exact h
    have ht2 : (t - k) % k = 0 := by rw [← Nat.mod_eq_sub_mod hkt]; exact ht
    have e1 := stepsL_next k (t - k) hk ht2
    rw [show t - k + k = t by omega] at e1
    have e2 := stepsL_skip k (t - k) ht2 (d - (t - k) - 1) (by omega)
    rw [show t - k + (d - (t - k) - 1) + 1 = d by omega] at e2
    rw [e1, e2]
theorem stepsL_len (k d : Nat) : (stepsL k d).length ≤ d := by
  unfold stepsL
  exact Nat.le_trans (List.length_filter_le _ _) (by simp)
theorem stepsL_mem {k d j : Nat} (h : j ∈ stepsL k d) : j < d := by
  unfold stepsL at h
  simp at h; exact h.1
/-- A step that is too great is as good as a smaller one that is too great. -/
theorem stepsL_far (k m d : Nat) (hk : d ≤ k) (hm : d ≤ m) : stepsL k d = stepsL m d := by
  unfold stepsL
  refine List.filter_congr fun j hj => ?_
  have hj' : j < d := by simpa using hj
  rw [Nat.mod_eq_of_lt (by omega), Nat.mod_eq_of_lt (by omega)]
/-- The places, from a up or down. -/
def upL (a : Int) (k d : Nat) : List Int := (stepsL k d).map fun (j : Nat) => a + (j : Int)
def downL (a : Int) (k d : Nat) : List Int := (stepsL k d).map fun (j : Nat) => a - (j : Int)
theorem upL_len (a : Int) (k d : Nat) : (upL a k d).length ≤ d := by unfold upL; rw [List.length_map]; exact stepsL_len k d
theorem downL_len (a : Int) (k d : Nat) : (downL a k d).length ≤ d := by unfold downL; rw [List.length_map]; exact stepsL_len k d
/-- A bound, brought into low .. high. -/
def clampA (n : Int) (has : Bool) (at_ low high none : Int) : Int :=
  if has = true then (if (if at_ < 0 then at_ + n else at_) < low then low else if high < (if at_ < 0 then at_ + n else at_) then high else (if at_ < 0 then at_ + n else at_)) else none
theorem clampA_in {n at_ low high none : Int} {has : Bool} (h : low ≤ high) (h0 : low ≤ none) (h1 : none ≤ high) : low ≤ clampA n has at_ low high none ∧ clampA n has at_ low high none ≤ high := by
  unfold clampA
  split
  · split
    · split <;> (try split) <;> omega
    · split <;> (try split) <;> omega
  · omega
/-- What SliceList answers. -/
def sliceAns (n : Int) (lh : Bool) (la : Int) (hh : Bool) (ha : Int) (sh : Bool) (sa : Int) : List Int × Int :=
  if n < 0 ∨ 16384 < n then ([], 1)
  else if (if sh = true then sa else 1) = 0 then ([], 2)
  else if 0 < (if sh = true then sa else 1) then (upL (clampA n lh la 0 n 0) (if sh = true then sa else 1).toNat (clampA n hh ha 0 n n - clampA n lh la 0 n 0).toNat, 0)
  else (downL (clampA n lh la (-1) (n - 1) (n - 1)) (-(if sh = true then sa else 1)).toNat (clampA n lh la (-1) (n - 1) (n - 1) - clampA n hh ha (-1) (n - 1) (-1)).toNat, 0)
end Go.Proofs.YtebpaobjonlelaaDoor
