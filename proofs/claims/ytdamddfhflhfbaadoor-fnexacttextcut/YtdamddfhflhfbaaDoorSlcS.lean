import Derived.Test.YtdamddfhflhfbaaDoorSlcP
namespace Go.Proofs.YtdamddfhflhfbaaDoor
open Go.RowKit
set_option linter.unusedVariables false
set_option linter.unusedSimpArgs false

/-- A bound as a value. -/
abbrev bnd (has : Bool) (x : Int) : Value := .agg #[.bool has, .int .i64 x]
set_option maxHeartbeats 1000000 in
set_option maxRecDepth 100000 in
theorem l3Clamp_any (n : Int) (has : Bool) (x low high none : Int) (w : World) (hn0 : 0 ≤ n) (hn1 : n ≤ 16384) (hx0 : -9223372036854775808 ≤ x) (hx1 : x ≤ 9223372036854775807) :
    Calls Tryd.prog 37 #[.int .i64 n, bnd has x, .int .i64 low, .int .i64 high, .int .i64 none] w fun e w' => e = .returned (.int .i64 (clampA n has x low high none)) ∧ Below w.heap.size w w' := by
  have hw : x < 0 → IntKind.i64.wrap (x + n) = x + n := fun h => by simp [IntKind.wrap, IntKind.bits, IntKind.signed]; omega
  unfold clampA
  cases has with
  | false =>
    go_enter Tryd.func37, Tryd.ntmps37
    go_wp2
    go_ret
    exact ⟨rfl, by first | exact Below.refl _ _ | exact (Below.refl _ _).alloc (Nat.le_refl _) _⟩
  | true =>
    rw [if_pos rfl]
    by_cases h0 : x < 0
    · have hw := hw h0
      rw [if_pos h0]
      obtain ⟨y, hy⟩ : ∃ y, x + n = y := ⟨_, rfl⟩
      rw [hy] at hw ⊢
      by_cases h1 : y < low
      · rw [if_pos h1]
        go_enter Tryd.func37, Tryd.ntmps37
        go_wp2
        go_ret
        exact ⟨rfl, by first | exact Below.refl _ _ | exact (Below.refl _ _).alloc (Nat.le_refl _) _⟩
      · rw [if_neg h1]
        by_cases h2 : high < y
        · rw [if_pos h2]
          go_enter Tryd.func37, Tryd.ntmps37
          go_wp2
          go_ret
          exact ⟨rfl, by first | exact Below.refl _ _ | exact (Below.refl _ _).alloc (Nat.le_refl _) _⟩
        · rw [if_neg h2]
          go_enter Tryd.func37, Tryd.ntmps37
          go_wp2
          go_ret
          exact ⟨rfl, by first | exact Below.refl _ _ | exact (Below.refl _ _).alloc (Nat.le_refl _) _⟩
    · rw [if_neg h0]
      clear hw
      by_cases h1 : x < low
      · rw [if_pos h1]
        go_enter Tryd.func37, Tryd.ntmps37
        go_wp2
        go_ret
        exact ⟨rfl, by first | exact Below.refl _ _ | exact (Below.refl _ _).alloc (Nat.le_refl _) _⟩
      · rw [if_neg h1]
        by_cases h2 : high < x
        · rw [if_pos h2]
          go_enter Tryd.func37, Tryd.ntmps37
          go_wp2
          go_ret
          exact ⟨rfl, by first | exact Below.refl _ _ | exact (Below.refl _ _).alloc (Nat.le_refl _) _⟩
        · rw [if_neg h2]
          go_enter Tryd.func37, Tryd.ntmps37
          go_wp2
          go_ret
          exact ⟨rfl, by first | exact Below.refl _ _ | exact (Below.refl _ _).alloc (Nat.le_refl _) _⟩
end Go.Proofs.YtdamddfhflhfbaaDoor
