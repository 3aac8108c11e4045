import Derived.Test.YtebpaobjonlelaaDoorSlcS
import Derived.Test.YtebpaobjonlelaaDoorCodeC
namespace Go.Proofs.YtebpaobjonlelaaDoor
open Go.RowKit
set_option linter.unusedVariables false
set_option linter.unusedSimpArgs false

theorem clampA_mm (n x low high none : Int) (h : low ≤ high) : clampA n true x low high none = min (max (if x < 0 then x + n else x) low) high := by
  unfold clampA
  rw [if_pos rfl]
  split
  · split
    · omega
    · split <;> omega
  · split
    · omega
    · split <;> omega
set_option maxHeartbeats 1000000 in
set_option maxRecDepth 100000 in
theorem clipped_any (n : Int) (has : Bool) (x low high none : Int) (w : World) (hn0 : 0 ≤ n) (hn1 : n ≤ 16384) (hx0 : -9223372036854775808 ≤ x) (hx1 : x ≤ 9223372036854775807) (hlh : low ≤ high) :
    Calls Tryd.prog 25 #[bnd has x, .int .i64 n, .int .i64 low, .int .i64 high, .int .i64 none] w fun e w' => e = .returned (.int .i64 (clampA n has x low high none)) ∧ Below w.heap.size w w' := by
  have hw : x < 0 → IntKind.i64.wrap (x + n) = x + n := fun h => by simp [IntKind.wrap, IntKind.bits, IntKind.signed]; omega
  cases has with
  | false =>
    unfold clampA
    go_enter Tryd.func25, Tryd.ntmps25
    go_wp2
    go_ret
    exact ⟨rfl, by first | exact Below.refl _ _ | exact (Below.refl _ _).alloc (Nat.le_refl _) _⟩
  | true =>
    rw [clampA_mm _ _ _ _ _ hlh]
    by_cases h0 : x < 0
    · have hw := hw h0
      rw [if_pos h0]
      obtain ⟨y, hy⟩ : ∃ y, x + n = y := ⟨_, rfl⟩
      rw [hy] at hw ⊢
      go_enter Tryd.func25, Tryd.ntmps25
      go_wp2
      go_ret
      exact ⟨rfl, by first | exact Below.refl _ _ | exact (Below.refl _ _).alloc (Nat.le_refl _) _⟩
    · rw [if_neg h0]
      clear hw
      go_enter Tryd.func25, Tryd.ntmps25
      go_wp2
      go_ret
      exact ⟨rfl, by first | exact Below.refl _ _ | exact (Below.refl _ _).alloc (Nat.le_refl _) _⟩
end Go.Proofs.YtebpaobjonlelaaDoor
