import Derived.Test.YthgpacajeaphhaaPowN
import Derived.Test.YthgpacajeaphhaaBAdd
namespace Go.Proofs.Ythgpacajeaphhaa
open Go.RowKit
set_option linter.unusedVariables false
set_option linter.unusedSimpArgs false

theorem okB_limP (s : Bool) (n : Nat) (h : (lim n).length ≤ 128) : okB (nz s n) (lim n) = true := by
  unfold okB
  by_cases h0 : (lim n).length = 0
  · rw [if_pos h0]
    have : n = 0 := lim_eq_nil.1 (List.eq_nil_of_length_eq_zero h0)
    subst this
    simp [nz]
  · rw [if_neg h0]
    rcases lim_norm n with h2 | h2
    · exact absurd h2 h0
    · rw [decide_eq_true h, decide_eq_true h2]; rfl
theorem fitC_two (n : Nat) : fitC n = 0 ∨ fitC n = 3 := by unfold fitC; split <;> simp
theorem fitC_zero {n : Nat} (h : fitC n = 0) : (lim n).length ≤ 128 := by
  unfold fitC at h
  by_cases h1 : (lim n).length ≤ 128
  · exact h1
  · rw [if_neg h1] at h; exact absurd h (by decide)
theorem fitC_mono {n m : Nat} (h : n ≤ m) (hm : fitC m = 0) : fitC n = 0 := by
  have h1 := fitC_zero hm
  unfold fitC
  rw [if_pos]
  by_cases h2 : n < 4294967296 ^ 128
  · exact lim_length_le h2
  · have := lim_length_gt (show 4294967296 ^ 128 ≤ m by omega)
    omega
theorem odd_add (p : Bool) (n m : Int) : ((p && decide (n % 2 = 1)) != (p && decide (m % 2 = 1))) = (p && decide ((n + m) % 2 = 1)) := by
  cases p
  · rfl
  · rcases Int.emod_two_eq n with h1 | h1 <;> rcases Int.emod_two_eq m with h2 | h2
    · have : (n + m) % 2 = 0 := by omega
      simp [h1, h2, this]
    · have : (n + m) % 2 = 1 := by omega
      simp [h1, h2, this]
    · have : (n + m) % 2 = 1 := by omega
      simp [h1, h2, this]
    · have : (n + m) % 2 = 0 := by omega
      simp [h1, h2, this]
theorem pw_low (X : Nat) (n m : Int) (hn : 0 ≤ n) (hm : 0 ≤ m) (hX : 0 < X) (h : fitC (X ^ (n + m).toNat) = 0) : fitC (X ^ n.toNat) = 0 ∧ fitC (X ^ m.toNat) = 0 := by
  have e : (n + m).toNat = n.toNat + m.toNat := by omega
  rw [e] at h
  exact ⟨fitC_mono (Nat.pow_le_pow_right hX (by omega)) h, fitC_mono (Nat.pow_le_pow_right hX (by omega)) h⟩
theorem pw_mul (p : Bool) (X : Nat) (n m : Int) (hn : 0 ≤ n) (hm : 0 ≤ m) (h1 : fitC (X ^ n.toNat) = 0) (h2 : fitC (X ^ m.toNat) = 0) :
    let s1 := fitS (p && decide (n % 2 = 1)) (X ^ n.toNat)
    let s2 := fitS (p && decide (m % 2 = 1)) (X ^ m.toNat)
    let l1 := fitL (X ^ n.toNat)
    let l2 := fitL (X ^ m.toNat)
    opS (okB s1 l1 && okB s2 l2) (s1 != s2) (val l1 * val l2) = fitS (p && decide ((n + m) % 2 = 1)) (X ^ (n + m).toNat) ∧ opL (okB s1 l1 && okB s2 l2) (val l1 * val l2) = fitL (X ^ (n + m).toNat) ∧ opC (okB s1 l1 && okB s2 l2) (val l1 * val l2) = fitC (X ^ (n + m).toNat) := by
  have g1 := fitC_zero h1
  have g2 := fitC_zero h2
  obtain ⟨a1, -, a3⟩ := fit_yes g1 (p && decide (n % 2 = 1))
  obtain ⟨b1, -, b3⟩ := fit_yes g2 (p && decide (m % 2 = 1))
  have e : (n + m).toNat = n.toNat + m.toNat := by omega
  simp only
  rw [a1, a3, b1, b3, okB_limP _ _ g1, okB_limP _ _ g2, val_lim, val_lim, ← Nat.pow_add, ← e]
  simp only [opS, opL, opC, Bool.and_self, if_true, and_true]
  unfold fitS
  split
  · rw [← odd_add]
    by_cases hv : 0 < X ^ (n + m).toNat
    · have hv1 : 0 < X ^ n.toNat := by
        rw [e, Nat.pow_add] at hv
        exact Nat.pos_of_mul_pos_right hv
      have hv2 : 0 < X ^ m.toNat := by
        rw [e, Nat.pow_add] at hv
        exact Nat.pos_of_mul_pos_left hv
      simp only [nz, decide_eq_true hv1, decide_eq_true hv2, Bool.and_true]
    · simp only [nz, decide_eq_false hv, Bool.and_false]
  · rfl
theorem ok_pos {p : Bool} {xs : List Int} (hz : Limbs xs) (h : okB p xs = true) (hl : 0 < xs.length) : 0 < val xs := by
  unfold okB at h
  rw [if_neg (by omega)] at h
  simp only [Bool.and_eq_true, decide_eq_true_eq] at h
  have hn : Norm xs := .inr (by simpa [List.getD] using h.2)
  have := lim_val hz hn
  by_cases h0 : val xs = 0
  · rw [h0, lim_zero] at this; rw [← this] at hl; simp at hl
  · omega
end Go.Proofs.Ythgpacajeaphhaa
