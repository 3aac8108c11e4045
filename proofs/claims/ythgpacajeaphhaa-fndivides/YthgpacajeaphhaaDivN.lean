import Derived.Test.YthgpacajeaphhaaDivL
namespace Go.Proofs.Ythgpacajeaphhaa
open Go.RowKit
set_option linter.unusedVariables false
set_option linter.unusedSimpArgs false
set_option maxRecDepth 100000

/-- The guess of a limb: what the loop keeps. -/
theorem guess_first {T h top next m0 t : Nat} (ht : 0 < top) (h3 : T = h * 4294967296 + m0) (hm : m0 < 4294967296) (hq : t * (top * 4294967296 + next) ≤ T) : t ≤ h / top := by
  rw [Nat.le_div_iff_mul_le ht]
  rw [Nat.mul_add, ← Nat.mul_assoc] at hq
  have : t * top * 4294967296 < (h + 1) * 4294967296 := by omega
  have := Nat.lt_of_mul_lt_mul_right this
  omega
theorem guess_over {T h top next m0 g r : Nat} (h3 : T = h * 4294967296 + m0) (hg : g * top + r = h) (hc : r * 4294967296 + m0 < g * next) : T < g * (top * 4294967296 + next) := by
  have e1 : g * (top * 4294967296 + next) = g * top * 4294967296 + g * next := by rw [Nat.mul_add, ← Nat.mul_assoc]
  rw [e1]
  generalize g * next = z at hc
  generalize g * top = y at hg
  omega
theorem guess_fits {T h top next m0 g r : Nat} (h3 : T = h * 4294967296 + m0) (hg : g * top + r = h) (hc : g * next ≤ r * 4294967296 + m0) : g * (top * 4294967296 + next) ≤ T := by
  have e1 : g * (top * 4294967296 + next) = g * top * 4294967296 + g * next := by rw [Nat.mul_add, ← Nat.mul_assoc]
  rw [e1]
  generalize g * next = z at hc
  generalize g * top = y at hg
  omega
theorem guess_broke {T h top next m0 g r : Nat} (h3 : T = h * 4294967296 + m0) (hg : g * top + r = h) (hr : 4294967296 ≤ r) (hn : next < 4294967296) (hT : T < (top * 4294967296 + next + 1) * 4294967296) : g < 4294967296 ∧ g * next ≤ r * 4294967296 + m0 := by
  have h1 : g < 4294967296 := by
    have h2 : h * 4294967296 < (top + 1) * 4294967296 * 4294967296 := by
      have : (top * 4294967296 + next + 1) * 4294967296 ≤ ((top + 1) * 4294967296) * 4294967296 := Nat.mul_le_mul_right _ (by omega)
      omega
    have h4 := Nat.lt_of_mul_lt_mul_right h2
    have h5 : g * top < top * 4294967296 := by rw [Nat.add_mul] at h4; omega
    rw [Nat.mul_comm top] at h5
    exact Nat.lt_of_mul_lt_mul_right h5
  refine ⟨h1, ?_⟩
  have h6 : g * next ≤ 4294967296 * 4294967296 := Nat.mul_le_mul (by omega) (by omega)
  omega

/-- The guess is the quotient or one more: P is the power below the two highest limbs. -/
theorem guess_near {M T m' o O o' P Q : Nat} (hM : M = m' + P * T) (hm : m' < P) (ho : o = o' + P * O) (ho' : o' < P) (hoP : P * 4294967296 ≤ o)
    (hQ : Q < 4294967296) (hQT : Q * O ≤ T) (hmax : ∀ t, t < 4294967296 → t * O ≤ T → t ≤ Q) (hMo : M < o * 4294967296) : M / o ≤ Q ∧ Q ≤ M / o + 1 := by
  have hP : 0 < P := by omega
  have ho0 : 0 < o := by omega
  constructor
  · refine hmax _ ?_ ?_
    · rw [Nat.div_lt_iff_lt_mul ho0, Nat.mul_comm]; exact hMo
    · have h1 : M / o * o ≤ M := Nat.div_mul_le_self _ _
      have h2 : M / o * O * P < (T + 1) * P := by
        have : M / o * o = M / o * o' + M / o * O * P := by
          rw [ho, Nat.mul_add, Nat.mul_comm P O, ← Nat.mul_assoc]
        rw [Nat.add_mul, Nat.mul_comm T P]; omega
      exact Nat.le_of_lt_succ (Nat.lt_of_mul_lt_mul_right h2)
  · rcases Nat.eq_zero_or_pos Q with h0 | h0
    · rw [h0]; exact Nat.zero_le _
    · obtain ⟨q, rfl⟩ : ∃ q, Q = q + 1 := ⟨Q - 1, by omega⟩
      have h1 : (q + 1) * o ≤ (q + 1) * o' + M := by
        have e : (q + 1) * o = (q + 1) * o' + P * ((q + 1) * O) := by rw [ho, Nat.mul_add, Nat.mul_left_comm]
        have := Nat.mul_le_mul_left P hQT
        omega
      have h2 : (q + 1) * o' ≤ 4294967296 * P := Nat.mul_le_mul (by omega) (by omega)
      have e3 : (q + 1) * o = q * o + o := Nat.succ_mul q o
      have h3 : q * o ≤ M := by
        rw [e3] at h1
        generalize (q + 1) * o' = z at h1 h2
        generalize q * o = z2 at h1
        omega
      have : q ≤ M / o := by rw [Nat.le_div_iff_mul_le ho0]; exact h3
      omega

/-- The quotient, one step. -/
theorem long_step {A D Qv V low W P : Nat} (hD : 0 < D) (hA : A = D * (Qv * (P * 4294967296)) + V) (hV : V = low + P * W) (hlow : low < P) (hlt : V < D * (P * 4294967296)) :
    W < D * 4294967296 ∧ A = D * ((W / D + 4294967296 * Qv) * P) + (low + P * (W % D)) ∧ low + P * (W % D) < D * P := by
  have hP : 0 < P := by omega
  have h1 : W < D * 4294967296 := by
    have : P * W < P * (D * 4294967296) := by rw [Nat.mul_left_comm]; omega
    exact Nat.lt_of_mul_lt_mul_left this
  have h2 := Nat.div_add_mod W D
  have h3 := Nat.mod_lt W hD
  refine ⟨h1, ?_, ?_⟩
  · rw [hA, hV]
    have e : P * W = D * (W / D * P) + P * (W % D) := by
      rw [← Nat.mul_assoc, Nat.mul_comm _ P, ← Nat.mul_add, h2]
    rw [e, Nat.add_mul, Nat.mul_add]
    have e2 : Qv * (P * 4294967296) = 4294967296 * Qv * P := by rw [Nat.mul_comm P, ← Nat.mul_assoc, Nat.mul_comm Qv]
    rw [e2]; omega
  · have : P * (W % D) + P ≤ P * D := by rw [← Nat.mul_succ]; exact Nat.mul_le_mul_left _ h3
    rw [Nat.mul_comm D]; omega
end Go.Proofs.Ythgpacajeaphhaa
