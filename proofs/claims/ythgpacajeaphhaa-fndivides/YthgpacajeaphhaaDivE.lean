import Derived.Test.YthgpacajeaphhaaDivW
namespace Go.Proofs.Ythgpacajeaphhaa
open Go.RowKit
set_option linter.unusedVariables false
set_option linter.unusedSimpArgs false

/-- What the long division starts from: s binary digits bring the divisor to its full width. -/
theorem long_start {xs os : List Int} (hzx : Limbs xs) (hzo : Limbs os) (hn : Norm os) (h2 : 2 ≤ os.length) (hl : os.length ≤ xs.length) (s : Nat) (hs : s = 32 - Lib.bitLen (os.getD (os.length - 1) 0).toNat) :
    s ≤ 31 ∧ Lib.bitLen (os.getD (os.length - 1) 0).toNat ≤ 32 ∧ 2147483648 * 4294967296 ^ (os.length - 1) ≤ val os * 2 ^ s ∧ (lim (val os * 2 ^ s)).length = os.length ∧ val xs * 2 ^ s < val os * 2 ^ s * 4294967296 ^ (xs.length - os.length + 1) ∧ (lim (val xs * 2 ^ s)).length ≤ xs.length + 1 := by
  have hb := bits_val hzo hn (by omega)
  have ht := hzo.get (os.length - 1)
  have htn : os.getD (os.length - 1) 0 ≠ 0 := by rcases hn with h | h; (exact absurd h (by omega)); exact h
  have l0 := bitLen_32 (os.getD (os.length - 1) 0).toNat (by omega)
  have l1 : 1 ≤ Lib.bitLen (os.getD (os.length - 1) 0).toNat := by
    rw [bitLen_half (by omega) (by omega)]; omega
  have hbn : (bitsN os).toNat = 32 * (os.length - 1) + Lib.bitLen (os.getD (os.length - 1) 0).toNat := by unfold bitsN; rw [if_neg (by omega)]; omega
  rw [hbn] at hb
  generalize Lib.bitLen (os.getD (os.length - 1) 0).toNat = bl at *
  have hs31 : s ≤ 31 := by omega
  obtain ⟨n, hnn⟩ : ∃ n, os.length = n + 1 := ⟨os.length - 1, by omega⟩
  have e0 : os.length - 1 = n := by omega
  rw [e0] at hb ⊢
  have eD : (2 : Nat) ^ (32 * n + bl) * 2 ^ s = 4294967296 ^ n * 4294967296 := by
    rw [← Nat.pow_add, R_pow, show (4294967296 : Nat) = 2 ^ 32 from by decide, ← Nat.pow_add]; congr 1; omega
  have hP : 0 < 4294967296 ^ n := Nat.pow_pos (by decide)
  have hp2 : 0 < 2 ^ s := Nat.two_pow_pos s
  have d1 : 4294967296 ^ n * 4294967296 ≤ 2 * (val os * 2 ^ s) := by
    rw [← eD, ← Nat.mul_assoc]; exact Nat.mul_le_mul_right _ hb.1
  have d2 : val os * 2 ^ s < 4294967296 ^ n * 4294967296 := by
    rw [← eD]; exact Nat.mul_lt_mul_of_pos_right hb.2 hp2
  have d3 : 2147483648 * 4294967296 ^ n ≤ val os * 2 ^ s := by omega
  refine ⟨hs31, l0, d3, ?_, ?_, ?_⟩
  · have a1 : (lim (val os * 2 ^ s)).length ≤ n + 1 := lim_length_le (by rw [Nat.pow_succ]; exact d2)
    have a2 : n < (lim (val os * 2 ^ s)).length := lim_length_gt (by omega)
    omega
  · have hx := val_lt hzx
    have h31 : 2 ^ s ≤ 2147483648 := by
      have : (2 : Nat) ^ s ≤ 2 ^ 31 := Nat.pow_le_pow_right (by decide) hs31
      simpa using this
    have e1 : (4294967296 : Nat) ^ xs.length = 4294967296 ^ n * 4294967296 ^ (xs.length - os.length + 1) := by
      rw [← Nat.pow_add]; congr 1; omega
    have a1 : val xs * 2 ^ s < 4294967296 ^ xs.length * 2147483648 := Nat.lt_of_lt_of_le (Nat.mul_lt_mul_of_pos_right hx hp2) (Nat.mul_le_mul_left _ h31)
    have a2 := Nat.mul_le_mul_right (4294967296 ^ (xs.length - os.length + 1)) d3
    rw [Nat.mul_assoc, ← e1, Nat.mul_comm] at a2
    exact Nat.lt_of_lt_of_le a1 a2
  · refine lim_length_le ?_
    have hx := val_lt hzx
    have h31 : 2 ^ s ≤ 4294967296 := by
      have : (2 : Nat) ^ s ≤ 2 ^ 32 := Nat.pow_le_pow_right (by decide) (by omega)
      simpa using this
    rw [Nat.pow_succ]
    exact Nat.lt_of_lt_of_le (Nat.mul_lt_mul_of_pos_right hx hp2) (Nat.mul_le_mul_left _ h31)
theorem long_end {X O s A D Qv V : Nat} (hO : 0 < O) (hA : A = X * 2 ^ s) (hD : D = O * 2 ^ s) (h : A = D * (Qv * 1) + V) (hV : V < D * 1) : Qv = X / O ∧ V / 2 ^ s = X % O := by
  have hp2 : 0 < 2 ^ s := Nat.two_pow_pos s
  rw [Nat.mul_one] at h hV
  have h1 : A / D = Qv := by rw [h, Nat.mul_add_div (by omega), Nat.div_eq_of_lt hV, Nat.add_zero]
  have h2 : A % D = V := by rw [h, Nat.mul_add_mod, Nat.mod_eq_of_lt hV]
  rw [hA, hD, Nat.mul_div_mul_right _ _ hp2] at h1
  rw [hA, hD, Nat.mul_mod_mul_right] at h2
  refine ⟨h1.symm, ?_⟩
  rw [← h2, Nat.mul_div_cancel _ hp2]
/-- What the loop keeps, hidden from the walk. -/
def LongF (A D j : Nat) (Qs Rs : List Int) : Prop := A = D * (val Qs * 4294967296 ^ j) + val Rs ∧ val Rs < D * 4294967296 ^ j
theorem long_round {A D i n : Nat} {Qs Lo Aw Hi : List Int} (hD : 0 < D) (hDn : D < 4294967296 ^ n) (hL : Limbs (Lo ++ (Aw ++ Hi))) (hLo : Lo.length = i) (hAw : Aw.length = n + 1) (H : LongF A D (i + 1) Qs (Lo ++ (Aw ++ Hi))) :
    val Aw < D * 4294967296 ∧ ∀ U : List Int, U.length = Aw.length → val U = val Aw % D → LongF A D i (((val Aw / D : Nat) : Int) :: Qs) (Lo ++ (U ++ Hi)) := by
  obtain ⟨h1, h2⟩ := H
  have hzLo : Limbs Lo := fun z hz => hL z (by simp [hz])
  have hlo := val_lt hzLo
  rw [hLo] at hlo
  have hv : val (Lo ++ (Aw ++ Hi)) = val Lo + 4294967296 ^ i * (val Aw + 4294967296 ^ (n + 1) * val Hi) := by rw [val_append, val_append, hLo, hAw]
  have hH : val Hi = 0 := by
    rcases Nat.eq_zero_or_pos (val Hi) with h | h
    · exact h
    · exfalso
      have a1 : D * 4294967296 ^ (i + 1) ≤ 4294967296 ^ n * 4294967296 ^ (i + 1) := Nat.mul_le_mul_right _ (Nat.le_of_lt hDn)
      have a2 : 4294967296 ^ n * 4294967296 ^ (i + 1) = 4294967296 ^ i * (4294967296 ^ (n + 1) * 1) := by rw [Nat.mul_one, ← Nat.pow_add, ← Nat.pow_add]; congr 1; omega
      have a3 : 4294967296 ^ i * (4294967296 ^ (n + 1) * 1) ≤ 4294967296 ^ i * (val Aw + 4294967296 ^ (n + 1) * val Hi) := Nat.mul_le_mul_left _ (Nat.le_trans (Nat.mul_le_mul_left _ h) (Nat.le_add_left _ _))
      rw [hv] at h2
      generalize 4294967296 ^ i * (val Aw + 4294967296 ^ (n + 1) * val Hi) = z at *
      omega
  rw [hH, Nat.mul_zero, Nat.add_zero] at hv
  rw [Nat.pow_succ] at h1 h2
  obtain ⟨s1, s2, s3⟩ := long_step hD h1 hv hlo h2
  refine ⟨s1, fun U hU hU2 => ?_⟩
  have hv2 : val (Lo ++ (U ++ Hi)) = val Lo + 4294967296 ^ i * (val Aw % D) := by rw [val_append, val_append, hLo, hH, hU2]; simp
  refine ⟨?_, by rw [hv2]; exact s3⟩
  rw [hv2]
  simp only [val, Int.toNat_natCast]
  exact s2
end Go.Proofs.Ythgpacajeaphhaa
