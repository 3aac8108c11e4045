import Derived.Test.YtkjbbmmidjeecaaDoorFM
namespace Go.Proofs.YtkjbbmmidjeecaaDoor
set_option linter.unusedVariables false
set_option linter.unusedSimpArgs false

theorem pow_gap (k : Nat) : 1 <<< k = 2 ^ k := by rw [Nat.shiftLeft_eq, Nat.one_mul]
theorem cut_zero (s : Bool) (n d : Nat) : Ieee.Toward.zero.cut s n d = n / 2 ^ d := by
  unfold Ieee.Toward.cut
  simp only [pow_gap, Bool.toNat_false, Nat.add_zero]
  by_cases h : d ≤ n.log2 + 2
  · rw [Nat.min_eq_left h]
  · rw [Nat.min_eq_right (by omega)]
    have h1 : n < 2 ^ (n.log2 + 1) := Nat.lt_log2_self
    have h2 : (2 : Nat) ^ (n.log2 + 1) ≤ 2 ^ (n.log2 + 2) := Nat.pow_le_pow_right (by decide) (by omega)
    have h3 : (2 : Nat) ^ (n.log2 + 1) ≤ 2 ^ d := Nat.pow_le_pow_right (by decide) (by omega)
    rw [Nat.div_eq_of_lt (by omega), Nat.div_eq_of_lt (by omega)]
theorem cut_even (s : Bool) (n d : Nat) (hn : n ≠ 0) (h : n % 2 ^ d = 0) : Ieee.Toward.even.cut s n d = n / 2 ^ d := by
  have hd : d ≤ n.log2 := by
    rcases Nat.lt_or_ge n.log2 d with h1 | h1
    · exfalso
      have h2 : n < 2 ^ (n.log2 + 1) := Nat.lt_log2_self
      have h3 : (2 : Nat) ^ (n.log2 + 1) ≤ 2 ^ d := Nat.pow_le_pow_right (by decide) (by omega)
      rw [Nat.mod_eq_of_lt (by omega)] at h
      exact hn h
    · exact h1
  unfold Ieee.Toward.cut
  simp only [pow_gap]
  rw [Nat.min_eq_left (by omega), h]
  have h0 := Nat.two_pow_pos d
  have e : (decide (2 ^ d < 2 * 0) || (2 ^ d == 2 * 0 && n / 2 ^ d % 2 == 1)) = false := by
    rw [Nat.mul_zero, decide_eq_false (by omega), Bool.false_or]
    have : (2 ^ d == 0) = false := by rw [beq_eq_false_iff_ne]; omega
    rw [this, Bool.false_and]
  rw [e]; rfl
theorem word_eq (s : Bool) (r : Nat) (h : r < 9223372036854775808) : fneg (Ieee.double.word s r) = s ∧ frung (Ieee.double.word s r) = r := by
  have e : Ieee.double.word s r = if s then 9223372036854775808 + r else r := rfl
  rw [e]
  unfold fneg frung
  cases s with
  | true =>
    simp only [if_true]
    have e1 : (9223372036854775808 + r) / 9223372036854775808 % 2 = 1 := by omega
    rw [e1]
    exact ⟨rfl, by omega⟩
  | false =>
    simp only [Bool.false_eq_true, if_false]
    have e1 : r / 9223372036854775808 % 2 = 0 := by omega
    rw [e1]
    exact ⟨rfl, by omega⟩
theorem word_lt (s : Bool) (r : Nat) (h : r < 9223372036854775808) : Ieee.double.word s r < 18446744073709551616 := by
  have e : Ieee.double.word s r = if s then 9223372036854775808 + r else r := rfl
  rw [e]; split <;> omega
/-- The units of the float of a place and a full significand. -/
theorem fu_rung (w p k : Nat) (h : frung w = p * 4503599627370496 + k) (h1 : 4503599627370496 ≤ k) (h2 : k < 9007199254740992) : fu w = k * 2 ^ p := by
  have e := f_rung w
  have hf : ffrac w < 4503599627370496 := Nat.mod_lt _ (by decide)
  have e1 : fexp w = p + 1 := by omega
  have e2 : ffrac w = k - 4503599627370496 := by omega
  unfold fu
  rw [if_neg (by omega), e1, e2, Nat.add_sub_cancel, Nat.sub_add_cancel h1]
theorem two52 : (2 : Nat) ^ 52 = 4503599627370496 := by decide
theorem two53 : (2 : Nat) ^ 53 = 9007199254740992 := by decide
/-- A whole number of at most 53 digits and zeros behind them is a float. -/
theorem near_exact (s : Bool) (T M k : Nat) (hT : T = M * 2 ^ k) (hM : M < 9007199254740992) (hl : T.log2 ≤ 1023) (low : Nat) (hlow : low = 1074) :
    frung (Ieee.double.nearest s T 0) < 9218868437227405312 ∧ fneg (Ieee.double.nearest s T 0) = s ∧ fu (Ieee.double.nearest s T 0) = T * 2 ^ low ∧ Ieee.double.nearest s T 0 < 18446744073709551616 := by
  unfold Ieee.Format.nearest
  by_cases h0 : T = 0
  · rw [if_pos h0]
    obtain ⟨e1, e2⟩ := word_eq s 0 (by decide)
    refine ⟨by rw [e2]; decide, e1, ?_, word_lt s 0 (by decide)⟩
    have e := f_rung (Ieee.double.word s 0)
    rw [e2] at e
    unfold fu
    rw [if_pos (by omega), h0, Nat.zero_mul]
    omega
  · rw [if_neg h0]
    have hlp : Ieee.double.leastPlace = -1074 := by decide
    have hfb : (Ieee.double.fractionBits : Int) = 52 := rfl
    have hbn : Ieee.double.binade = 4503599627370496 := by decide
    have hir : Ieee.double.infRung = 9218868437227405312 := by decide
    simp only [hlp, hfb, hbn, hir]
    have hlo : 2 ^ T.log2 ≤ T := Nat.log2_self_le h0
    have hhi : T < 2 ^ (T.log2 + 1) := Nat.lt_log2_self
    generalize T.log2 = L at hlo hhi hl
    have emax : max ((0 : Int) + (L : Int) - 52) (-1074) = (L : Int) - 52 := by omega
    rw [emax]
    obtain ⟨K, hK, hK1, hK2, hKT⟩ : ∃ K, Ieee.Toward.even.cut s (T <<< ((0 : Int) - ((L : Int) - 52)).toNat) (((L : Int) - 52) - 0).toNat = K ∧ 4503599627370496 ≤ K ∧ K < 9007199254740992 ∧ K * 2 ^ (((L : Int) - 52) + 1074).toNat = T * 2 ^ low := by
      by_cases hL : L ≤ 52
      · have e1 : ((0 : Int) - ((L : Int) - 52)).toNat = 52 - L := by omega
        have e2 : (((L : Int) - 52) - 0).toNat = 0 := by omega
        have e3 : (((L : Int) - 52) + 1074).toNat = L + 1022 := by omega
        rw [e1, e2, e3, Nat.shiftLeft_eq]
        have hp := Nat.two_pow_pos (52 - L)
        have hne : T * 2 ^ (52 - L) ≠ 0 := Nat.ne_of_gt (Nat.mul_pos (by omega) hp)
        refine ⟨T * 2 ^ (52 - L), ?_, ?_, ?_, ?_⟩
        · rw [cut_even s _ 0 hne (by rw [Nat.pow_zero]; exact Nat.mod_one _), Nat.pow_zero, Nat.div_one]
        · have : 2 ^ L * 2 ^ (52 - L) ≤ T * 2 ^ (52 - L) := Nat.mul_le_mul_right _ hlo
          rw [← Nat.pow_add, show L + (52 - L) = 52 by omega, two52] at this
          exact this
        · have : T * 2 ^ (52 - L) < 2 ^ (L + 1) * 2 ^ (52 - L) := Nat.mul_lt_mul_of_pos_right hhi hp
          rw [← Nat.pow_add, show L + 1 + (52 - L) = 53 by omega, two53] at this
          exact this
        · rw [Nat.mul_assoc, ← Nat.pow_add, show 52 - L + (L + 1022) = low by omega]
      · have e1 : ((0 : Int) - ((L : Int) - 52)).toNat = 0 := by omega
        have e2 : (((L : Int) - 52) - 0).toNat = L - 52 := by omega
        have e3 : (((L : Int) - 52) + 1074).toNat = (L - 52) + low := by omega
        rw [e1, e2, e3, Nat.shiftLeft_eq, Nat.pow_zero, Nat.mul_one]
        have hkL : L - 52 ≤ k := by
          rcases Nat.lt_or_ge k (L - 52) with h | h
          · exfalso
            have h1 : M * 2 ^ k < 9007199254740992 * 2 ^ k := Nat.mul_lt_mul_of_pos_right hM (Nat.two_pow_pos k)
            rw [← two53, ← Nat.pow_add] at h1
            have h2 : (2 : Nat) ^ (53 + k) ≤ 2 ^ L := Nat.pow_le_pow_right (by decide) (by omega)
            rw [← hT] at h1
            omega
          · exact h
        have hdv : T = (M * 2 ^ (k - (L - 52))) * 2 ^ (L - 52) := by
          rw [Nat.mul_assoc, ← Nat.pow_add, show k - (L - 52) + (L - 52) = k by omega]; exact hT
        have hp := Nat.two_pow_pos (L - 52)
        have hq : T / 2 ^ (L - 52) = M * 2 ^ (k - (L - 52)) := by
          conv => lhs; rw [hdv]
          exact Nat.mul_div_cancel _ hp
        have hm : T % 2 ^ (L - 52) = 0 := by
          conv => lhs; rw [hdv]
          exact Nat.mul_mod_left _ _
        have hmul : T / 2 ^ (L - 52) * 2 ^ (L - 52) = T := by rw [hq]; exact hdv.symm
        refine ⟨T / 2 ^ (L - 52), cut_even s T _ h0 hm, ?_, ?_, ?_⟩
        · rw [← two52]
          refine (Nat.le_div_iff_mul_le hp).2 ?_
          rw [← Nat.pow_add, show 52 + (L - 52) = L by omega]; exact hlo
        · rw [← two53]
          refine (Nat.div_lt_iff_lt_mul hp).2 ?_
          rw [← Nat.pow_add, show 53 + (L - 52) = L + 1 by omega]; exact hhi
        · rw [Nat.pow_add, ← Nat.mul_assoc, hmul]
    rw [hK]
    have e4 : ((L : Int) - 52 - -1074).toNat = (((L : Int) - 52) + 1074).toNat := by omega
    rw [e4]
    generalize hp : (((L : Int) - 52) + 1074).toNat = p at hKT
    have hpb : p ≤ 2045 := by omega
    clear hp e4 hK emax
    have hb : p * 4503599627370496 + K < 9218868437227405312 := by
      have h1 : p * 4503599627370496 ≤ 2045 * 4503599627370496 := Nat.mul_le_mul_right _ hpb
      omega
    rw [Nat.min_eq_left (Nat.le_of_lt hb)]
    have hb2 := Nat.lt_trans hb (show 9218868437227405312 < 9223372036854775808 by decide)
    obtain ⟨e5, e6⟩ := word_eq s (p * 4503599627370496 + K) hb2
    refine ⟨by rw [e6]; exact hb, e5, ?_, word_lt s _ hb2⟩
    rw [fu_rung _ p K e6 hK1 hK2]
    exact hKT
end Go.Proofs.YtkjbbmmidjeecaaDoor
