import Derived.Test.YtfcoffllelgakaaDoorFM
import Derived.Test.YtfcoffllelgakaaDoorMgRN
namespace Go.Proofs.YtfcoffllelgakaaDoor
set_option linter.unusedVariables false
set_option linter.unusedSimpArgs false

theorem pow_gap (k : Nat) : 1 <<< k = 2 ^ k := by rw [Nat.shiftLeft_eq, Nat.one_mul]
theorem cut_zero (s : Bool) (n d : Nat) : Ieee.Toward.zero.cut s n d = n / 2 ^ d := by
  unfold Ieee.Toward.cut
  simp only [pow_gap, Bool.toNat_false, Nat.add_zero]
  by_cases h : d ≤ n.log2 + 2
  · rw [Nat.min_eq_left h]
  · rw [Nat.min_eq_right (by omega)]
    have h1 : n < 2 ^ (n.log2 + 1) := Nat.lt_log2_self
    have h2 : (2 : Nat) ^ (n.log2 + 1) ≤ 2 ^ (n.log2 + 2) := Nat.pow_le_pow_right (by decide) (by omega)
    have h3 : (2 : Nat) ^ (n.log2 + 1) ≤ 2 ^ d := Nat.pow_le_pow_right (by decide) (by omega)
    rw [Nat.div_eq_of_lt (by omega), Nat.div_eq_of_lt (by omega)]
theorem cut_even (s : Bool) (n d : Nat) (hn : n ≠ 0) (h : n % 2 ^ d = 0) : Ieee.Toward.even.cut s n d = n / 2 ^ d := by
  have hd : d ≤ n.log2 := by
    rcases Nat.lt_or_ge n.log2 d with h1 | h1
    · exfalso
      have h2 : n < 2 ^ (n.log2 + 1) := Nat.lt_log2_self
      have h3 : (2 : Nat) ^ (n.log2 + 1) ≤ 2 ^ d := Nat.pow_le_pow_right (by decide) (by omega)
      rw [Nat.mod_eq_of_lt (by omega)] at h
      exact hn h
    · exact h1
  unfold Ieee.Toward.cut
  simp only [pow_gap]
  rw [Nat.min_eq_left (by omega), h]
  have h0 := Nat.two_pow_pos d
  have e : (decide (2 ^ d < 2 * 0) || (2 ^ d == 2 * 0 && n / 2 ^ d % 2 == 1)) = false := by
    rw [Nat.mul_zero, decide_eq_false (by omega), Bool.false_or]
    have : (2 ^ d == 0) = false := by rw [beq_eq_false_iff_ne]; omega
    rw [this, Bool.false_and]
  rw [e]; rfl
theorem word_eq (s : Bool) (r : Nat) (h : r < 9223372036854775808) : fneg (Ieee.double.word s r) = s ∧ frung (Ieee.double.word s r) = r := by
  have e : Ieee.double.word s r = if s then 9223372036854775808 + r else r := rfl
  rw [e]
  unfold fneg frung
  cases s with
  | true =>
    simp only [if_true]
    have e1 : (9223372036854775808 + r) / 9223372036854775808 % 2 = 1 := by omega
    rw [e1]
    exact ⟨rfl, by omega⟩
  | false =>
    simp only [Bool.false_eq_true, if_false]
    have e1 : r / 9223372036854775808 % 2 = 0 := by omega
    rw [e1]
    exact ⟨rfl, by omega⟩
theorem word_lt (s : Bool) (r : Nat) (h : r < 9223372036854775808) : Ieee.double.word s r < 18446744073709551616 := by
  have e : Ieee.double.word s r = if s then 9223372036854775808 + r else r := rfl
  rw [e]; split <;> omega
/-- The units of the float of a place and a full significand. -/
theorem fu_rung (w p k : Nat) (h : frung w = p * 4503599627370496 + k) (h1 : 4503599627370496 ≤ k) (h2 : k < 9007199254740992) : fu w = k * 2 ^ p := by
  have e := f_rung w
  have hf : ffrac w < 4503599627370496 := Nat.mod_lt _ (by decide)
  have e1 : fexp w = p + 1 := by omega
  have e2 : ffrac w = k - 4503599627370496 := by omega
  unfold fu
  rw [if_neg (by omega), e1, e2, Nat.add_sub_cancel, Nat.sub_add_cancel h1]
theorem two52 : (2 : Nat) ^ 52 = 4503599627370496 := by decide
theorem two53 : (2 : Nat) ^ 53 = 9007199254740992 := by decide
/-- A whole number of at most 53 digits and zeros behind them is a float. -/
theorem near_exact (s : Bool) (T M k : Nat) (hT : T = M * 2 ^ k) (hM : M < 9007199254740992) (hl : T.log2 ≤ 1023) (low : Nat) (hlow : low = 1074) :
    frung (Ieee.double.nearest s T 0) < 9218868437227405312 ∧ fneg (Ieee.double.nearest s T 0) = s ∧ fu (Ieee.double.nearest s T 0) = T * 2 ^ low ∧ Ieee.double.nearest s T 0 < 18446744073709551616 := by
  unfold Ieee.Format.nearest
  by_cases h0 : T = 0
  · rw [if_pos h0]
    obtain ⟨e1, e2⟩ := word_eq s 0 (by decide)
    refine ⟨by rw [e2]; decide, e1, ?_, word_lt s 0 (by decide)⟩
    have e := f_rung (Ieee.double.word s 0)
    rw [e2] at e
    unfold fu
    rw [if_pos (by omega), h0, Nat.zero_mul]
    omega
  · rw [if_neg h0]
    have hlp : Ieee.double.leastPlace = -1074 := by decide
    have hfb : (Ieee.double.fractionBits : Int) = 52 := rfl
    have hbn : Ieee.double.binade = 4503599627370496 := by decide
    have hir : Ieee.double.infRung = 9218868437227405312 := by decide
    simp only [hlp, hfb, hbn, hir]
    have hlo : 2 ^ T.log2 ≤ T := Nat.log2_self_le h0
    have hhi : T < 2 ^ (T.log2 + 1) := Nat.lt_log2_self
    generalize T.log2 = L at hlo hhi hl
    have emax : max ((0 : Int) + (L : Int) - 52) (-1074) = (L : Int) - 52 := by omega
    rw [emax]
    obtain ⟨K, hK, hK1, hK2, hKT⟩ : ∃ K, Ieee.Toward.even.cut s (T <<< ((0 : Int) - ((L : Int) - 52)).toNat) (((L : Int) - 52) - 0).toNat = K ∧ 4503599627370496 ≤ K ∧ K < 9007199254740992 ∧ K * 2 ^ (((L : Int) - 52) + 1074).toNat = T * 2 ^ low := by
      by_cases hL : L ≤ 52
      · have e1 : ((0 : Int) - ((L : Int) - 52)).toNat = 52 - L := by omega
        have e2 : (((L : Int) - 52) - 0).toNat = 0 := by omega
        have e3 : (((L : Int) - 52) + 1074).toNat = L + 1022 := by omega
        rw [e1, e2, e3, Nat.shiftLeft_eq]
        have hp := Nat.two_pow_pos (52 - L)
        have hne : T * 2 ^ (52 - L) ≠ 0 := Nat.ne_of_gt (Nat.mul_pos (by omega) hp)
        refine ⟨T * 2 ^ (52 - L), ?_, ?_, ?_, ?_⟩
        · rw [cut_even s _ 0 hne (by rw [Nat.pow_zero]; exact Nat.mod_one _), Nat.pow_zero, Nat.div_one]
        · have : 2 ^ L * 2 ^ (52 - L) ≤ T * 2 ^ (52 - L) := Nat.mul_le_mul_right _ hlo
          rw [← Nat.pow_add, show L + (52 - L) = 52 by omega, two52] at this
          exact this
        · have : T * 2 ^ (52 - L) < 2 ^ (L + 1) * 2 ^ (52 - L) := Nat.mul_lt_mul_of_pos_right hhi hp
          rw [← Nat.pow_add, show L + 1 + (52 - L) = 53 by omega, two53] at this
          exact this
        · rw [Nat.mul_assoc, ← Nat.pow_add, show 52 - L + (L + 1022) = low by omega]
      · have e1 : ((0 : Int) - ((L : Int) - 52)).toNat = 0 := by omega
        have e2 : (((L : Int) - 52) - 0).toNat = L - 52 := by omega
        have e3 : (((L : Int) - 52) + 1074).toNat = (L - 52) + low := by omega
        rw [e1, e2, e3, Nat.shiftLeft_eq, Nat.pow_zero, Nat.mul_one]
        have hkL : L - 52 ≤ k := by
          rcases Nat.lt_or_ge k (L - 52) with h | h
          · exfalso
            have h1 : M * 2 ^ k < 9007199254740992 * 2 ^ k := Nat.mul_lt_mul_of_pos_right hM (Nat.two_pow_pos k)
            rw [← two53, ← Nat.pow_add] at h1
            have h2 : (2 : Nat) ^ (53 + k) ≤ 2 ^ L := Nat.pow_le_pow_right (by decide) (by omega)
            rw [← hT] at h1
            omega
          · exact h
        have hdv : T = (M * 2 ^ (k - (L - 52))) * 2 ^ (L - 52) := by
          rw [Nat.mul_assoc, ← Nat.pow_add, show k - (L - 52) + (L - 52) = k by omega]; exact hT
        have hp := Nat.two_pow_pos (L - 52)
        have hq : T / 2 ^ (L - 52) = M * 2 ^ (k - (L - 52)) := by
          conv => lhs; rw [hdv]
          exact Nat.mul_div_cancel _ hp
        have hm : T % 2 ^ (L - 52) = 0 := by
          conv => lhs; rw [hdv]
          exact Nat.mul_mod_left _ _
        have hmul : T / 2 ^ (L - 52) * 2 ^ (L - 52) = T := by rw [hq]; exact hdv.symm
        refine ⟨T / 2 ^ (L - 52), cut_even s T _ h0 hm, ?_, ?_, ?_⟩
        · rw [← two52]
          refine (Nat.le_div_iff_mul_le hp).2 ?_
          rw [← Nat.pow_add, show 52 + (L - 52) = L by omega]; exact hlo
        · rw [← two53]
          refine (Nat.div_lt_iff_lt_mul hp).2 ?_
          rw [← Nat.pow_add, show 53 + (L - 52) = L + 1 by omega]; exact hhi
        · rw [Nat.pow_add, ← Nat.mul_assoc, hmul]
    rw [hK]
    have e4 : ((L : Int) - 52 - -1074).toNat = (((L : Int) - 52) + 1074).toNat := by omega
    rw [e4]
    generalize hp : (((L : Int) - 52) + 1074).toNat = p at hKT
    have hpb : p ≤ 2045 := by omega
    clear hp e4 hK emax
    have hb : p * 4503599627370496 + K < 9218868437227405312 := by
      have h1 : p * 4503599627370496 ≤ 2045 * 4503599627370496 := Nat.mul_le_mul_right _ hpb
      omega
    rw [Nat.min_eq_left (Nat.le_of_lt hb)]
    have hb2 := Nat.lt_trans hb (show 9218868437227405312 < 9223372036854775808 by decide)
    obtain ⟨e5, e6⟩ := word_eq s (p * 4503599627370496 + K) hb2
    refine ⟨by rw [e6]; exact hb, e5, ?_, word_lt s _ hb2⟩
    rw [fu_rung _ p K e6 hK1 hK2]
    exact hKT
end Go.Proofs.YtfcoffllelgakaaDoor

namespace Go.Proofs.YtfcoffllelgakaaDoor
set_option linter.unusedVariables false
set_option linter.unusedSimpArgs false

/-- The whole number nearest to a quotient, of two as near the even one. -/
def rneUp (x y : Nat) : Bool := decide (y < 2 * (x % y)) || (decide (y = 2 * (x % y)) && decide (x / y % 2 = 1))
def rne (x y : Nat) : Nat := x / y + (rneUp x y).toNat
theorem rne_le (x y : Nat) : rne x y ≤ x / y + 1 := by
  unfold rne
  cases rneUp x y <;> simp
theorem rne_scale (x y c : Nat) (hc : 0 < c) : rne (x * c) (y * c) = rne x y := by
  unfold rne rneUp
  rw [Nat.mul_div_mul_right _ _ hc, Nat.mul_mod_mul_right]
  have e : 2 * (x % y * c) = (2 * (x % y)) * c := by rw [Nat.mul_assoc]
  rw [e]
  have h1 : decide (y * c < 2 * (x % y) * c) = decide (y < 2 * (x % y)) := decide_eq_decide.2 (Nat.mul_lt_mul_right hc)
  have h2 : decide (y * c = 2 * (x % y) * c) = decide (y = 2 * (x % y)) := decide_eq_decide.2 ⟨fun h => Nat.eq_of_mul_eq_mul_right hc h, fun h => congrArg (· * c) h⟩
  rw [h1, h2]
theorem rne_ratio {x y x' y' : Nat} (hy : 0 < y) (hy' : 0 < y') (h : x * y' = x' * y) : rne x y = rne x' y' ∧ x / y = x' / y' := by
  constructor
  · rw [← rne_scale x y y' hy', h, Nat.mul_comm y y', rne_scale x' y' y hy]
  · rw [← Nat.mul_div_mul_right x y hy', h, Nat.mul_comm y y', Nat.mul_div_mul_right _ _ hy]
theorem rne_small {x y : Nat} (h : 2 * x < y) : rne x y = 0 := by
  unfold rne rneUp
  rw [Nat.div_eq_of_lt (by omega), Nat.mod_eq_of_lt (by omega), decide_eq_false (by omega), decide_eq_false (by omega)]
  rfl
theorem cut_rne (s : Bool) (n d : Nat) : Ieee.Toward.even.cut s n d = rne n (2 ^ d) := by
  have key : ∀ k, n / 2 ^ k + (decide (2 ^ k < 2 * (n % 2 ^ k)) || (2 ^ k == 2 * (n % 2 ^ k) && n / 2 ^ k % 2 == 1)).toNat = rne n (2 ^ k) := by
    intro k
    unfold rne rneUp
    congr 3
  unfold Ieee.Toward.cut
  simp only [pow_gap]
  by_cases h : d ≤ n.log2 + 2
  · rw [Nat.min_eq_left h]
    exact key d
  · rw [Nat.min_eq_right (by omega)]
    have h1 : n < 2 ^ (n.log2 + 1) := Nat.lt_log2_self
    have h2 : (2 : Nat) ^ (n.log2 + 2) = 2 * 2 ^ (n.log2 + 1) := by rw [Nat.pow_succ 2 (n.log2 + 1), Nat.mul_comm]
    have h3 : (2 : Nat) ^ (n.log2 + 2) ≤ 2 ^ d := Nat.pow_le_pow_right (by decide) (by omega)
    refine (key _).trans ?_
    rw [rne_small (by omega), rne_small (by omega)]
theorem setN_word (neg : Bool) (x : Nat) (h : x < 9223372036854775808) : setN neg x = Ieee.double.word neg x := by
  have e : Ieee.double.word neg x = if neg then 9223372036854775808 + x else x := rfl
  rw [e]
  unfold setN
  cases neg
  · rfl
  · rw [if_pos rfl, if_pos rfl]
    have h2 := Nat.two_pow_add_eq_or_of_lt (i := 63) (b := x) (by simpa using h) 1
    rw [Nat.mul_one] at h2
    rw [Nat.or_comm, show (9223372036854775808 : Nat) = 2 ^ 63 from by decide, ← h2]
theorem rQ1_rne (N D : Nat) : rQ1 N D = rne (nE N (rE N D)) (dE D (rE N D)) := by
  have e : rUp N D = rneUp (nE N (rE N D)) (dE D (rE N D)) := by
    unfold rUp rneUp rR rQ qE
    rw [Nat.mul_comm _ 2]
    congr 2
    exact decide_eq_decide.2 eq_comm
  unfold rQ1 rne
  rw [e]
  show (if _ then qE N D (rE N D) + 1 else qE N D (rE N D)) = qE N D (rE N D) + _
  cases rneUp (nE N (rE N D)) (dE D (rE N D)) <;> rfl
theorem rE_ge (N D : Nat) : -1074 ≤ rE N D := by
  have := rE0_ge N D
  unfold rE
  split <;> omega
/-- The rung that is come to. -/
def rungN (N D : Nat) : Nat := min ((rE N D + 1074).toNat * 4503599627370496 + rne (nE N (rE N D)) (dE D (rE N D))) 9218868437227405312
theorem rndV_word (neg : Bool) {N D : Nat} (hN : 0 < N) (hD : 0 < D) : rndV neg N D = Ieee.double.word neg (rungN N D) := by
  have hE := rE_ge N D
  have hq := q_end hN hD
  have hlt := rQ_lt hN hD
  have h53 := fun h => rQ1_53 hN hD h
  have hle : rQ1 N D ≤ rQ N D + 1 := by unfold rQ1; split <;> omega
  have hge : rQ N D ≤ rQ1 N D := by unfold rQ1; split <;> omega
  have hlow : -1074 < rE N D → 4503599627370496 ≤ rQ N D := fun h => by
    have : (52 : Int) < bl (qE N D (rE N D)) := by omega
    exact bl_ge_of (k := 52) this
  unfold rungN
  rw [← rQ1_rne]
  unfold rndV rQ2 rE2
  rw [if_neg (by omega)]
  generalize rQ N D = q at *
  by_cases hb : 53 < bl (rQ1 N D)
  · have e := h53 hb
    simp only [if_pos hb]
    rw [e]
    have e2 : (2 : Nat) ^ 53 = 9007199254740992 := by decide
    have e3 : (2 : Nat) ^ 52 = 4503599627370496 := by decide
    rw [e2, e3]
    by_cases h9 : 971 < rE N D + 1
    · rw [if_pos h9, Nat.min_eq_right (by omega)]
      exact setN_word _ _ (by decide)
    · rw [if_neg h9, if_neg (by decide), Nat.min_eq_left (by omega), Nat.sub_self, Nat.or_zero, setN_word _ _ (by omega)]
      exact congrArg (Ieee.double.word neg) (by omega)
  · simp only [if_neg hb]
    have hlt2 := bl_lt_of (n := rQ1 N D) (k := 53) (by omega)
    have e2 : (2 : Nat) ^ 53 = 9007199254740992 := by decide
    rw [e2] at hlt2
    generalize rQ1 N D = Q at *
    by_cases h9 : 971 < rE N D
    · have := hlow (by omega)
      rw [if_pos h9, Nat.min_eq_right (by omega)]
      exact setN_word _ _ (by decide)
    · rw [if_neg h9]
      by_cases h52 : Q < 4503599627370496
      · rw [if_pos h52]
        have : rE N D = -1074 := by
          rcases Int.lt_or_le (-1074) (rE N D) with h | h
          · have := hlow h; omega
          · omega
        rw [this, Nat.min_eq_left (by omega)]
        rw [setN_word _ _ (by omega)]
        exact congrArg (Ieee.double.word neg) (by omega)
      · rw [if_neg h52]
        have hor : (rE N D + 1075).toNat * 4503599627370496 ||| (Q - 4503599627370496) = (rE N D + 1075).toNat * 4503599627370496 + (Q - 4503599627370496) := by
          have h2 := Nat.two_pow_add_eq_or_of_lt (i := 52) (b := Q - 4503599627370496) (by rw [show (2 : Nat) ^ 52 = 4503599627370496 from by decide]; omega) ((rE N D + 1075).toNat)
          rw [show (2 : Nat) ^ 52 = 4503599627370496 from by decide, Nat.mul_comm] at h2
          exact h2.symm
        rw [hor, Nat.min_eq_left (by omega), setN_word _ _ (by omega)]
        exact congrArg (Ieee.double.word neg) (by omega)
theorem qE_mono (N D : Nat) (e : Int) (k : Nat) : qE N D (e + (k + 1 : Nat)) ≤ qE N D e / 2 := by
  induction k with
  | zero => rw [show e + ((0 + 1 : Nat) : Int) = e + 1 by omega, qE_half]; exact Nat.le_refl _
  | succ k ih =>
    rw [show e + ((k + 1 + 1 : Nat) : Int) = (e + ((k + 1 : Nat) : Int)) + 1 by omega, qE_half]
    omega
theorem rE_uniq {N D : Nat} {e : Int} (hN : 0 < N) (hD : 0 < D) (h0 : -1074 ≤ e) (h1 : qE N D e < 9007199254740992) (h2 : -1074 < e → 4503599627370496 ≤ qE N D e) : rE N D = e := by
  have hE := rE_ge N D
  have hq := q_end hN hD
  have hlt := rQ_lt hN hD
  have hlow : -1074 < rE N D → 4503599627370496 ≤ qE N D (rE N D) := fun h => by
    have : (52 : Int) < bl (qE N D (rE N D)) := by omega
    exact bl_ge_of (k := 52) this
  unfold rQ at hlt
  rw [show (2 : Nat) ^ 53 = 9007199254740992 from by decide] at hlt
  clear hq
  generalize rE N D = E at *
  rcases Int.lt_trichotomy E e with h | h | h
  · exfalso
    obtain ⟨k, hk⟩ : ∃ k : Nat, e = E + (k + 1 : Nat) := ⟨(e - E - 1).toNat, by omega⟩
    have := qE_mono N D E k
    rw [← hk] at this
    have := h2 (by omega)
    omega
  · exact h
  · exfalso
    obtain ⟨k, hk⟩ : ∃ k : Nat, E = e + (k + 1 : Nat) := ⟨(E - e - 1).toNat, by omega⟩
    have := qE_mono N D e k
    rw [← hk] at this
    have := hlow (by omega)
    omega
/-- The place of the last digit that is kept. -/
def lastP (mag : Nat) (place : Int) : Int := max (place + mag.log2 - 52) (-1074)
theorem nearest_eq (neg : Bool) {mag : Nat} (place : Int) (h : 0 < mag) : Ieee.double.nearest neg mag place = Ieee.double.word neg (min ((lastP mag place + 1074).toNat * 4503599627370496 + rne (mag * 2 ^ (place - lastP mag place).toNat) (2 ^ (lastP mag place - place).toNat)) 9218868437227405312) := by
  have hlp : Ieee.double.leastPlace = -1074 := by decide
  have hfb : (Ieee.double.fractionBits : Int) = 52 := rfl
  have hbn : Ieee.double.binade = 4503599627370496 := by decide
  have hir : Ieee.double.infRung = 9218868437227405312 := by decide
  unfold Ieee.Format.nearest
  rw [if_neg (by omega)]
  simp only [hlp, hfb, hbn, hir, cut_rne, Nat.shiftLeft_eq]
  show Ieee.double.word neg (min ((lastP mag place - -1074).toNat * 4503599627370496 + _) _) = _
  rw [Int.sub_neg]
  rfl
theorem last_floor {mag : Nat} (place : Int) (h : 0 < mag) : mag * 2 ^ (place - lastP mag place).toNat / 2 ^ (lastP mag place - place).toNat < 9007199254740992 ∧ (-1074 < lastP mag place → 4503599627370496 ≤ mag * 2 ^ (place - lastP mag place).toNat / 2 ^ (lastP mag place - place).toNat) := by
  have hlo : 2 ^ mag.log2 ≤ mag := Nat.log2_self_le (by omega)
  have hhi : mag < 2 ^ (mag.log2 + 1) := Nat.lt_log2_self
  have hL : place + mag.log2 - 52 ≤ lastP mag place := by unfold lastP; omega
  have hL2 : -1074 < lastP mag place → lastP mag place = place + mag.log2 - 52 := by unfold lastP; omega
  generalize lastP mag place = L at *
  generalize mag.log2 = l at *
  have hp := Nat.two_pow_pos (L - place).toNat
  constructor
  · rw [Nat.div_lt_iff_lt_mul hp, show (9007199254740992 : Nat) = 2 ^ 53 from by decide, ← Nat.pow_add]
    have h1 : mag * 2 ^ (place - L).toNat < 2 ^ (l + 1) * 2 ^ (place - L).toNat := Nat.mul_lt_mul_of_pos_right hhi (Nat.two_pow_pos _)
    rw [← Nat.pow_add] at h1
    exact Nat.lt_of_lt_of_le h1 (Nat.pow_le_pow_right (by decide) (by omega))
  · intro h3
    have h4 := hL2 h3
    rw [Nat.le_div_iff_mul_le hp, show (4503599627370496 : Nat) = 2 ^ 52 from by decide, ← Nat.pow_add]
    have h1 : 2 ^ l * 2 ^ (place - L).toNat ≤ mag * 2 ^ (place - L).toNat := Nat.mul_le_mul_right _ hlo
    rw [← Nat.pow_add] at h1
    exact Nat.le_trans (Nat.pow_le_pow_right (by decide) (by omega)) h1
theorem near_rnd (neg : Bool) {mag N D : Nat} (place : Int) (h : 0 < mag) (hN : 0 < N) (hD : 0 < D)
    (hf : mag * 2 ^ (place - lastP mag place).toNat / 2 ^ (lastP mag place - place).toNat = qE N D (lastP mag place))
    (hr : rne (mag * 2 ^ (place - lastP mag place).toNat) (2 ^ (lastP mag place - place).toNat) = rne (nE N (lastP mag place)) (dE D (lastP mag place))) :
    Ieee.double.nearest neg mag place = rndV neg N D := by
  obtain ⟨f1, f2⟩ := last_floor place h
  rw [hf] at f1 f2
  have hu := rE_uniq hN hD (e := lastP mag place) (by unfold lastP; omega) f1 f2
  rw [nearest_eq neg place h, hr, rndV_word neg hN hD]
  unfold rungN
  rw [hu]
theorem nE_eq (N : Nat) (e : Int) : nE N e = N * 2 ^ (-e).toNat := by
  unfold nE
  split
  · rfl
  · rw [show (-e).toNat = 0 by omega, Nat.pow_zero, Nat.mul_one]
theorem dE_eq (D : Nat) (e : Int) : dE D e = D * 2 ^ e.toNat := by
  unfold dE
  split
  · rw [show e.toNat = 0 by omega, Nat.pow_zero, Nat.mul_one]
  · rfl
/-- A number that is told exactly. -/
theorem near_of (neg : Bool) {mag N D : Nat} (place : Int) (hD : 0 < D) (hv : N * 2 ^ (-place).toNat = mag * D * 2 ^ place.toNat) :
    Ieee.double.nearest neg mag place = rndV neg N D := by
  by_cases h0 : mag = 0
  · have hN : N = 0 := by
      rw [h0, Nat.zero_mul, Nat.zero_mul] at hv
      have := Nat.two_pow_pos (-place).toNat
      rcases Nat.mul_eq_zero.1 hv with h | h <;> omega
    unfold Ieee.Format.nearest rndV
    rw [if_pos h0, if_pos hN]
    exact (setN_word neg 0 (by decide)).symm
  · have hm : 0 < mag := by omega
    have hN : 0 < N := by
      rcases Nat.eq_zero_or_pos N with h | h
      · rw [h, Nat.zero_mul] at hv
        have := Nat.mul_pos (Nat.mul_pos hm hD) (Nat.two_pow_pos place.toNat)
        omega
      · exact h
    have hx : mag * 2 ^ (place - lastP mag place).toNat * dE D (lastP mag place) = nE N (lastP mag place) * 2 ^ (lastP mag place - place).toNat := by
      rw [nE_eq, dE_eq]
      generalize lastP mag place = L
      refine Nat.eq_of_mul_eq_mul_right (Nat.two_pow_pos (-place).toNat) ?_
      have e1 : mag * 2 ^ (place - L).toNat * (D * 2 ^ L.toNat) * 2 ^ (-place).toNat = mag * D * 2 ^ ((place - L).toNat + L.toNat + (-place).toNat) := by
        rw [Nat.pow_add, Nat.pow_add]; ac_rfl
      have e2 : N * 2 ^ (-L).toNat * 2 ^ (L - place).toNat * 2 ^ (-place).toNat = (N * 2 ^ (-place).toNat) * 2 ^ ((-L).toNat + (L - place).toNat) := by
        rw [Nat.pow_add]; ac_rfl
      have e3 : mag * D * 2 ^ place.toNat * 2 ^ ((-L).toNat + (L - place).toNat) = mag * D * 2 ^ (place.toNat + ((-L).toNat + (L - place).toNat)) := by
        rw [Nat.pow_add 2 place.toNat]; ac_rfl
      rw [e1, e2, hv, e3]
      congr 2
      omega
    obtain ⟨r1, r2⟩ := rne_ratio (Nat.two_pow_pos _) (dE_pos hD _) hx
    exact near_rnd neg place hm hN hD r2 r1
/-- A quotient with a digit behind it that tells whether anything is left over. -/
theorem rne_sticky (A n t : Nat) (hn : 0 < n) : rne (2 * (A / n) + (A % n != 0).toNat) (2 ^ (t + 2)) = rne A (n * 2 ^ (t + 1)) ∧ (2 * (A / n) + (A % n != 0).toNat) / 2 ^ (t + 2) = A / (n * 2 ^ (t + 1)) := by
  have hA := Nat.div_add_mod A n
  have hr := Nat.mod_lt A hn
  have hs : (A % n != 0).toNat = if A % n = 0 then 0 else 1 := by
    by_cases h : A % n = 0
    · rw [h]; rfl
    · rw [if_neg h, show (A % n != 0) = true from by rw [bne_iff_ne]; exact h]; rfl
  rw [hs]
  generalize hQ : A / n = Q at *
  generalize A % n = r at *
  clear hs hQ
  have hH := Nat.two_pow_pos t
  have e1 : (2 : Nat) ^ (t + 1) = 2 * 2 ^ t := by rw [Nat.pow_succ, Nat.mul_comm]
  have e2 : (2 : Nat) ^ (t + 2) = 4 * 2 ^ t := by rw [Nat.pow_succ, e1]; omega
  rw [e1, e2]
  generalize (2 : Nat) ^ t = H at *
  have hQd := Nat.div_add_mod Q (2 * H)
  have hc := Nat.mod_lt Q (show 0 < 2 * H by omega)
  generalize Q / (2 * H) = k at *
  generalize Q % (2 * H) = c at *
  generalize hS : (if r = 0 then 0 else 1 : Nat) = s
  have hs1 : s ≤ 1 := by rw [← hS]; split <;> omega
  have hs0 : s = 0 ↔ r = 0 := by rw [← hS]; split <;> omega
  clear hS
  have E1 : 2 * Q + s = (2 * c + s) + 4 * H * k := by
    rw [← hQd]
    have : 2 * (2 * H * k + c) = 4 * H * k + 2 * c := by rw [Nat.mul_add, ← Nat.mul_assoc, ← Nat.mul_assoc]
    omega
  have E2 : A = (n * c + r) + n * (2 * H) * k := by
    rw [← hA, ← hQd, Nat.mul_add, ← Nat.mul_assoc]
    omega
  have nc : n * c + r < n * (2 * H) := by
    have : n * (c + 1) ≤ n * (2 * H) := Nat.mul_le_mul_left n hc
    rw [Nat.mul_add] at this
    omega
  have d1 : (2 * Q + s) / (4 * H) = k := by
    rw [E1, Nat.add_mul_div_left _ _ (by omega), Nat.div_eq_of_lt (by omega), Nat.zero_add]
  have m1 : (2 * Q + s) % (4 * H) = 2 * c + s := by
    rw [E1, Nat.add_mul_mod_self_left, Nat.mod_eq_of_lt (by omega)]
  have hp : 0 < n * (2 * H) := Nat.mul_pos hn (by omega)
  have d2 : A / (n * (2 * H)) = k := by
    rw [E2, Nat.add_mul_div_left _ _ hp, Nat.div_eq_of_lt nc, Nat.zero_add]
  have m2 : A % (n * (2 * H)) = n * c + r := by
    rw [E2, Nat.add_mul_mod_self_left, Nat.mod_eq_of_lt nc]
  refine ⟨?_, d1.trans d2.symm⟩
  unfold rne rneUp
  rw [d1, m1, d2, m2]
  have k1 : (4 * H < 2 * (2 * c + s)) ↔ (n * (2 * H) < 2 * (n * c + r)) := by
    have x1 : n * (2 * H) = 2 * (n * H) := by ac_rfl
    rw [x1]
    rcases Nat.lt_trichotomy c H with h | h | h
    · have : n * (c + 1) ≤ n * H := Nat.mul_le_mul_left n h
      rw [Nat.mul_add] at this
      omega
    · subst h; omega
    · have : n * (H + 1) ≤ n * c := Nat.mul_le_mul_left n h
      rw [Nat.mul_add] at this
      omega
  have k2 : (4 * H = 2 * (2 * c + s)) ↔ (n * (2 * H) = 2 * (n * c + r)) := by
    have x1 : n * (2 * H) = 2 * (n * H) := by ac_rfl
    rw [x1]
    rcases Nat.lt_trichotomy c H with h | h | h
    · have : n * (c + 1) ≤ n * H := Nat.mul_le_mul_left n h
      rw [Nat.mul_add] at this
      omega
    · subst h; omega
    · have : n * (H + 1) ≤ n * c := Nat.mul_le_mul_left n h
      rw [Nat.mul_add] at this
      omega
  rw [decide_eq_decide.2 k1, decide_eq_decide.2 k2]
theorem near_sticky (neg : Bool) {A n N D : Nat} (p : Int) (hn : 0 < n) (hD : 0 < D) (hN : 0 < N) (hA : 9007199254740992 ≤ A / n) (hv : N * n * 2 ^ (-p).toNat = A * D * 2 ^ p.toNat) :
    Ieee.double.nearest neg (2 * (A / n) + (A % n != 0).toNat) (p - 1) = rndV neg N D := by
  generalize hmag : 2 * (A / n) + (A % n != 0).toNat = mag
  have hm : 2 ^ 54 ≤ mag := by
    have : (2 : Nat) ^ 54 = 18014398509481984 := by decide
    omega
  have hl : 54 ≤ mag.log2 := (Nat.le_log2 (by have := Nat.two_pow_pos 54; omega)).2 hm
  have hL : p - 1 + mag.log2 - 52 ≤ lastP mag (p - 1) := by unfold lastP; omega
  obtain ⟨t, ht⟩ : ∃ t : Nat, lastP mag (p - 1) - (p - 1) = ((t + 2 : Nat) : Int) := ⟨(lastP mag (p - 1) - (p - 1) - 2).toNat, by omega⟩
  obtain ⟨s1, s2⟩ := rne_sticky A n t hn
  rw [hmag] at s1 s2
  have hx : A * dE D (lastP mag (p - 1)) = nE N (lastP mag (p - 1)) * (n * 2 ^ (t + 1)) := by
    rw [nE_eq, dE_eq]
    have hL2 : lastP mag (p - 1) = p + ((t + 1 : Nat) : Int) := by omega
    rw [hL2]
    refine Nat.eq_of_mul_eq_mul_right (Nat.two_pow_pos p.toNat) ?_
    have e1 : A * (D * 2 ^ (p + ((t + 1 : Nat) : Int)).toNat) * 2 ^ p.toNat = (A * D * 2 ^ p.toNat) * 2 ^ (p + ((t + 1 : Nat) : Int)).toNat := by ac_rfl
    have e2 : N * 2 ^ (-(p + ((t + 1 : Nat) : Int))).toNat * (n * 2 ^ (t + 1)) * 2 ^ p.toNat = N * n * 2 ^ ((-(p + ((t + 1 : Nat) : Int))).toNat + (t + 1) + p.toNat) := by
      rw [Nat.pow_add 2 _ p.toNat, Nat.pow_add 2 _ (t + 1)]; ac_rfl
    rw [e1, ← hv, e2, Nat.mul_assoc (N * n), ← Nat.pow_add]
    congr 2
    omega
  obtain ⟨r1, r2⟩ := rne_ratio (y := n * 2 ^ (t + 1)) (Nat.mul_pos hn (Nat.two_pow_pos _)) (dE_pos hD _) hx
  have z1 : (p - 1 - lastP mag (p - 1)).toNat = 0 := by omega
  have z2 : (lastP mag (p - 1) - (p - 1)).toNat = t + 2 := by omega
  refine near_rnd neg (p - 1) (by omega) hN hD ?_ ?_
  · rw [z1, z2, Nat.pow_zero, Nat.mul_one, s2, r2]; rfl
  · rw [z1, z2, Nat.pow_zero, Nat.mul_one, s1, r1]
end Go.Proofs.YtfcoffllelgakaaDoor
