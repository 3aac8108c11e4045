import Derived.Test.YtfcoffllelgakaaDoorNrQ
import Derived.Test.YtfcoffllelgakaaDoorMgIK
import Derived.Test.YtfcoffllelgakaaDoorMUp
import Derived.Test.YtfcoffllelgakaaDoorMDown
import Derived.Test.YtfcoffllelgakaaDoorBitsL
import Derived.Test.YtfcoffllelgakaaDoorMgFO
namespace Go.Proofs.YtfcoffllelgakaaDoor
set_option linter.unusedVariables false
set_option linter.unusedSimpArgs false

/-- A float is its own nearest. -/
theorem rnd_self (s : Bool) (y : Nat) (h : frung y < 9218868437227405312) : rndV s (fu y) lowP = Ieee.double.word s (frung y) := by
  by_cases h0 : frung y = 0
  · have e : fu y = 0 := by rw [fu_eq, (fmag_zero y).2 h0, Nat.zero_mul]
    unfold rndV
    rw [if_pos e, h0]
    exact setN_word s 0 (by decide)
  · have hp := fu_pos h0
    have hge := fpl_ge y
    have hr : nE (fu y) (fpl y) * 1 = fmag y * dE lowP (fpl y) := by
      rw [nE_eq, dE_eq, fu_eq, Nat.mul_one, Nat.mul_assoc, low_pow (fpl y) hge]
    obtain ⟨r1, r2⟩ := rne_ratio (dE_pos lowP_pos (fpl y)) (by decide : 0 < 1) hr
    have hm := fmag_lt y
    have hq : qE (fu y) lowP (fpl y) = fmag y := by unfold qE; rw [r2, Nat.div_one]
    have hrn : rne (fmag y) 1 = fmag y := by
      unfold rne rneUp
      rw [Nat.div_one, Nat.mod_one, decide_eq_false (by omega), decide_eq_false (by omega)]
      rfl
    have hex : -1074 < fpl y → 4503599627370496 ≤ fmag y := by
      unfold fpl fmag
      split <;> omega
    have hE : rE (fu y) lowP = fpl y := rE_uniq hp lowP_pos hge (by rw [hq]; exact hm) (by rw [hq]; exact hex)
    rw [rndV_word s hp lowP_pos]
    unfold rungN
    rw [hE, r1, hrn]
    have hfr := f_rung y
    have hf : ffrac y < 4503599627370496 := Nat.mod_lt _ (by decide)
    have e : (fpl y + 1074).toNat * 4503599627370496 + fmag y = frung y := by
      unfold fpl fmag
      by_cases he : fexp y = 0
      · rw [if_pos he, if_pos he, hfr, he, Nat.zero_mul]
        have e0 : ((-1074 : Int) + 1074).toNat = 0 := by decide
        rw [e0, Nat.zero_mul]
      · rw [if_neg he, if_neg he]
        rw [hfr, show (-1074 + ((fexp y - 1 : Nat) : Int) + 1074).toNat = fexp y - 1 by omega]
        obtain ⟨k, hk⟩ : ∃ k, fexp y = k + 1 := ⟨fexp y - 1, by omega⟩
        rw [hk, Nat.add_sub_cancel, Nat.add_mul, Nat.one_mul]
        omega
    rw [e, Nat.min_eq_left (by omega)]
/-- One, times a float. -/
theorem mul_one_float (y : Nat) (hy : y < 18446744073709551616) (h : frung y < 9218868437227405312) : Ieee.double.mul 4607182418800017408 y = some y := by
  rw [times_num _ y (by decide) h]
  have e1 : fneg 4607182418800017408 = false := by decide
  have e2 : (false != fneg y) = fneg y := by cases fneg y <;> rfl
  have e3 : fu 4607182418800017408 = lowP := by
    obtain ⟨k, a1, a3⟩ : ∃ k, fexp 4607182418800017408 = k + 1 ∧ 52 + k = lowE := ⟨1022, by decide, rfl⟩
    have a2 : ffrac 4607182418800017408 = 0 := by decide
    unfold fu lowP
    rw [a1, a2, if_neg (by omega), Nat.zero_add, show (4503599627370496 : Nat) = 2 ^ 52 from by decide, Nat.add_sub_cancel, ← Nat.pow_add, a3]
  rw [e1, e2, e3]
  have hr : rndV (fneg y) (lowP * fu y) (lowP * lowP) = rndV (fneg y) (fu y) lowP := by
    have hi := fpl_ge y
    rw [← near_of (fneg y) (mag := fmag y) (fpl y) (Nat.mul_pos lowP_pos lowP_pos), ← near_of (fneg y) (mag := fmag y) (fpl y) lowP_pos]
    · rw [fu_eq, Nat.mul_assoc, low_pow (fpl y) hi, Nat.mul_assoc]
    · rw [fu_eq]
      have := low_pow (fpl y) hi
      generalize lowP = L at *
      rw [show L * (fmag y * 2 ^ (fpl y + 1074).toNat) * 2 ^ (-fpl y).toNat = fmag y * L * (2 ^ (fpl y + 1074).toNat * 2 ^ (-fpl y).toNat) by ac_rfl, this]
      ac_rfl
  rw [hr, rnd_self _ y h, word_parts y hy]
/-- The highest digits, with one that tells of all below. -/
def stick (W r : Nat) : Nat := if r = 0 then W else W ||| 1
theorem or_one (W : Nat) : W ||| 1 = 2 * (W / 2) + 1 := by
  have h := Nat.two_pow_add_eq_or_of_lt (i := 1) (b := 1) (by decide) (W / 2)
  apply Nat.eq_of_testBit_eq
  intro i
  cases i with
  | zero => rw [Nat.testBit_or]; simp
  | succ k =>
    rw [Nat.testBit_or, Nat.testBit_succ, Nat.testBit_succ, Nat.testBit_succ]
    rw [show (2 * (W / 2) + 1) / 2 = W / 2 by omega]
    simp
theorem stick_eq (W r : Nat) : stick W r / 2048 = W / 2048 ∧ (stick W r % 2048 = if r = 0 then W % 2048 else 2 * (W % 2048 / 2) + 1) := by
  unfold stick
  split
  · exact ⟨rfl, rfl⟩
  · rw [or_one]
    omega
theorem rne_stick (W B r : Nat) (hr : r < B) : rne (stick W r) 2048 = rne (W * B + r) (2048 * B) ∧ (W * B + r) / (2048 * B) = W / 2048 := by
  obtain ⟨s1, s2⟩ := stick_eq W r
  have hB : 0 < B := by omega
  have hW := Nat.div_add_mod W 2048
  have hc := Nat.mod_lt W (show 0 < 2048 by decide)
  generalize W / 2048 = k at *
  generalize W % 2048 = c at *
  have E : W * B + r = (c * B + r) + 2048 * B * k := by
    rw [← hW, Nat.add_mul]
    have : 2048 * k * B = 2048 * B * k := by ac_rfl
    omega
  have nc : c * B + r < 2048 * B := by
    have : (c + 1) * B ≤ 2048 * B := Nat.mul_le_mul_right B hc
    rw [Nat.add_mul] at this
    omega
  have d2 : (W * B + r) / (2048 * B) = k := by
    rw [E, Nat.add_mul_div_left _ _ (by omega), Nat.div_eq_of_lt nc, Nat.zero_add]
  have m2 : (W * B + r) % (2048 * B) = c * B + r := by
    rw [E, Nat.add_mul_mod_self_left, Nat.mod_eq_of_lt nc]
  refine ⟨?_, d2⟩
  unfold rne rneUp
  rw [s1, s2, d2, m2]
  generalize hS : (if r = 0 then c else 2 * (c / 2) + 1) = c'
  have hc0 : r = 0 → c' = c := fun h => by rw [← hS, if_pos h]
  have hc1 : ¬ r = 0 → c' = 2 * (c / 2) + 1 := fun h => by rw [← hS, if_neg h]
  clear hS
  have k1 : (2048 < 2 * c') ↔ (2048 * B < 2 * (c * B + r)) := by
    rcases Nat.lt_trichotomy c 1024 with h | h | h
    · have : (c + 1) * B ≤ 1024 * B := Nat.mul_le_mul_right B h
      rw [Nat.add_mul] at this
      by_cases h0 : r = 0
      · rw [hc0 h0]; omega
      · rw [hc1 h0]; omega
    · subst h
      by_cases h0 : r = 0
      · rw [hc0 h0]; omega
      · rw [hc1 h0]; omega
    · have : (1024 + 1) * B ≤ c * B := Nat.mul_le_mul_right B h
      rw [Nat.add_mul] at this
      by_cases h0 : r = 0
      · rw [hc0 h0]; omega
      · rw [hc1 h0]; omega
  have k2 : (2048 = 2 * c') ↔ (2048 * B = 2 * (c * B + r)) := by
    rcases Nat.lt_trichotomy c 1024 with h | h | h
    · have : (c + 1) * B ≤ 1024 * B := Nat.mul_le_mul_right B h
      rw [Nat.add_mul] at this
      by_cases h0 : r = 0
      · rw [hc0 h0]; omega
      · rw [hc1 h0]; omega
    · subst h
      by_cases h0 : r = 0
      · rw [hc0 h0]; omega
      · rw [hc1 h0]; omega
    · have : (1024 + 1) * B ≤ c * B := Nat.mul_le_mul_right B h
      rw [Nat.add_mul] at this
      by_cases h0 : r = 0
      · rw [hc0 h0]; omega
      · rw [hc1 h0]; omega
  rw [decide_eq_decide.2 k1, decide_eq_decide.2 k2]
/-- How many digits are below the window, and the window. -/
def belN (N : Nat) : Nat := (bl N - 64).toNat
def winN (N : Nat) : Nat := stick (N / 2 ^ belN N) (N % 2 ^ belN N)
/-- The float of the window. -/
def f0N (N : Nat) : Nat := Ieee.double.nearest false (winN N) 0
theorem win_zero (N : Nat) (h : belN N = 0) : winN N = N := by
  unfold winN stick
  rw [h, Nat.pow_zero, Nat.div_one, Nat.mod_one, if_pos rfl]
theorem win_lt (N : Nat) : N / 2 ^ belN N < 18446744073709551616 := by
  rcases Nat.eq_zero_or_pos N with h0 | h0
  · rw [h0, Nat.zero_div]; decide
  · have h2 := (bl_val h0).2
    rw [Nat.div_lt_iff_lt_mul (Nat.two_pow_pos _), show (18446744073709551616 : Nat) = 2 ^ 64 from by decide, ← Nat.pow_add]
    refine Nat.lt_of_lt_of_le h2 (Nat.pow_le_pow_right (by decide) ?_)
    unfold belN; omega
theorem stick_lt {W r : Nat} (h : W < 18446744073709551616) : stick W r < 18446744073709551616 := by
  unfold stick
  split
  · exact h
  · rw [or_one]; omega
theorem win_top (N : Nat) (h : 0 < belN N) : 9223372036854775808 ≤ N / 2 ^ belN N := by
  have h0 : 0 < N := by
    rcases Nat.eq_zero_or_pos N with h1 | h1
    · rw [h1] at h; unfold belN at h; rw [bl_zero] at h; exact absurd h (by decide)
    · exact h1
  have h2 := (bl_val h0).1
  rw [Nat.le_div_iff_mul_le (Nat.two_pow_pos _), show (9223372036854775808 : Nat) = 2 ^ 63 from by decide, ← Nat.pow_add]
  obtain ⟨t, ht⟩ : ∃ t : Nat, (bl N).toNat = t + 1 := ⟨(bl N).toNat - 1, by unfold belN at h; omega⟩
  have e : 63 + belN N = t := by unfold belN at h ⊢; omega
  rw [e]
  rw [ht, Nat.pow_succ] at h2
  omega
theorem win_rung (N : Nat) (hN : 0 < N) : ∃ R, f0N N = Ieee.double.word false R ∧ 4607182418800017408 ≤ R ∧ R ≤ 4899916394579099648 ∧ rungN N 1 = min (R + belN N * 4503599627370496) 9218868437227405312 := by
  by_cases h : belN N = 0
  · unfold f0N
    rw [win_zero N h, h, Nat.zero_mul]
    have hl : N.log2 ≤ 63 := by
      refine log2_le' ?_
      have := win_lt N
      rw [h, Nat.pow_zero, Nat.div_one] at this
      exact this
    have e : Ieee.double.nearest false N 0 = rndV false N 1 := near_of _ _ (by decide) (by simp)
    have e2 := nearest_eq false (mag := N) 0 hN
    have hL : lastP N 0 = (N.log2 : Int) - 52 := by unfold lastP; omega
    obtain ⟨f1, f2⟩ := last_floor (mag := N) 0 hN
    have hlow := f2 (by rw [hL]; omega)
    generalize hX : N * 2 ^ ((0 : Int) - lastP N 0).toNat = X at *
    generalize hY : 2 ^ (lastP N 0 - 0).toNat = Y at *
    have hrl := rne_le X Y
    have hrg : X / Y ≤ rne X Y := by unfold rne; omega
    have hlt : (lastP N 0 + 1074).toNat * 4503599627370496 + rne X Y < 9218868437227405312 := by rw [hL]; omega
    rw [Nat.min_eq_left (by omega)] at e2
    refine ⟨_, e2, by rw [hL]; omega, by rw [hL]; omega, ?_⟩
    rw [Nat.add_zero, Nat.min_eq_left (by omega)]
    have e3 := rndV_word false hN (D := 1) (by decide)
    rw [← e, e2] at e3
    have hr1 : rungN N 1 ≤ 9218868437227405312 := Nat.min_le_right _ _
    have := congrArg frung e3
    rw [(word_eq false _ (by omega)).2, (word_eq false _ (by omega)).2] at this
    exact this.symm
  · have hb : 0 < belN N := by omega
    have hW1 := win_top N hb
    have hW2 := win_lt N
    unfold f0N winN
    have hNd := Nat.div_add_mod N (2 ^ belN N)
    have hr := Nat.mod_lt N (Nat.two_pow_pos (belN N))
    generalize hW : N / 2 ^ belN N = W at *
    generalize N % 2 ^ belN N = r at *
    obtain ⟨s1, s2⟩ := rne_stick W (2 ^ belN N) r hr
    rw [show W * 2 ^ belN N + r = N by rw [Nat.mul_comm]; exact hNd] at s1 s2
    have hst : 9223372036854775808 ≤ stick W r := by unfold stick; split; exact hW1; rw [or_one]; omega
    have hst2 := stick_lt (r := r) hW2
    have hst3 := (stick_eq W r).1
    generalize stick W r = S at *
    have hlog : S.log2 = 63 := by
      have h1 : S.log2 ≤ 63 := log2_le' hst2
      have h2 : 63 ≤ S.log2 := (Nat.le_log2 (by omega)).2 hst
      omega
    have hL : lastP S 0 = 11 := by unfold lastP; rw [hlog]; rfl
    rw [nearest_eq false 0 (by omega), hL]
    show ∃ R, Ieee.double.word false (min (1085 * 4503599627370496 + rne (S * 1) 2048) 9218868437227405312) = _ ∧ _
    rw [Nat.mul_one, s1]
    have hu : rE N 1 = 11 + (belN N : Int) := by
      have hd : dE 1 (11 + (belN N : Int)) = 2048 * 2 ^ belN N := by
        rw [dE_eq, Nat.one_mul, show (11 + (belN N : Int)).toNat = 11 + belN N by omega, Nat.pow_add]
      have hn : nE N (11 + (belN N : Int)) = N := by
        rw [nE_eq, show (-(11 + (belN N : Int))).toNat = 0 by omega, Nat.pow_zero, Nat.mul_one]
      refine rE_uniq hN (by decide) (by omega) ?_ ?_
      · unfold qE; rw [hd, hn, s2]; omega
      · intro _; unfold qE; rw [hd, hn, s2]; omega
    have hrl := rne_le N (2048 * 2 ^ belN N)
    have hrg : N / (2048 * 2 ^ belN N) ≤ rne N (2048 * 2 ^ belN N) := by unfold rne; omega
    rw [s2] at hrl hrg
    have hrung : rungN N 1 = min ((11 + (belN N : Int) + 1074).toNat * 4503599627370496 + rne N (2048 * 2 ^ belN N)) 9218868437227405312 := by
      unfold rungN
      rw [hu]
      have hd : dE 1 (11 + (belN N : Int)) = 2048 * 2 ^ belN N := by
        rw [dE_eq, Nat.one_mul, show (11 + (belN N : Int)).toNat = 11 + belN N by omega, Nat.pow_add]
      have hn : nE N (11 + (belN N : Int)) = N := by
        rw [nE_eq, show (-(11 + (belN N : Int))).toNat = 0 by omega, Nat.pow_zero, Nat.mul_one]
      rw [hd, hn]
    generalize rne N (2048 * 2 ^ belN N) = Q at *
    rw [Nat.min_eq_left (by omega)]
    refine ⟨_, rfl, by omega, by omega, ?_⟩
    rw [hrung, show (11 + (belN N : Int) + 1074).toNat = 1085 + belN N by omega, Nat.add_mul]
    congr 1
    omega
end Go.Proofs.YtfcoffllelgakaaDoor

namespace Go.Proofs.YtfcoffllelgakaaDoor
open Go.RowKit
set_option linter.unusedVariables false
set_option linter.unusedSimpArgs false

set_option maxRecDepth 100000 in
theorem abs_any (x : Nat) (w : World) (hx : x < 18446744073709551616) :
    Calls Tryd.prog 90 #[.float .f64 x] w fun e w' => e = .returned (.float .f64 (frung x)) ∧ w' = w := by
  have hb := bits_run x w
  have h := andNot_sign (x : Int) (by omega) (by omega)
  rw [Int.toNat_natCast] at h
  have hF := frombits_run (frung x : Nat) w
  rw [Int.toNat_natCast] at hF
  generalize frung x = F at *
  go_enter Tryd.func90, Tryd.ntmps90
  go_wp2
  go_ret
  exact ⟨rfl, rfl⟩
theorem big_order {a b : Nat} (ha : a < 9218868437227405312) (hb : b < 9218868437227405312) : Ieee.double.order a b = some (compare (fu a) (fu b)) := by
  have f1 : frung a = a := by unfold frung; omega
  have f2 : frung b = b := by unfold frung; omega
  have n1 : fneg a = false := by unfold fneg; rw [show a / 9223372036854775808 % 2 = 0 by omega]; rfl
  have n2 : fneg b = false := by unfold fneg; rw [show b / 9223372036854775808 % 2 = 0 by omega]; rfl
  rw [order_fin a b (by omega) (by omega), n1, n2]
  congr 1
  show compare (fu a : Int) (fu b : Int) = _
  rcases Nat.lt_trichotomy (fu a) (fu b) with h | h | h
  · rw [Int.compare_eq_lt.2 (by omega), Nat.compare_eq_lt.2 h]
  · rw [h]; simp
  · rw [Int.compare_eq_gt.2 (by omega), Nat.compare_eq_gt.2 h]
theorem fu_mono {a b : Nat} (h : a < b) (hb : b < 9218868437227405312) : fu a < fu b := by
  have ea := f_rung a
  have eb := f_rung b
  have f1 : frung a = a := by unfold frung; omega
  have f2 : frung b = b := by unfold frung; omega
  rw [f1] at ea
  rw [f2] at eb
  have la : ffrac a < 4503599627370496 := Nat.mod_lt _ (by decide)
  have lb : ffrac b < 4503599627370496 := Nat.mod_lt _ (by decide)
  unfold fu
  generalize fexp a = A at *
  generalize fexp b = B at *
  generalize ffrac a = fa at *
  generalize ffrac b = fb at *
  by_cases hA : A = 0
  · rw [if_pos hA]
    by_cases hB : B = 0
    · rw [if_pos hB]; subst hA hB; omega
    · rw [if_neg hB]
      have : (fb + 4503599627370496) * 1 ≤ (fb + 4503599627370496) * 2 ^ (B - 1) := Nat.mul_le_mul_left _ (Nat.two_pow_pos _)
      omega
  · have hB : ¬ B = 0 := by intro h0; subst h0; omega
    rw [if_neg hA, if_neg hB]
    rcases Nat.lt_trichotomy A B with h1 | h1 | h1
    · obtain ⟨k, hk⟩ : ∃ k, B - 1 = (A - 1) + 1 + k := ⟨B - 1 - A, by omega⟩
      rw [hk, Nat.pow_add, Nat.pow_succ]
      have hp := Nat.two_pow_pos (A - 1)
      have hq := Nat.two_pow_pos k
      generalize 2 ^ (A - 1) = P at *
      generalize 2 ^ k = Q at *
      have s1 : (fa + 4503599627370496) * P < (4503599627370496 + 4503599627370496) * P := Nat.mul_lt_mul_of_pos_right (by omega) hp
      have s2 : (fb + 4503599627370496) * (P * 2 * 1) ≤ (fb + 4503599627370496) * (P * 2 * Q) := Nat.mul_le_mul_left _ (Nat.mul_le_mul_left _ hq)
      have s3 : 4503599627370496 * (P * 2) ≤ (fb + 4503599627370496) * (P * 2) := Nat.mul_le_mul_right _ (by omega)
      rw [Nat.mul_one] at s2
      omega
    · subst h1
      exact Nat.mul_lt_mul_of_pos_right (by omega) (Nat.two_pow_pos _)
    · exfalso
      have : (B + 1) * 4503599627370496 ≤ A * 4503599627370496 := Nat.mul_le_mul_right _ h1
      rw [Nat.add_mul] at this
      omega
theorem order_gt {a b : Nat} (h : b < a) (ha : a < 9218868437227405312) : Ieee.double.order a b = some .gt := by
  rw [big_order ha (by omega), Nat.compare_eq_gt.2 (fu_mono h ha)]
theorem order_lt {a b : Nat} (h : a < b) (hb : b < 9218868437227405312) : Ieee.double.order a b = some .lt := by
  rw [big_order (by omega) hb, Nat.compare_eq_lt.2 (fu_mono h hb)]
set_option maxRecDepth 100000 in
theorem isInf_any (x : Nat) (n : Int) (w : World) (h0 : n = 0 ∨ n = 1) (hx : x ≤ 9218868437227405312) :
    Calls Tryd.prog 61 #[.float .f64 x, .int .i64 n] w fun e w' => e = .returned (.bool (decide (x = 9218868437227405312))) ∧ w' = w := by
  have hfr : frung x = x := by unfold frung; omega
  have HA := abs_any x w (by omega)
  rw [hfr] at HA
  by_cases hi : x = 9218868437227405312
  · subst hi
    have ho : FloatKind.f64.format.order 9218868437227405312 9218868437227405311 = some .gt := by
      rw [show FloatKind.f64.format = Ieee.double from rfl, order_inf_num _ _ (by decide) (by decide)]; rfl
    rcases h0 with rfl | rfl
    · go_enter Tryd.func61, Tryd.ntmps61
      go_wp2_with fail
      refine HA.mono ?_
      rintro e w1 ⟨rfl, hw1⟩
      rw [hw1]
      clear hw1 w1
      go_wp2
      go_ret
      exact ⟨rfl, rfl⟩
    · go_enter Tryd.func61, Tryd.ntmps61
      go_wp2
      go_ret
      exact ⟨rfl, rfl⟩
  · rw [decide_eq_false hi]
    have ho : FloatKind.f64.format.order x 9218868437227405311 = some .lt ∨ FloatKind.f64.format.order x 9218868437227405311 = some .eq := by
      rcases Nat.lt_or_ge x 9218868437227405311 with h | h
      · exact .inl (order_lt h (by decide))
      · obtain rfl : x = 9218868437227405311 := by omega
        right
        show Ieee.double.order _ _ = _
        rw [order_self]; rfl
    clear hi hfr
    rcases h0 with rfl | rfl
    · rcases ho with ho | ho <;>
      · go_enter Tryd.func61, Tryd.ntmps61
        go_wp2_with fail
        refine HA.mono ?_
        rintro e w1 ⟨rfl, hw1⟩
        rw [hw1]
        clear hw1 w1
        go_wp2
        go_ret
        exact ⟨rfl, rfl⟩
    · rcases ho with ho | ho <;>
      · go_enter Tryd.func61, Tryd.ntmps61
        go_wp2
        go_ret
        exact ⟨rfl, rfl⟩
set_option maxRecDepth 100000 in
theorem normalize_any (x : Nat) (w : World) (h0 : 4607182418800017408 ≤ x) (hx : x < 9218868437227405312) :
    Calls Tryd.prog 99 #[.float .f64 x] w fun e w' => e = .returned (.tuple #[.float .f64 x, .int .i64 0]) ∧ w' = w := by
  have hfr : frung x = x := by unfold frung; omega
  have HA := abs_any x w (by omega)
  rw [hfr] at HA
  have ho : FloatKind.f64.format.order x 4503599627370496 = some .gt := order_gt (by omega) hx
  clear hfr
  go_enter Tryd.func99, Tryd.ntmps99
  go_wp2_with fail
  refine HA.mono ?_
  rintro e w1 ⟨rfl, hw1⟩
  rw [hw1]
  clear hw1 w1
  go_wp2
  exact bodyPost_ret (v := .tuple #[.float .f64 x, .int .i64 0]) (by simp [results, Tryd.results99, go_sem]) rfl ⟨rfl, rfl⟩
end Go.Proofs.YtfcoffllelgakaaDoor

namespace Go.Proofs.YtfcoffllelgakaaDoor
open Go.RowKit
set_option linter.unusedVariables false
set_option linter.unusedSimpArgs false

theorem ofInt_i642 (a : Nat) (ha : a < 9223372036854775808) : (BitVec.ofInt 64 (a : Int)).toNat = a := by
  rw [BitVec.ofInt_natCast, BitVec.toNat_ofNat]; exact Nat.mod_eq_of_lt (by omega)
theorem i64_and_nat2 (a b : Nat) (ha : a < 9223372036854775808) (hb : b < 9223372036854775808) : bits .and .i64 (a : Int) (b : Int) = ((a &&& b : Nat) : Int) := by
  have hx : a &&& b < 2 ^ 63 := Nat.and_lt_two_pow _ (by omega)
  show IntKind.i64.wrap ((BitVec.ofInt 64 (a : Int) &&& BitVec.ofInt 64 (b : Int)).toNat : Int) = _
  rw [BitVec.toNat_and, ofInt_i642 a ha, ofInt_i642 b hb]
  simp [IntKind.wrap, IntKind.bits, IntKind.signed]; omega
set_option maxRecDepth 100000 in
theorem inf_any (w : World) :
    Calls Tryd.prog 100 #[.int .i64 1] w fun e w' => e = .returned (.float .f64 9218868437227405312) ∧ w' = w := by
  have hF := frombits_run 9218868437227405312 w
  go_enter Tryd.func100, Tryd.ntmps100
  go_wp2
  go_ret
  exact ⟨rfl, rfl⟩
/-- What Ldexp answers of a float of 1 at least. -/
def ldX (x n : Nat) : Nat := if 2046 < x / 4503599627370496 + n then 9218868437227405312 else x + n * 4503599627370496
theorem clear_exp (x : Nat) (hx : x < 9223372036854775808) : bits .andNot .u64 (x : Int) 9218868437227405312 = ((x % 4503599627370496 : Nat) : Int) := by
  rw [u64_andNot _ _ (by omega) (by omega) (by decide) (by decide), Int.toNat_natCast]
  congr 1
  rw [show (18446744073709551615 - (9218868437227405312 : Int).toNat : Nat) = 9227875636482146303 from by decide]
  apply Nat.eq_of_testBit_eq
  intro i
  rw [Nat.testBit_and, show (4503599627370496 : Nat) = 2 ^ 52 from by decide, Nat.testBit_mod_two_pow]
  by_cases h1 : i < 52
  · rw [decide_eq_true h1, Bool.true_and]
    have : Nat.testBit 9227875636482146303 i = true := by
      have : ∀ j : Fin 52, Nat.testBit 9227875636482146303 j.val = true := by decide
      exact this ⟨i, h1⟩
    rw [this, Bool.and_true]
  · rw [decide_eq_false h1, Bool.false_and]
    by_cases h2 : i < 63
    · have : Nat.testBit 9227875636482146303 i = false := by
        have : ∀ j : Fin 11, Nat.testBit 9227875636482146303 (52 + j.val) = false := by decide
        have := this ⟨i - 52, by omega⟩
        rw [show 52 + (i - 52) = i by omega] at this
        exact this
      rw [this, Bool.and_false]
    · have : x.testBit i = false := Nat.testBit_lt_two_pow (Nat.lt_of_lt_of_le hx (Nat.le_trans (by decide : 9223372036854775808 ≤ 2 ^ 63) (Nat.pow_le_pow_right (by decide) (by omega))))
      rw [this, Bool.false_and]
theorem put_exp (f E : Nat) (hf : f < 4503599627370496) (hE : E ≤ 2046) : bits .or .u64 (f : Int) ((E * 4503599627370496 : Nat) : Int) = ((E * 4503599627370496 + f : Nat) : Int) := by
  rw [u64_or _ _ (by omega) (by omega) (by omega) (by omega), Int.toNat_natCast, Int.toNat_natCast]
  congr 1
  have h := Nat.two_pow_add_eq_or_of_lt (i := 52) (b := f) (by rw [show (2 : Nat) ^ 52 = 4503599627370496 from by decide]; exact hf) E
  rw [show (2 : Nat) ^ 52 = 4503599627370496 from by decide, Nat.mul_comm] at h
  rw [Nat.or_comm]
  exact h.symm
set_option maxRecDepth 100000 in
set_option maxHeartbeats 1500000 in
theorem ldexp_any (x n : Nat) (w : World) (h0 : 4607182418800017408 ≤ x) (hx : x < 9218868437227405312) (hn : n ≤ 10000) :
    Calls Tryd.prog 89 #[.float .f64 x, .int .i64 n] w fun e w' => e = .returned (.float .f64 (ldX x n)) ∧ w' = w := by
  have ho : FloatKind.f64.format.order x 0 = some .gt := order_gt (by omega) hx
  have HI := isInf_any x 0 w (.inl rfl) (by omega)
  rw [decide_eq_false (by omega)] at HI
  have HN := isNan_any x w
  have hfr : frung x = x := by unfold frung; omega
  have hnn : isN x = false := by unfold isN; rw [hfr, decide_eq_false (by omega)]
  rw [hnn] at HN
  have HZ := normalize_any x w h0 hx
  have hb := bits_run x w
  obtain ⟨E, hE⟩ : ∃ E : Nat, E = x / 4503599627370496 := ⟨_, rfl⟩
  have hE1 : 1023 ≤ E := by omega
  have hE2 : E ≤ 2046 := by omega
  have hsh : (x : Int) / 4503599627370496 = (E : Int) := by omega
  have hand : bits .and .i64 (E : Int) 2047 = (E : Int) := by
    have h := i64_and_nat2 E 2047 (by omega) (by decide)
    rw [show (2047 : Nat) = 2 ^ 11 - 1 from by decide, Nat.and_two_pow_sub_one_eq_mod, Nat.mod_eq_of_lt (by omega)] at h
    exact h
  have HF := inf_any w
  by_cases hbig : 2046 < E + n
  · have hL : ldX x n = 9218868437227405312 := by unfold ldX; rw [if_pos (by omega)]
    rw [hL]
    have HE : Hid (E = x / 4503599627370496) := hE
    clear hE hL hnn hfr
    go_enter Tryd.func89, Tryd.ntmps89
    go_wp2_with fail
    refine HI.mono ?_
    rintro e w1 ⟨rfl, hw1⟩
    rw [hw1]
    clear hw1 w1
    go_wp2_with fail
    refine HN.mono ?_
    rintro e w1 ⟨rfl, hw1⟩
    rw [hw1]
    clear hw1 w1
    go_wp2_with fail
    refine HZ.mono ?_
    rintro e w1 ⟨rfl, hw1⟩
    rw [hw1]
    clear hw1 w1
    go_wp2_with fail
    refine HF.mono ?_
    rintro e w1 ⟨rfl, hw1⟩
    rw [hw1]
    clear hw1 w1
    go_wp2
    go_ret
    exact ⟨rfl, rfl⟩
  · have hL : ldX x n = x + n * 4503599627370496 := by unfold ldX; rw [if_neg (by omega)]
    rw [hL]
    obtain ⟨f, hf⟩ : ∃ f : Nat, f = x % 4503599627370496 := ⟨_, rfl⟩
    obtain ⟨T, hT⟩ : ∃ T : Nat, T = E + n := ⟨_, rfl⟩
    obtain ⟨Z, hZ⟩ : ∃ Z : Nat, Z = x + n * 4503599627370496 := ⟨_, rfl⟩
    obtain ⟨Y, hY⟩ : ∃ Y : Nat, Y = T * 4503599627370496 := ⟨_, rfl⟩
    have c1 := clear_exp x (by omega)
    rw [← hf] at c1
    have c2 := put_exp f T (by omega) (by omega)
    rw [← hY, show Y + f = Z by omega] at c2
    have hZ2 : Z < 9218868437227405312 := by omega
    have hfz : frung Z = Z := by unfold frung; omega
    have hm := mul_one_float Z (by omega) (by omega)
    have hFr := frombits_run (Z : Int) w
    rw [Int.toNat_natCast] at hFr
    have h3 := fun t W => run_float_arith (P := Tryd.prog) W .mul t .f64 4607182418800017408 Z Z hm
    obtain ⟨D, hD⟩ : ∃ D : Int, (E : Int) - 1023 = D := ⟨_, rfl⟩
    obtain ⟨X, hX⟩ : ∃ X : Int, (n : Int) + D = X := ⟨_, rfl⟩
    obtain ⟨TT, hTT⟩ : ∃ TT : Int, X + 1023 = TT := ⟨_, rfl⟩
    obtain ⟨YY, hYY⟩ : ∃ YY : Int, TT * 4503599627370496 = YY := ⟨_, rfl⟩
    have hYe : (Y : Int) = YY := by omega
    rw [hYe] at c2
    have x1 : 0 ≤ X := by omega
    have x2 : X ≤ 1023 := by omega
    have t1 : 1023 ≤ TT := by omega
    have t2 : TT ≤ 2046 := by omega
    have y1 : 0 ≤ YY := by omega
    have y2 : YY ≤ 9214364837600034816 := by omega
    rw [← hZ]
    clear hE hL hnn hfr hf hT hZ hY hm hfz hZ2 hYe h0 hx hbig HF
    go_enter Tryd.func89, Tryd.ntmps89
    go_wp2_with fail
    refine HI.mono ?_
    rintro e w1 ⟨rfl, hw1⟩
    rw [hw1]
    clear hw1 w1
    go_wp2_with fail
    refine HN.mono ?_
    rintro e w1 ⟨rfl, hw1⟩
    rw [hw1]
    clear hw1 w1
    go_wp2_with fail
    refine HZ.mono ?_
    rintro e w1 ⟨rfl, hw1⟩
    rw [hw1]
    clear hw1 w1
    go_wp2
    go_ret
    exact ⟨rfl, rfl⟩
set_option maxRecDepth 100000 in
theorem ldexp_zero (w : World) :
    Calls Tryd.prog 89 #[.float .f64 0, .int .i64 0] w fun e w' => e = .returned (.float .f64 0) ∧ w' = w := by
  have ho : FloatKind.f64.format.order 0 0 = some .eq := ord_zero (r := 0) rfl
  go_enter Tryd.func89, Tryd.ntmps89
  go_wp2
  go_ret
  exact ⟨rfl, rfl⟩
/-- The float of a number, without its sign. -/
def bfN (N : Nat) : Nat := if N = 0 then 0 else min (f0N N + belN N * 4503599627370496) 9218868437227405312
theorem f0_zero : f0N 0 = 0 := by
  have e : winN 0 = 0 := win_zero 0 (by unfold belN; rw [bl_zero]; rfl)
  unfold f0N
  rw [e, near_zero]
  rfl
theorem bf_le (N : Nat) : bfN N ≤ 9218868437227405312 := by
  unfold bfN
  split
  · decide
  · exact Nat.min_le_right _ _
set_option maxRecDepth 100000 in
theorem Ldexp_any (N : Nat) (w : World) (hn : belN N ≤ 10000) :
    Calls Tryd.prog 60 #[.float .f64 (f0N N), .int .i64 (belN N : Nat)] w fun e w' => e = .returned (.float .f64 (bfN N)) ∧ w' = w := by
  have HL : Calls Tryd.prog 89 #[.float .f64 (f0N N), .int .i64 (belN N : Nat)] w fun e w' => e = .returned (.float .f64 (bfN N)) ∧ w' = w := by
    rcases Nat.eq_zero_or_pos N with h0 | h0
    · subst h0
      have e1 : belN 0 = 0 := by unfold belN; rw [bl_zero]; rfl
      have e2 : bfN 0 = 0 := by unfold bfN; rw [if_pos rfl]
      rw [f0_zero, e1, e2]
      exact ldexp_zero w
    · obtain ⟨R, hR, r1, r2, r3⟩ := win_rung N h0
      have hw : Ieee.double.word false R = R := rfl
      rw [hw] at hR
      have e2 : bfN N = ldX R (belN N) := by
        unfold bfN ldX
        rw [if_neg (by omega), hR]
        split
        · exact Nat.min_eq_right (by omega)
        · exact Nat.min_eq_left (by omega)
      rw [e2, hR]
      exact ldexp_any R (belN N) w r1 (by omega) hn
  generalize f0N N = f at *
  generalize bfN N = F at *
  generalize belN N = n at *
  go_enter Tryd.func60, Tryd.ntmps60
  go_wp2_with fail
  refine HL.mono ?_
  rintro e w1 ⟨rfl, hw1⟩
  rw [hw1]
  clear hw1 w1
  go_wp2
  go_ret
  exact ⟨rfl, rfl⟩
theorem bf_rnd (p : Bool) (N : Nat) (h : N = 0 → p = false) : rndV p N 1 = Ieee.double.word p (bfN N) := by
  rcases Nat.eq_zero_or_pos N with h0 | h0
  · subst h0
    rw [h rfl]
    unfold rndV bfN
    rw [if_pos rfl, if_pos rfl]
    rfl
  · obtain ⟨R, hR, r1, r2, r3⟩ := win_rung N h0
    have hw : Ieee.double.word false R = R := rfl
    rw [hw] at hR
    rw [rndV_word p h0 (by decide), r3]
    unfold bfN
    rw [if_neg (by omega), hR]
theorem lim_getD (t : Nat) (h : t < 18446744073709551616) : (lim t).getD 0 0 = ((t % 4294967296 : Nat) : Int) ∧ (lim t).getD 1 0 = ((t / 4294967296 : Nat) : Int) := by
  by_cases h0 : t = 0
  · subst h0; rw [lim_zero]; exact ⟨rfl, rfl⟩
  · rw [lim_pos h0]
    refine ⟨rfl, ?_⟩
    show (lim (t / 4294967296)).getD 0 0 = _
    by_cases h1 : t / 4294967296 = 0
    · rw [h1, lim_zero]; rfl
    · rw [lim_pos h1]
      show ((t / 4294967296 % 4294967296 : Nat) : Int) = _
      rw [Nat.mod_eq_of_lt (by omega)]
end Go.Proofs.YtfcoffllelgakaaDoor

namespace Go.Proofs.YtfcoffllelgakaaDoor
open Go.RowKit
set_option linter.unusedVariables false
set_option linter.unusedSimpArgs false

theorem or_hilo (t : Nat) (h : t < 18446744073709551616) : bits .or .u64 ((t / 4294967296 : Nat) * 4294967296 : Int) ((t % 4294967296 : Nat) : Int) = (t : Int) := by
  have e : (((t / 4294967296 : Nat) : Int) * 4294967296) = ((t / 4294967296 * 4294967296 : Nat) : Int) := by omega
  rw [e, u64_or _ _ (by omega) (by omega) (by omega) (by omega), Int.toNat_natCast, Int.toNat_natCast]
  have h := Nat.two_pow_add_eq_or_of_lt (i := 32) (b := t % 4294967296) (by rw [show (2 : Nat) ^ 32 = 4294967296 from by decide]; omega) (t / 4294967296)
  rw [show (2 : Nat) ^ 32 = 4294967296 from by decide, Nat.mul_comm] at h
  rw [← h]
  congr 1
  omega
theorem or_last (t : Nat) (h : t < 18446744073709551616) : bits .or .u64 (t : Int) 1 = ((t ||| 1 : Nat) : Int) := by
  rw [u64_or _ _ (by omega) (by omega) (by decide) (by decide), Int.toNat_natCast]
  rfl
set_option maxRecDepth 100000 in
set_option maxHeartbeats 1500000 in
theorem topBits_any (v : Value) (xs : List Int) (w : World) (hx : Rd w v xs) (hnm : Norm xs) (hlx : xs.length ≤ 128) :
    Calls Tryd.prog 59 #[v] w fun e w' => e = .returned (.tuple #[.int .u64 (winN (val xs) : Nat), .int .i64 (belN (val xs) : Nat)]) ∧ Below w.heap.size w w' := by
  have hz : Limbs xs := by obtain ⟨_, _, _, _, h, _⟩ := hx; exact h
  have hlim : lim (val xs) = xs := lim_val hz hnm
  have HB := fun W h => bitLength_any v xs W h
  have hbl : bitsN xs = bl (val xs) := by unfold bl; rw [hlim]
  rw [hbl] at HB
  have hbn := bl_nonneg (val xs)
  obtain ⟨K, hK⟩ : ∃ K : Nat, K = 4096 := ⟨_, rfl⟩
  have hblt : bl (val xs) ≤ (K : Int) := by
    refine bl_le ?_
    have h1 := val_lt hz
    refine Nat.lt_of_lt_of_le h1 ?_
    rw [show (4294967296 : Nat) = 2 ^ 32 from by decide, ← Nat.pow_mul]
    exact Nat.pow_le_pow_right (by decide) (by omega)
  have hbel : (belN (val xs) : Int) = max (bl (val xs) - 64) 0 := by unfold belN; omega
  have hbel2 : belN (val xs) ≤ 4096 := by omega
  have HD := fun (W : World) h => movedDown_any v xs (belN (val xs)) W h (by omega) (by omega)
  have hwl := win_lt (val xs)
  have hwin : Hid (winN (val xs) = stick (val xs / 2 ^ belN (val xs)) (val xs % 2 ^ belN (val xs))) := rfl
  have hdm : Hid (val xs % 2 ^ belN (val xs) = 0 ↔ val xs / 2 ^ belN (val xs) * 2 ^ belN (val xs) = val xs) := by
    show _ ↔ _
    have := Nat.div_add_mod (val xs) (2 ^ belN (val xs))
    rw [Nat.mul_comm] at this
    omega
  generalize hT : val xs / 2 ^ belN (val xs) = t at *
  generalize hr : val xs % 2 ^ belN (val xs) = r at *
  obtain ⟨g0, g1⟩ := lim_getD t hwl
  have h2 : (lim t).length ≤ 128 := Nat.le_trans (lim_length_le (n := t) (k := 2) hwl) (by decide)
  have HA1 := fun (W : World) u h => at_any u (lim t) 1 W h (by decide)
  have HA0 := fun (W : World) u h => at_any u (lim t) 0 W h (by decide)
  rw [g1, show ((1 : Nat) : Int) = 1 from rfl] at HA1
  rw [g0, show ((0 : Nat) : Int) = 0 from rfl] at HA0
  have HU := fun (W : World) u h => movedUp_any u (lim t) (belN (val xs)) W h (by omega) (by omega)
  rw [val_lim] at HU
  have HC := fun (W : World) u h1 h2 => compare_any u v (lim (t * 2 ^ belN (val xs))) xs W h1 h2 (lim_norm _) hnm
  rw [val_lim] at HC
  have hc0 : cmpN (t * 2 ^ belN (val xs)) (val xs) = 0 ↔ r = 0 := by
    have := hdm.out
    unfold cmpN
    split
    · omega
    · split <;> omega
  have o1 := or_hilo t hwl
  have o2 := or_last t hwl
  have hbN : bl (val xs) = ((bl (val xs)).toNat : Int) := by omega
  have hstk : stick t r = if r = 0 then t else t ||| 1 := rfl
  have HW : Hid (winN (val xs) = if r = 0 then t else t ||| 1) := by
    show _ = _
    rw [hwin.out, hstk]
  clear hT hr hwin hdm hlim hbl hstk hz hnm
  generalize winN (val xs) = WN at *
  generalize lim (t * 2 ^ belN (val xs)) = LU at *
  generalize cmpN (t * 2 ^ belN (val xs)) (val xs) = C at *
  generalize belN (val xs) = n at *
  generalize bl (val xs) = b at *
  obtain ⟨hi, hhi⟩ : ∃ hi : Int, ((t / 4294967296 : Nat) : Int) = hi := ⟨_, rfl⟩
  obtain ⟨lo, hlo⟩ : ∃ lo : Int, ((t % 4294967296 : Nat) : Int) = lo := ⟨_, rfl⟩
  have b1 : 0 ≤ hi := by omega
  have b2 : hi ≤ 4294967295 := by omega
  have b3 : 0 ≤ lo := by omega
  have b4 : lo ≤ 4294967295 := by omega
  rw [hhi, hlo] at o1
  rw [hhi] at HA1
  rw [hlo] at HA0
  obtain ⟨M, hM⟩ : ∃ M : Int, b - 64 = M := ⟨_, rfl⟩
  obtain ⟨PH, hPH⟩ : ∃ PH : Int, hi * 4294967296 = PH := ⟨_, rfl⟩
  rw [hPH] at o1
  have b5 : 0 ≤ PH := by omega
  have b6 : PH ≤ 18446744069414584320 := by omega
  have hmx : max M 0 = (n : Int) := by omega
  have hmx2 : (if M ≤ 0 then (0 : Int) else M) = (n : Int) := by split <;> omega
  have b7 : -64 ≤ M := by omega
  have b8 : M ≤ 4032 := by omega
  have hwb : WN < 18446744073709551616 := by
    rw [HW.out]
    split
    · exact hwl
    · rw [or_one]; omega
  rw [hK] at hblt
  clear hhi hlo g0 g1 hbel hbN hwl h2 hK
  go_enter Tryd.func59, Tryd.ntmps59
  go_wp2_with fail
  refine (HB _ hx).mono ?_
  rintro e w1 ⟨rfl, hw1⟩
  rw [hw1]
  clear hw1 w1
  go_wp2_with fail
  refine (HD _ hx).mono ?_
  rintro e w1 ⟨a1, c1, rfl, O1, b1'⟩
  generalize lim t = LT at *
  go_wp2_with fail
  refine (HA1 _ _ O1.rd).mono ?_
  rintro e w2 ⟨rfl, hw2⟩
  rw [hw2]
  clear hw2 w2
  go_wp2_with fail
  refine (HA0 _ _ O1.rd).mono ?_
  rintro e w2 ⟨rfl, hw2⟩
  rw [hw2]
  clear hw2 w2
  go_wp2_with fail
  refine (HU _ _ O1.rd).mono ?_
  rintro e w2 ⟨a2, c2, rfl, O2, b2'⟩
  have V2 := b1'.trans (b2'.mono b1'.size)
  have x2 := (hx.keep b1').keep b2'
  go_wp2_with fail
  refine (HC _ _ O2.rd x2).mono ?_
  rintro e w3 ⟨rfl, b3'⟩
  have V3 := V2.trans (b3'.mono V2.size)
  by_cases hr0 : r = 0
  · have hC : (C == 0) = true := by rw [beq_iff_eq]; exact hc0.2 hr0
    have hwt : WN = t := by rw [HW.out, if_pos hr0]
    subst hwt
    clear hc0 HW o2 O1 O2 b1' b2' b3' V2 x2 HB HD HA1 HA0 HU HC
    go_wp2
    exact bodyPost_ret (v := .tuple #[.int .u64 (WN : Nat), .int .i64 (n : Nat)]) (by simp [results, Tryd.results59, go_sem]) rfl ⟨rfl, V3⟩
  · have hC : (C == 0) = false := by rw [beq_eq_false_iff_ne]; intro h; exact hr0 (hc0.1 h)
    have hwt : t ||| 1 = WN := by rw [HW.out, if_neg hr0]
    rw [hwt] at o2
    clear hc0 HW O1 O2 b1' b2' b3' V2 x2 HB HD HA1 HA0 HU HC hwt
    go_wp2
    exact bodyPost_ret (v := .tuple #[.int .u64 (WN : Nat), .int .i64 (n : Nat)]) (by simp [results, Tryd.results59, go_sem]) rfl ⟨rfl, V3⟩
theorem word_false (x : Nat) : Ieee.double.word false x = x := rfl
theorem neg_float (F : Nat) (h : F ≤ 9218868437227405312) : Op.negFloat .f64 F = Ieee.double.word true F := by
  have e : Op.negFloat .f64 F = F ^^^ 2 ^ 63 := rfl
  have h2 := flip_xor F (by omega)
  rw [u64_xor _ _ (by omega) (by omega) (by decide) (by decide), Int.toNat_natCast, show ((9223372036854775808 : Int).toNat : Nat) = 2 ^ 63 from by decide] at h2
  have h3 : F ^^^ 2 ^ 63 = flipN F := by omega
  rw [e, h3]
  unfold flipN
  have hn : fneg F = false := by unfold fneg; rw [show F / 9223372036854775808 % 2 = 0 by omega]; rfl
  rw [hn, if_neg (by decide), Nat.add_comm]
  rfl
theorem neg_run (F : Nat) (W : World) : (Op.unary .neg (.float .f64 F)).run Tryd.prog W = .ok (.float .f64 (Op.negFloat .f64 F)) W := rfl
theorem of_int (W : Nat) : floatOfInt .f64 (W : Int) = Ieee.double.nearest false W 0 := by
  show Ieee.double.nearest (decide ((W : Int) < 0)) (W : Int).natAbs 0 = _
  rw [decide_eq_false (by omega), Int.natAbs_natCast]
/-- What the nearest float of a number is. -/
def NfP (aA aL : Addr) (p : Bool) (xs : List Int) (r : Nat) (v : Value) : Prop :=
  (okB p xs = false ∧ r = 0 ∧ v = errAt aA) ∨ (okB p xs = true ∧ bfN (val xs) = 9218868437227405312 ∧ r = 0 ∧ v = errAt aL) ∨ (okB p xs = true ∧ ¬ bfN (val xs) = 9218868437227405312 ∧ r = Ieee.double.word p (bfN (val xs)) ∧ v = .nilIface)
set_option maxRecDepth 100000 in
set_option maxHeartbeats 1500000 in
theorem nearest_any (p : Bool) (v : Value) (xs : List Int) (aA aZ aL : Addr) (w : World) (hE : Errs w aA aZ aL) (hx : Rd w v xs) :
    Calls Tryd.prog 27 #[.agg #[.bool p, v]] w fun e w' => ∃ r u, e = .returned (.tuple #[.float .f64 r, u]) ∧ Below w.heap.size w w' ∧ NfP aA aL p xs r u := by
  have hok := bigOk_any p v xs (w.alloc (Obj.cells #[.bool p, v] 29)) (hx.alloc _)
  have bA := Box.new w (.bool p) v 29
  have rx := hx.alloc (Obj.cells #[.bool p, v] 29)
  have hW := (Below.refl w.heap.size w).alloc (Nat.le_refl _) (Obj.cells #[.bool p, v] 29)
  have E0 := hE.below hW
  obtain ⟨a, cap, rfl, _⟩ := id hx
  clear hx hE
  cases g : okB p xs
  · rw [g] at hok
    have hG : Hid (okB p xs = false) := g
    clear g
    go_enter Tryd.func27, Tryd.ntmps27
    go_wp2_with fail
    refine hok.mono ?_
    rintro e w1 ⟨rfl, b1⟩
    have V1 := hW.trans (b1.mono hW.size)
    obtain ⟨⟨g1, g2, g3⟩, -⟩ := E0.below b1
    clear hok b1 bA rx hW E0
    go_wp2_with fail
    go_quiet (fail)
    go_wp2
    all_goals exact bodyPost_ret (v := .tuple #[.float .f64 0, errAt aA]) (by simp [results, Tryd.results27, go_sem]) rfl ⟨0, _, rfl, by first | exact V1 | exact V1.drew | exact below_dn2 V1 _, .inl ⟨hG.out, rfl, rfl⟩⟩
  · rw [g] at hok
    have hG : Hid (okB p xs = true) := g
    have hnm := okB_norm g
    have HT := fun (W : World) (h : Rd W (.slice a xs.length cap) xs) => topBits_any (.slice a xs.length cap) xs W h hnm.1 hnm.2
    have hb4 : belN (val xs) ≤ 10000 := by
      obtain ⟨K, hK⟩ : ∃ K : Nat, K = 4096 := ⟨_, rfl⟩
      have hz : Limbs xs := by obtain ⟨_, _, _, _, h, _⟩ := rx; exact h
      have h1 := val_lt hz
      have h2 : bl (val xs) ≤ (K : Int) := by
        refine bl_le (Nat.lt_of_lt_of_le h1 ?_)
        rw [show (4294967296 : Nat) = 2 ^ 32 from by decide, ← Nat.pow_mul]
        exact Nat.pow_le_pow_right (by decide) (by omega)
      unfold belN
      omega
    have HL := fun (W : World) => Ldexp_any (val xs) W hb4
    have hfi : floatOfInt .f64 ((winN (val xs) : Nat) : Int) = f0N (val xs) := by unfold f0N; exact of_int _
    have hle := bf_le (val xs)
    have HI := fun (W : World) => isInf_any (bfN (val xs)) 1 W (.inr rfl) hle
    have hng := neg_float (bfN (val xs)) hle
    have hnr : ∀ (W : World), (Op.unary .neg (.float .f64 (bfN (val xs)))).run Tryd.prog W = .ok (.float .f64 (Op.negFloat .f64 (bfN (val xs)))) W := neg_run _
    simp only [hng] at hnr
    clear hng
    have HP : ∀ r u, ((bfN (val xs) = 9218868437227405312 ∧ r = 0 ∧ u = errAt aL) ∨ (¬ bfN (val xs) = 9218868437227405312 ∧ r = Ieee.double.word p (bfN (val xs)) ∧ u = .nilIface)) → NfP aA aL p xs r u := by
      rintro r u (h | h)
      · exact .inr (.inl ⟨hG.out, h⟩)
      · exact .inr (.inr ⟨hG.out, h⟩)
    have HPH : Hid (∀ r u, ((bfN (val xs) = 9218868437227405312 ∧ r = 0 ∧ u = errAt aL) ∨ (¬ bfN (val xs) = 9218868437227405312 ∧ r = Ieee.double.word p (bfN (val xs)) ∧ u = .nilIface)) → NfP aA aL p xs r u) := HP
    clear HP hG g hnm hb4
    generalize hwt : Ieee.double.word true (bfN (val xs)) = FT at *
    have HWT : Hid (Ieee.double.word true (bfN (val xs)) = FT) := hwt
    clear hwt
    generalize winN (val xs) = WN at *
    generalize belN (val xs) = n at *
    generalize f0N (val xs) = f0 at *
    generalize bfN (val xs) = F at *
    by_cases hinf : F = 9218868437227405312
    · have hd : decide (F = 9218868437227405312) = true := decide_eq_true hinf
      simp only [hd] at HI
      have HF : Hid (F = 9218868437227405312) := hinf
      clear hinf hd hle
      go_enter Tryd.func27, Tryd.ntmps27
      go_wp2_with fail
      refine hok.mono ?_
      rintro e w1 ⟨rfl, b1⟩
      have V1 := hW.trans (b1.mono hW.size)
      have E1 := E0.below b1
      obtain ⟨-, k0, k1⟩ := id (bA.keep b1)
      have rx1 := rx.keep b1
      clear hok b1 bA rx hW E0
      go_wp2_with fail
      refine (HT _ rx1).mono ?_
      rintro e w2 ⟨rfl, b2⟩
      have V2 := V1.trans (b2.mono V1.size)
      obtain ⟨⟨g1, g2, g3⟩, -⟩ := E1.below b2
      clear HT rx1 E1 V1
      go_wp2_with fail
      refine (HL _).mono ?_
      rintro e w3 ⟨rfl, hw3⟩
      rw [hw3]
      clear hw3 w3 HL
      go_wp2_with fail
      refine (HI _).mono ?_
      rintro e w3 ⟨rfl, hw3⟩
      rw [hw3]
      clear hw3 w3 HI
      go_wp2_with fail
      go_quiet (fail)
      go_wp2
      all_goals exact bodyPost_ret (v := .tuple #[.float .f64 0, errAt aL]) (by simp [results, Tryd.results27, go_sem]) rfl ⟨0, _, rfl, by first | exact V2 | exact V2.drew | exact below_dn2 V2 _, HPH.out _ _ (.inl ⟨HF.out, rfl, rfl⟩)⟩
    · have hd : decide (F = 9218868437227405312) = false := decide_eq_false hinf
      simp only [hd] at HI
      have HF : Hid (¬ F = 9218868437227405312) := hinf
      clear hinf hd hle
      cases p
      · go_enter Tryd.func27, Tryd.ntmps27
        go_wp2_with fail
        refine hok.mono ?_
        rintro e w1 ⟨rfl, b1⟩
        have V1 := hW.trans (b1.mono hW.size)
        have bA1 := bA.keep b1
        obtain ⟨-, k0, k1⟩ := id bA1
        have rx1 := rx.keep b1
        clear hok b1 bA rx hW E0
        go_wp2_with fail
        refine (HT _ rx1).mono ?_
        rintro e w2 ⟨rfl, b2⟩
        have V2 := V1.trans (b2.mono V1.size)
        obtain ⟨-, k2, k3⟩ := id (bA1.keep b2)
        clear HT rx1 V1 bA1 k0 k1
        go_wp2_with fail
        refine (HL _).mono ?_
        rintro e w3 ⟨rfl, hw3⟩
        rw [hw3]
        clear hw3 w3 HL
        go_wp2_with fail
        refine (HI _).mono ?_
        rintro e w3 ⟨rfl, hw3⟩
        rw [hw3]
        clear hw3 w3 HI
        go_wp2
        exact bodyPost_ret (v := .tuple #[.float .f64 F, .nilIface]) (by simp [results, Tryd.results27, go_sem]) rfl ⟨F, _, rfl, V2, HPH.out _ _ (.inr ⟨HF.out, (word_false F).symm, rfl⟩)⟩
      · go_enter Tryd.func27, Tryd.ntmps27
        go_wp2_with fail
        refine hok.mono ?_
        rintro e w1 ⟨rfl, b1⟩
        have V1 := hW.trans (b1.mono hW.size)
        have bA1 := bA.keep b1
        obtain ⟨-, k0, k1⟩ := id bA1
        have rx1 := rx.keep b1
        clear hok b1 bA rx hW E0
        go_wp2_with fail
        refine (HT _ rx1).mono ?_
        rintro e w2 ⟨rfl, b2⟩
        have V2 := V1.trans (b2.mono V1.size)
        obtain ⟨-, k2, k3⟩ := id (bA1.keep b2)
        clear HT rx1 V1 bA1 k0 k1
        go_wp2_with fail
        refine (HL _).mono ?_
        rintro e w3 ⟨rfl, hw3⟩
        rw [hw3]
        clear hw3 w3 HL
        go_wp2_with fail
        refine (HI _).mono ?_
        rintro e w3 ⟨rfl, hw3⟩
        rw [hw3]
        clear hw3 w3 HI
        go_wp2
        exact bodyPost_ret (v := .tuple #[.float .f64 FT, .nilIface]) (by simp [results, Tryd.results27, go_sem]) rfl ⟨FT, _, rfl, V2, HPH.out _ _ (.inr ⟨HF.out, HWT.out.symm, rfl⟩)⟩
theorem okB_zero {p : Bool} {xs : List Int} (h : okB p xs = true) (hz : Limbs xs) (h0 : val xs = 0) : p = false := by
  have hn := okB_norm h
  have e := lim_val hz hn.1
  rw [h0, lim_zero] at e
  subst e
  cases p
  · rfl
  · exact absurd h (by decide)
theorem nf_spec {aA aZ aL : Addr} {p : Bool} {xs : List Int} {r : Nat} {v : Value} (hz : Limbs xs) (h : NfP aA aL p xs r v) : fbN r = ofBX p xs ∧ IsErr aA aZ aL v (ofBC p xs) := by
  rcases h with ⟨h1, rfl, rfl⟩ | ⟨h1, h2, rfl, rfl⟩ | ⟨h1, h2, rfl, rfl⟩
  · unfold ofBX ofBC
    rw [h1, if_neg (by decide), if_neg (by decide)]
    exact ⟨by decide, .inr (.inl ⟨rfl, rfl⟩)⟩
  · have e := bf_rnd p (val xs) (okB_zero h1 hz)
    have hi : isI (rndV p (val xs) 1) = true := by rw [isI_iff, e, h2]; exact (word_eq p _ (by decide)).2
    unfold ofBX ofBC
    rw [if_pos h1, if_pos h1, if_pos hi, if_pos hi]
    exact ⟨by decide, .inr (.inr (.inr (.inl ⟨rfl, rfl⟩)))⟩
  · have e := bf_rnd p (val xs) (okB_zero h1 hz)
    have hle := bf_le (val xs)
    have hi : isI (rndV p (val xs) 1) = false := by
      rw [e]; unfold isI; rw [(word_eq p _ (by omega)).2, decide_eq_false h2]
    unfold ofBX ofBC
    rw [if_pos h1, if_pos h1, hi, if_neg (by decide), if_neg (by decide), e]
    exact ⟨fbN_of (word_noN _ _ hle), .inl ⟨rfl, rfl⟩⟩
set_option maxRecDepth 100000 in
theorem floatOfBig_any (p : Bool) (v : Value) (xs : List Int) (aA aZ aL : Addr) (w : World) (hE : Errs w aA aZ aL) (hx : Rd w v xs) :
    Calls Tryd.prog 9 #[.agg #[.bool p, v]] w fun e w' => e = .returned (.tuple #[.int .u64 (ofBX p xs : Nat), .int .i64 (ofBC p xs)]) ∧ Below w.heap.size w w' := by
  have hz : Limbs xs := by obtain ⟨_, _, _, _, h, _⟩ := hx; exact h
  have hW := (Below.refl w.heap.size w).alloc (Nat.le_refl _) (Obj.cells #[.bool p, v] 29)
  have bA := Box.new w (.bool p) v 29
  have HN := nearest_any p v xs aA aZ aL (w.alloc (Obj.cells #[.bool p, v] 29)) (hE.below hW) (hx.alloc _)
  have E0 := hE.below hW
  have HC := fun (W : World) v c h h2 => codeOf_any aA aZ aL v c W h h2
  have HS : ∀ r u, NfP aA aL p xs r u → fbN r = ofBX p xs ∧ IsErr aA aZ aL u (ofBC p xs) := fun r u h => nf_spec hz h
  obtain ⟨a, cap, rfl, _⟩ := id hx
  clear hx hE hz
  generalize ofBX p xs = V at *
  generalize ofBC p xs = C at *
  go_enter Tryd.func9, Tryd.ntmps9
  go_wp2_with fail
  refine HN.mono ?_
  rintro e w1 ⟨r, u, rfl, b1, hP⟩
  obtain ⟨hfb, hI⟩ := HS r u hP
  have V1 := hW.trans (b1.mono hW.size)
  have E1 := E0.below b1
  have HB := fun W : World => floatBits_any r W
  rw [hfb] at HB
  clear HN hP HS hfb E0 hW b1 bA
  go_wp2_with fail
  refine (HB _).mono ?_
  rintro e w2 ⟨rfl, hw2⟩
  rw [hw2]
  clear hw2 w2 HB
  go_wp2_with fail
  refine (HC _ u C E1 hI).mono ?_
  rintro e w3 ⟨rfl, b3⟩
  clear HC hI
  go_wp2
  exact bodyPost_ret (v := .tuple #[.int .u64 (V : Nat), .int .i64 C]) (by simp [results, Tryd.results9, go_sem]) rfl ⟨rfl, V1.trans (b3.mono V1.size)⟩
end Go.Proofs.YtfcoffllelgakaaDoor
