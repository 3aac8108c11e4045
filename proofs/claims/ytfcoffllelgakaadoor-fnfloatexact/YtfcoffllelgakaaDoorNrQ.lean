import Derived.Test.YtfcoffllelgakaaDoorMgNP
import Derived.Test.YtfcoffllelgakaaDoorMgFO
import Derived.Test.YtfcoffllelgakaaDoorMgQR
import Derived.Test.YtfcoffllelgakaaDoorFBigM
namespace Go.Proofs.YtfcoffllelgakaaDoor
set_option linter.unusedVariables false
set_option linter.unusedSimpArgs false

theorem log2_le' {n k : Nat} (h : n < 2 ^ (k + 1)) : n.log2 ≤ k := by
  by_cases h0 : n = 0
  · subst h0; exact Nat.zero_le _
  · have h1 := Nat.log2_self_le h0
    rcases Nat.lt_or_ge k n.log2 with h2 | h2
    · exfalso
      have : (2 : Nat) ^ (k + 1) ≤ 2 ^ n.log2 := Nat.pow_le_pow_right (by decide) h2
      omega
    · exact h2
theorem word_parts (x : Nat) (h : x < 18446744073709551616) : Ieee.double.word (fneg x) (frung x) = x := by
  have e : Ieee.double.word (fneg x) (frung x) = if fneg x then 9223372036854775808 + frung x else frung x := rfl
  rw [e]
  unfold fneg frung
  by_cases h1 : x / 9223372036854775808 % 2 = 1
  · rw [if_pos (by rw [beq_iff_eq]; exact h1)]; omega
  · rw [if_neg (by rw [beq_iff_eq]; exact h1)]; omega
theorem word_noN (s : Bool) (r : Nat) (h : r ≤ 9218868437227405312) : isN (Ieee.double.word s r) = false := by
  have := (word_eq s r (by omega)).2
  unfold isN
  rw [this, decide_eq_false (by omega)]
theorem nearest_noN (s : Bool) (m : Nat) (p : Int) : isN (Ieee.double.nearest s m p) = false := by
  by_cases h : m = 0
  · unfold Ieee.Format.nearest
    rw [if_pos h]
    exact word_noN s 0 (by decide)
  · rw [nearest_eq s p (by omega)]
    exact word_noN _ _ (Nat.min_le_right _ _)
theorem fbN_of {r : Nat} (h : isN r = false) : fbN r = r := by unfold fbN; rw [h]; rfl
theorem isN_iff {x : Nat} : isN x = true ↔ 9218868437227405312 < frung x := decide_eq_true_iff
theorem isI_iff {x : Nat} : isI x = true ↔ frung x = 9218868437227405312 := decide_eq_true_iff
theorem word_inf (s : Bool) : Ieee.double.word s Ieee.double.infRung = setN s 9218868437227405312 := by
  rw [setN_word s _ (by decide)]; rfl
theorem inf_self {x : Nat} (h : isI x = true) (hx : x < 18446744073709551616) : Ieee.double.word (fneg x) Ieee.double.infRung = x := by
  have := word_parts x hx
  rw [isI_iff.1 h] at this
  exact this
theorem setInf_noN (s : Bool) : isN (setN s 9218868437227405312) = false := by
  rw [setN_word s _ (by decide)]; exact word_noN s _ (Nat.le_refl _)
/-- The sum in units. -/
def sumI (a b : Nat) : Int := sgn (fneg a) (fu a) + sgn (fneg b) (fu b)
/-- What l2Sum answers. -/
def sumV (a b : Nat) : Nat := if (isN a || isN b || (isI a && isI b && (a != b))) = true then 9221120237041090560 else if isI a = true then a else if isI b = true then b else if sumI a b = 0 then setN (fneg a && fneg b) 0 else rndV (decide (sumI a b < 0)) (sumI a b).natAbs lowP
theorem sgn_pow (s : Bool) (m k l : Nat) : sgn s (m * 2 ^ (k + l)) = sgn s (m * 2 ^ k) * ((2 ^ l : Nat) : Int) := by
  rw [Nat.pow_add, ← Nat.mul_assoc, sgn_scale s (m * 2 ^ k)]
theorem sum_units (a b : Nat) : sumI a b = (Ieee.signed (fneg a) (fmag a) (fpl a - min (fpl a) (fpl b)).toNat + Ieee.signed (fneg b) (fmag b) (fpl b - min (fpl a) (fpl b)).toNat) * ((2 ^ (min (fpl a) (fpl b) + 1074).toNat : Nat) : Int) := by
  have hi := fpl_ge a; have hj := fpl_ge b
  unfold sumI
  rw [signed_eq, signed_eq, fu_eq, fu_eq, Int.add_mul, ← sgn_pow, ← sgn_pow]
  have e1 : (fpl a - min (fpl a) (fpl b)).toNat + (min (fpl a) (fpl b) + 1074).toNat = (fpl a + 1074).toNat := by omega
  have e2 : (fpl b - min (fpl a) (fpl b)).toNat + (min (fpl a) (fpl b) + 1074).toNat = (fpl b + 1074).toNat := by omega
  rw [e1, e2]
theorem write_num (s : Bool) (m : Nat) (p : Int) : Ieee.double.write (.number s m p) = Ieee.double.nearest s m p := rfl
theorem low_pow (p : Int) (h : -1074 ≤ p) : 2 ^ (p + 1074).toNat * 2 ^ (-p).toNat = lowP * 2 ^ p.toNat := by
  unfold lowP
  rw [← Nat.pow_add, ← Nat.pow_add]
  have e3 : (p + 1074).toNat + (-p).toNat = lowE + p.toNat := by
    show _ = 1074 + _
    omega
  rw [e3]
theorem near_zero (s : Bool) (p : Int) : Ieee.double.nearest s 0 p = setN s 0 := by
  unfold Ieee.Format.nearest
  rw [if_pos rfl]
  exact (setN_word s 0 (by decide)).symm
theorem sum_num (a b : Nat) (ha : frung a < 9218868437227405312) (hb : frung b < 9218868437227405312) :
    Ieee.double.add a b = some (if sumI a b = 0 then setN (fneg a && fneg b) 0 else rndV (decide (sumI a b < 0)) (sumI a b).natAbs lowP) := by
  have hU := sum_units a b
  have hi := fpl_ge a; have hj := fpl_ge b
  have hb1 : -1074 ≤ min (fpl a) (fpl b) := by omega
  unfold Ieee.Format.add
  rw [read_num a ha, read_num b hb]
  show some (Ieee.double.write (.number (if Ieee.signed (fneg a) (fmag a) (fpl a - min (fpl a) (fpl b)).toNat + Ieee.signed (fneg b) (fmag b) (fpl b - min (fpl a) (fpl b)).toNat = 0 then fneg a && fneg b else decide (Ieee.signed (fneg a) (fmag a) (fpl a - min (fpl a) (fpl b)).toNat + Ieee.signed (fneg b) (fmag b) (fpl b - min (fpl a) (fpl b)).toNat < 0)) (Ieee.signed (fneg a) (fmag a) (fpl a - min (fpl a) (fpl b)).toNat + Ieee.signed (fneg b) (fmag b) (fpl b - min (fpl a) (fpl b)).toNat).natAbs (min (fpl a) (fpl b)))) = _
  generalize Ieee.signed (fneg a) (fmag a) (fpl a - min (fpl a) (fpl b)).toNat + Ieee.signed (fneg b) (fmag b) (fpl b - min (fpl a) (fpl b)).toNat = T at hU ⊢
  generalize min (fpl a) (fpl b) = p at hU hb1 ⊢
  have hp := Nat.two_pow_pos (p + 1074).toNat
  generalize hP : 2 ^ (p + 1074).toNat = P at hU hp
  have hPi : (0 : Int) < (P : Int) := by omega
  congr 1
  rw [write_num]
  by_cases h0 : T = 0
  · have : sumI a b = 0 := by rw [hU, h0, Int.zero_mul]
    rw [if_pos h0, if_pos this, h0]
    exact near_zero _ _
  · have hne : ¬ sumI a b = 0 := by
      rw [hU]
      intro h
      rcases Int.mul_eq_zero.1 h with h1 | h1 <;> omega
    rw [if_neg h0, if_neg hne]
    have hs : decide (T < 0) = decide (sumI a b < 0) := decide_eq_decide.2 (by
      rw [hU]
      constructor
      · intro h; have := Int.mul_lt_mul_of_pos_right h hPi; rw [Int.zero_mul] at this; exact this
      · intro h
        rcases Int.lt_or_le T 0 with h1 | h1
        · exact h1
        · have := Int.mul_nonneg h1 (Int.le_of_lt hPi); omega)
    rw [hs]
    refine near_of _ p lowP_pos ?_
    rw [hU, Int.natAbs_mul, Int.natAbs_natCast, Nat.mul_assoc, ← hP, low_pow p hb1, Nat.mul_assoc]
theorem sum_eq (a b : Nat) (ha : a < 18446744073709551616) (hb : b < 18446744073709551616) : fbV (Ieee.double.add a b) = sumV a b := by
  unfold sumV
  cases hna : isN a
  · cases hnb : isN b
    · cases hia : isI a
      · have hra := isN_lt hna hia
        cases hib : isI b
        · have hrb := isN_lt hnb hib
          rw [if_neg (by simp), if_neg (by decide), if_neg (by decide), sum_num a b hra hrb]
          show fbN _ = _
          refine fbN_of ?_
          split
          · rw [setN_word _ _ (by decide)]; exact word_noN _ _ (by decide)
          · rename_i h
            rw [rndV_word _ (by omega) lowP_pos]
            exact word_noN _ _ (Nat.min_le_right _ _)
        · rw [if_neg (by simp), if_neg (by decide), if_pos rfl]
          unfold Ieee.Format.add
          rw [read_num a hra, read_inf b (isI_iff.1 hib)]
          show fbN (Ieee.double.word (fneg b) Ieee.double.infRung) = b
          rw [inf_self hib hb]; exact fbN_of hnb
      · cases hib : isI b
        · have hrb := isN_lt hnb hib
          rw [if_neg (by simp), if_pos rfl]
          unfold Ieee.Format.add
          rw [read_inf a (isI_iff.1 hia), read_num b hrb]
          show fbN (Ieee.double.word (fneg a) Ieee.double.infRung) = a
          rw [inf_self hia ha]; exact fbN_of hna
        · unfold Ieee.Format.add
          rw [read_inf a (isI_iff.1 hia), read_inf b (isI_iff.1 hib)]
          have ea := inf_self hia ha
          have eb := inf_self hib hb
          by_cases hs : fneg a = fneg b
          · have hab : a = b := by rw [← ea, ← eb, hs]
            subst hab
            rw [if_neg (by simp), if_pos rfl]
            show fbV (Option.map _ (if fneg a = fneg a then some (Ieee.Datum.infinity (fneg a)) else none)) = a
            rw [if_pos rfl]
            show fbN (Ieee.double.word (fneg a) Ieee.double.infRung) = a
            rw [ea]; exact fbN_of hna
          · have hab : (a != b) = true := by rw [bne_iff_ne]; intro e; exact hs (by rw [e])
            rw [hab, if_pos (by rfl)]
            show fbV (Option.map _ (if fneg a = fneg b then some (Ieee.Datum.infinity (fneg a)) else none)) = _
            rw [if_neg hs]; rfl
    · rw [if_pos (by simp)]
      unfold Ieee.Format.add
      rw [read_nan b (isN_iff.1 hnb)]
      cases Ieee.double.read a <;> rfl
  · rw [if_pos (by simp)]
    unfold Ieee.Format.add
    rw [read_nan a (isN_iff.1 hna)]
    rfl
/-- A float with its sign turned. -/
def flipN (b : Nat) : Nat := if fneg b = true then b - 9223372036854775808 else b + 9223372036854775808
theorem flip_facts (b : Nat) (h : b < 18446744073709551616) : flipN b < 18446744073709551616 ∧ frung (flipN b) = frung b ∧ fneg (flipN b) = !(fneg b) := by
  unfold flipN fneg frung
  by_cases h1 : b / 9223372036854775808 % 2 = 1
  · have e : (b / 9223372036854775808 % 2 == 1) = true := by rw [beq_iff_eq]; exact h1
    rw [if_pos e, e]
    refine ⟨by omega, by omega, ?_⟩
    rw [show (b - 9223372036854775808) / 9223372036854775808 % 2 = 0 by omega]; rfl
  · have e : (b / 9223372036854775808 % 2 == 1) = false := by rw [beq_eq_false_iff_ne]; exact h1
    rw [e, if_neg (by decide)]
    refine ⟨by omega, by omega, ?_⟩
    rw [show (b + 9223372036854775808) / 9223372036854775808 % 2 = 1 by omega]; rfl
theorem flip_read (b : Nat) (h : b < 18446744073709551616) : Ieee.double.read (flipN b) = (Ieee.double.read b).opposite := by
  obtain ⟨_, h1, h2⟩ := flip_facts b h
  rw [read_eq, read_eq, h1, h2]
  split
  · rfl
  · split
    · rfl
    · split <;> rfl
theorem sub_flip (a b : Nat) (h : b < 18446744073709551616) : Ieee.double.sub a b = Ieee.double.add a (flipN b) := by
  unfold Ieee.Format.sub Ieee.Format.add
  rw [flip_read b h]
theorem sub_eq (a b : Nat) (ha : a < 18446744073709551616) (hb : b < 18446744073709551616) : fbV (Ieee.double.sub a b) = if isN b = true then 9221120237041090560 else sumV a (flipN b) := by
  obtain ⟨h0, h1, h2⟩ := flip_facts b hb
  rw [sub_flip a b hb, sum_eq a (flipN b) ha h0]
  split
  · rename_i h
    unfold sumV
    have : isN (flipN b) = true := by rw [isN_iff, h1]; exact isN_iff.1 h
    rw [this, if_pos (by simp)]
  · rfl
/-- What l2Times answers. -/
def timesV (a b : Nat) : Nat := if (isN a || isN b || (isI a && decide (frung b = 0)) || (decide (frung a = 0) && isI b)) = true then 9221120237041090560 else if (isI a || isI b) = true then setN (fneg a != fneg b) 9218868437227405312 else rndV (fneg a != fneg b) (fu a * fu b) (lowP * lowP)
theorem fmag_zero (x : Nat) : fmag x = 0 ↔ frung x = 0 := by
  have := f_rung x
  have hf : ffrac x < 4503599627370496 := Nat.mod_lt _ (by decide)
  unfold fmag
  split <;> omega
theorem xor_ne (s t : Bool) : (s ^^ t) = (s != t) := by cases s <;> cases t <;> rfl
theorem times_num (a b : Nat) (ha : frung a < 9218868437227405312) (hb : frung b < 9218868437227405312) :
    Ieee.double.mul a b = some (rndV (fneg a != fneg b) (fu a * fu b) (lowP * lowP)) := by
  have hi := fpl_ge a; have hj := fpl_ge b
  unfold Ieee.Format.mul
  rw [read_num a ha, read_num b hb]
  show some (Ieee.double.nearest (fneg a ^^ fneg b) (fmag a * fmag b) (fpl a + fpl b)) = _
  congr 1
  rw [xor_ne]
  refine near_of _ _ (Nat.mul_pos lowP_pos lowP_pos) ?_
  rw [fu_eq, fu_eq]
  have e1 : fmag a * 2 ^ (fpl a + 1074).toNat * (fmag b * 2 ^ (fpl b + 1074).toNat) * 2 ^ (-(fpl a + fpl b)).toNat = fmag a * fmag b * 2 ^ ((fpl a + 1074).toNat + (fpl b + 1074).toNat + (-(fpl a + fpl b)).toNat) := by
    rw [Nat.pow_add 2 _ (-(fpl a + fpl b)).toNat, Nat.pow_add 2 (fpl a + 1074).toNat]; ac_rfl
  have e2 : fmag a * fmag b * (lowP * lowP) * 2 ^ (fpl a + fpl b).toNat = fmag a * fmag b * 2 ^ (lowE + lowE + (fpl a + fpl b).toNat) := by
    unfold lowP
    generalize lowE = E
    rw [Nat.pow_add 2 _ (fpl a + fpl b).toNat, Nat.pow_add 2 E]; ac_rfl
  rw [e1, e2]
  have e3 : (fpl a + 1074).toNat + (fpl b + 1074).toNat + (-(fpl a + fpl b)).toNat = lowE + lowE + (fpl a + fpl b).toNat := by
    show _ = 1074 + 1074 + _
    omega
  rw [e3]
theorem times_eq (a b : Nat) (ha : a < 18446744073709551616) (hb : b < 18446744073709551616) : fbV (Ieee.double.mul a b) = timesV a b := by
  unfold timesV
  cases hna : isN a
  · cases hnb : isN b
    · cases hia : isI a
      · have hra := isN_lt hna hia
        cases hib : isI b
        · have hrb := isN_lt hnb hib
          rw [if_neg (by simp), if_neg (by decide), times_num a b hra hrb]
          show fbN _ = _
          refine fbN_of ?_
          rcases Nat.eq_zero_or_pos (fu a * fu b) with h | h
          · unfold rndV; rw [if_pos h, setN_word _ _ (by decide)]; exact word_noN _ _ (by decide)
          · rw [rndV_word _ h (Nat.mul_pos lowP_pos lowP_pos)]
            exact word_noN _ _ (Nat.min_le_right _ _)
        · unfold Ieee.Format.mul
          rw [read_num a hra, read_inf b (isI_iff.1 hib)]
          show fbV (Option.map _ (if fmag a = 0 then none else some (Ieee.Datum.infinity (fneg b ^^ fneg a)))) = _
          by_cases h0 : frung a = 0
          · rw [if_pos ((fmag_zero a).2 h0), if_pos (by simp [h0])]; rfl
          · rw [if_neg (fun h => h0 ((fmag_zero a).1 h)), if_neg (by simp [h0]), if_pos (by simp)]
            show fbN (Ieee.double.word (fneg b ^^ fneg a) Ieee.double.infRung) = _
            rw [word_inf, Bool.xor_comm, xor_ne]
            exact fbN_of (setInf_noN _)
      · cases hib : isI b
        · have hrb := isN_lt hnb hib
          unfold Ieee.Format.mul
          rw [read_inf a (isI_iff.1 hia), read_num b hrb]
          show fbV (Option.map _ (if fmag b = 0 then none else some (Ieee.Datum.infinity (fneg a ^^ fneg b)))) = _
          by_cases h0 : frung b = 0
          · rw [if_pos ((fmag_zero b).2 h0), if_pos (by simp [h0])]; rfl
          · rw [if_neg (fun h => h0 ((fmag_zero b).1 h)), if_neg (by simp [h0]), if_pos (by simp)]
            show fbN (Ieee.double.word (fneg a ^^ fneg b) Ieee.double.infRung) = _
            rw [word_inf, xor_ne]
            exact fbN_of (setInf_noN _)
        · unfold Ieee.Format.mul
          have h1 := isI_iff.1 hia
          have h2 := isI_iff.1 hib
          rw [read_inf a h1, read_inf b h2]
          rw [if_neg (by simp [h1, h2]), if_pos (by simp)]
          show fbN (Ieee.double.word (fneg a ^^ fneg b) Ieee.double.infRung) = _
          rw [word_inf, xor_ne]
          exact fbN_of (setInf_noN _)
    · rw [if_pos (by simp)]
      unfold Ieee.Format.mul
      rw [read_nan b (isN_iff.1 hnb)]
      cases Ieee.double.read a <;> rfl
  · rw [if_pos (by simp)]
    unfold Ieee.Format.mul
    rw [read_nan a (isN_iff.1 hna)]
    rfl
theorem over_num (a b : Nat) (ha : frung a < 9218868437227405312) (hb : frung b < 9218868437227405312) (hz : ¬ frung b = 0) :
    Ieee.double.div a b = some (rndV (fneg a != fneg b) (fu a) (fu b)) := by
  have hi := fpl_ge a; have hj := fpl_ge b
  have hnz : ¬ fmag b = 0 := fun h => hz ((fmag_zero b).1 h)
  have fbp := fu_pos hz
  unfold Ieee.Format.div
  rw [read_num a ha, read_num b hb]
  show Option.map _ (if fmag b = 0 then (if fmag a = 0 then none else some (Ieee.Datum.infinity (fneg a ^^ fneg b))) else _) = _
  rw [if_neg hnz]
  show some (Ieee.double.nearest (fneg a ^^ fneg b) (2 * (fmag a <<< (54 + (fmag b).log2 - (fmag a).log2) / fmag b) + (fmag a <<< (54 + (fmag b).log2 - (fmag a).log2) % fmag b != 0).toNat) (fpl a - fpl b - ((54 + (fmag b).log2 - (fmag a).log2 : Nat) : Int) - 1)) = _
  congr 1
  rw [xor_ne]
  by_cases h0 : frung a = 0
  · have e0 : fmag a = 0 := (fmag_zero a).2 h0
    have e1 : fu a = 0 := by rw [fu_eq, e0, Nat.zero_mul]
    rw [e0, Nat.zero_shiftLeft, Nat.zero_div, Nat.zero_mod, e1]
    show Ieee.double.nearest _ 0 _ = _
    rw [near_zero]
    rfl
  · have hma : 0 < fmag a := by have := (fmag_zero a).1; omega
    have fap := fu_pos h0
    have hlb := Nat.lt_log2_self (n := fmag b)
    have hla := Nat.log2_self_le (n := fmag a) (by omega)
    generalize hk : 54 + (fmag b).log2 - (fmag a).log2 = k
    refine near_sticky _ _ (by omega) fbp fap ?_ ?_
    · rw [Nat.le_div_iff_mul_le (by omega), Nat.shiftLeft_eq]
      have hfa := fmag_lt a
      have hl53 : (fmag a).log2 ≤ 52 := log2_le' (by rw [two53]; exact hfa)
      have h1 : 9007199254740992 * fmag b ≤ 9007199254740992 * 2 ^ ((fmag b).log2 + 1) := Nat.mul_le_mul_left _ (Nat.le_of_lt hlb)
      have h2 : 2 ^ (fmag a).log2 * 2 ^ k ≤ fmag a * 2 ^ k := Nat.mul_le_mul_right _ hla
      have h3 : 9007199254740992 * 2 ^ ((fmag b).log2 + 1) = 2 ^ (fmag a).log2 * 2 ^ k := by
        rw [← two53, ← Nat.pow_add, ← Nat.pow_add]
        congr 1
        omega
      omega
    · rw [Nat.shiftLeft_eq, fu_eq, fu_eq]
      have hfa := fmag_lt a
      generalize fmag a = m
      generalize fmag b = n
      generalize hp : fpl a - fpl b - (k : Int) = p
      have e1 : m * 2 ^ (fpl a + 1074).toNat * n * 2 ^ (-p).toNat = m * n * 2 ^ ((fpl a + 1074).toNat + (-p).toNat) := by
        rw [Nat.pow_add]; ac_rfl
      have e2 : m * 2 ^ k * (n * 2 ^ (fpl b + 1074).toNat) * 2 ^ p.toNat = m * n * 2 ^ (k + (fpl b + 1074).toNat + p.toNat) := by
        rw [Nat.pow_add 2 _ p.toNat, Nat.pow_add 2 k]; ac_rfl
      rw [e1, e2]
      congr 2
      omega
theorem over_eq (a b : Nat) (ha : a < 18446744073709551616) (hb : b < 18446744073709551616) (hz : ¬ frung b = 0) : fbV (Ieee.double.div a b) = overV a b := by
  unfold overV
  cases hna : isN a
  · cases hnb : isN b
    · cases hia : isI a
      · have hra := isN_lt hna hia
        cases hib : isI b
        · have hrb := isN_lt hnb hib
          rw [if_neg (by simp), if_neg (by decide), if_neg (by decide), over_num a b hra hrb hz]
          show fbN _ = _
          refine fbN_of ?_
          rcases Nat.eq_zero_or_pos (fu a) with h | h
          · unfold rndV; rw [if_pos h, setN_word _ _ (by decide)]; exact word_noN _ _ (by decide)
          · rw [rndV_word _ h (fu_pos hz)]
            exact word_noN _ _ (Nat.min_le_right _ _)
        · unfold Ieee.Format.div
          rw [read_num a hra, read_inf b (isI_iff.1 hib)]
          rw [if_neg (by simp), if_neg (by decide), if_pos rfl]
          show fbN (Ieee.double.nearest (fneg a ^^ fneg b) 0 0) = _
          rw [near_zero, xor_ne]
          refine fbN_of ?_
          rw [setN_word _ _ (by decide)]; exact word_noN _ _ (by decide)
      · cases hib : isI b
        · have hrb := isN_lt hnb hib
          unfold Ieee.Format.div
          rw [read_inf a (isI_iff.1 hia), read_num b hrb]
          rw [if_neg (by simp), if_pos rfl]
          show fbN (Ieee.double.word (fneg a ^^ fneg b) Ieee.double.infRung) = _
          rw [word_inf, xor_ne]
          exact fbN_of (setInf_noN _)
        · unfold Ieee.Format.div
          rw [read_inf a (isI_iff.1 hia), read_inf b (isI_iff.1 hib)]
          rw [if_pos (by simp)]
          rfl
    · rw [if_pos (by simp)]
      unfold Ieee.Format.div
      rw [read_nan b (isN_iff.1 hnb)]
      cases Ieee.double.read a <;> rfl
  · rw [if_pos (by simp)]
    unfold Ieee.Format.div
    rw [read_nan a (isN_iff.1 hna)]
    rfl
end Go.Proofs.YtfcoffllelgakaaDoor
