import Ieee.Arith
import Derived.Test.YtfcoffllelgakaaDoorCmpR
import Derived.Laws.BitsAllLaws
namespace Go.Proofs.YtfcoffllelgakaaDoor
open Go.RowKit
set_option linter.unusedVariables false
set_option linter.unusedSimpArgs false

def fneg (x : Nat) : Bool := x / 9223372036854775808 % 2 == 1
def fexp (x : Nat) : Nat := x / 4503599627370496 % 2048
def ffrac (x : Nat) : Nat := x % 4503599627370496
/-- a finite float's size times 2 to the 1074 -/
def fu (x : Nat) : Nat := if fexp x = 0 then ffrac x else (ffrac x + 4503599627370496) * 2 ^ (fexp x - 1)
def fmag (x : Nat) : Nat := if fexp x = 0 then ffrac x else 4503599627370496 + ffrac x
def fpl (x : Nat) : Int := if fexp x = 0 then -1074 else -1074 + ((fexp x - 1 : Nat) : Int)
def frung (x : Nat) : Nat := x % 9223372036854775808
def sgn (b : Bool) (n : Nat) : Int := if b then -(n : Int) else n

theorem f_rung (x : Nat) : frung x = fexp x * 4503599627370496 + ffrac x := by
  unfold frung fexp ffrac; omega

theorem read_eq (x : Nat) : Ieee.double.read x = if frung x < 4503599627370496 then .number (fneg x) (frung x) (-1074) else if frung x < 9218868437227405312 then .number (fneg x) (4503599627370496 + frung x % 4503599627370496) (-1074 + (frung x / 4503599627370496 - 1 : Nat)) else if frung x = 9218868437227405312 then .infinity (fneg x) else .nan (fneg x) (frung x - 9218868437227405312) := by
  rfl

theorem read_num (x : Nat) (h : frung x < 9218868437227405312) : Ieee.double.read x = .number (fneg x) (fmag x) (fpl x) := by
  rw [read_eq]
  have e := f_rung x
  have hf : ffrac x < 4503599627370496 := Nat.mod_lt _ (by decide)
  by_cases h0 : fexp x = 0
  · rw [if_pos (by omega)]
    unfold fmag fpl
    rw [if_pos h0, if_pos h0]
    congr 1
    omega
  · rw [if_neg (by omega), if_pos h]
    unfold fmag fpl
    rw [if_neg h0, if_neg h0]
    have e1 : frung x % 4503599627370496 = ffrac x := by omega
    have e2 : frung x / 4503599627370496 = fexp x := by omega
    rw [e1, e2]

theorem read_inf (x : Nat) (h : frung x = 9218868437227405312) : Ieee.double.read x = .infinity (fneg x) := by
  rw [read_eq, if_neg (by omega), if_neg (by omega), if_pos h]
theorem read_nan (x : Nat) (h : 9218868437227405312 < frung x) : Ieee.double.read x = .nan (fneg x) (frung x - 9218868437227405312) := by
  rw [read_eq, if_neg (by omega), if_neg (by omega), if_neg (by omega)]

theorem fu_eq (x : Nat) : fu x = fmag x * 2 ^ (fpl x + 1074).toNat := by
  unfold fu fmag fpl
  split
  · simp
  · have : (-1074 + ((fexp x - 1 : Nat) : Int) + 1074).toNat = fexp x - 1 := by omega
    rw [this, Nat.add_comm]
theorem fpl_ge (x : Nat) : -1074 ≤ fpl x := by unfold fpl; split <;> omega

theorem signed_eq (s : Bool) (m k : Nat) : Ieee.signed s m k = sgn s (m * 2 ^ k) := by
  unfold Ieee.signed sgn; rw [Nat.shiftLeft_eq]

theorem sgn_scale (s : Bool) (m k : Nat) : sgn s (m * k) = sgn s m * (k : Int) := by
  unfold sgn; cases s <;> simp [Int.neg_mul]

theorem cmp_scale (a b : Int) (k : Nat) (hk : 0 < k) : compare (a * k) (b * k) = compare a b := by
  have hk' : (0 : Int) < k := by omega
  rcases Int.lt_trichotomy a b with h | h | h
  · rw [Int.compare_eq_lt.2 h, Int.compare_eq_lt.2 (Int.mul_lt_mul_of_pos_right h hk')]
  · subst h; simp
  · rw [Int.compare_eq_gt.2 h, Int.compare_eq_gt.2 (Int.mul_lt_mul_of_pos_right h hk')]

theorem order_fin (x y : Nat) (hx : frung x < 9218868437227405312) (hy : frung y < 9218868437227405312) :
    Ieee.double.order x y = some (compare (sgn (fneg x) (fu x)) (sgn (fneg y) (fu y))) := by
  unfold Ieee.Format.order
  rw [read_num x hx, read_num y hy]
  show some (compare _ _) = _
  rw [signed_eq, signed_eq]
  have hi := fpl_ge x; have hj := fpl_ge y
  have hb : -1074 ≤ min (fpl x) (fpl y) := by omega
  rw [← cmp_scale (sgn (fneg x) (fmag x * 2 ^ (fpl x - min (fpl x) (fpl y)).toNat)) _ (2 ^ (min (fpl x) (fpl y) + 1074).toNat) (Nat.two_pow_pos _), ← sgn_scale, ← sgn_scale, Nat.mul_assoc, Nat.mul_assoc, ← Nat.pow_add, ← Nat.pow_add, fu_eq, fu_eq]
  have e1 : (fpl x - min (fpl x) (fpl y)).toNat + (min (fpl x) (fpl y) + 1074).toNat = (fpl x + 1074).toNat := by omega
  have e2 : (fpl y - min (fpl x) (fpl y)).toNat + (min (fpl x) (fpl y) + 1074).toNat = (fpl y + 1074).toNat := by omega
  rw [e1, e2]

theorem order_inf_inf (x y : Nat) (hx : frung x = 9218868437227405312) (hy : frung y = 9218868437227405312) : Ieee.double.order x y = some (compare (fneg y).toNat (fneg x).toNat) := by
  unfold Ieee.Format.order; rw [read_inf x hx, read_inf y hy]; rfl
theorem order_inf_num (x y : Nat) (hx : frung x = 9218868437227405312) (hy : frung y < 9218868437227405312) : Ieee.double.order x y = some (if fneg x then .lt else .gt) := by
  unfold Ieee.Format.order; rw [read_inf x hx, read_num y hy]; rfl
theorem order_num_inf (x y : Nat) (hx : frung x < 9218868437227405312) (hy : frung y = 9218868437227405312) : Ieee.double.order x y = some (if fneg y then .gt else .lt) := by
  unfold Ieee.Format.order; rw [read_num x hx, read_inf y hy]; rfl
theorem order_nan_left (x y : Nat) (hx : 9218868437227405312 < frung x) : Ieee.double.order x y = none := by
  unfold Ieee.Format.order; rw [read_nan x hx]; rfl
theorem order_nan_right (x y : Nat) (hy : 9218868437227405312 < frung y) : Ieee.double.order x y = none := by
  unfold Ieee.Format.order; rw [read_nan y hy]; cases Ieee.double.read x <;> rfl

/-- What FloatCmp answers of two words. -/
def ordI (o : Option Ordering) : Int := match o with
  | none => 2
  | some .lt => -1
  | some .eq => 0
  | some .gt => 1
def isN (x : Nat) : Bool := decide (9218868437227405312 < frung x)
def isI (x : Nat) : Bool := decide (frung x = 9218868437227405312)

theorem order_self (x : Nat) : Ieee.double.order x x = if isN x then none else some .eq := by
  unfold isN
  by_cases h : 9218868437227405312 < frung x
  · rw [order_nan_left x x h]; simp [h]
  · by_cases h2 : frung x = 9218868437227405312
    · rw [order_inf_inf x x h2 h2]; simp [h2]
    · rw [order_fin x x (by omega) (by omega)]; simp [h]
theorem order_some (x y : Nat) (hx : isN x = false) (hy : isN y = false) : ∃ o, Ieee.double.order x y = some o := by
  have hx' := of_decide_eq_false hx
  have hy' := of_decide_eq_false hy
  by_cases h2 : frung x = 9218868437227405312
  · by_cases h3 : frung y = 9218868437227405312
    · exact ⟨_, order_inf_inf x y h2 h3⟩
    · exact ⟨_, order_inf_num x y h2 (by omega)⟩
  · by_cases h3 : frung y = 9218868437227405312
    · exact ⟨_, order_num_inf x y (by omega) h3⟩
    · exact ⟨_, order_fin x y (by omega) (by omega)⟩

theorem order_cmpR (s t : Bool) (m n : Nat) : cmpR (nz s m) m (nz t n) n = ordI (some (compare (sgn s m) (sgn t n))) := by
  have key : ∀ a b : Int, ordI (some (compare a b)) = if a < b then -1 else if b < a then 1 else 0 := by
    intro a b
    rcases Int.lt_trichotomy a b with h | h | h
    · rw [Int.compare_eq_lt.2 h, if_pos h]; rfl
    · subst h; simp [ordI]
    · rw [Int.compare_eq_gt.2 h, if_neg (by omega), if_pos h]; rfl
  rw [key]
  unfold cmpR nz sgn cmpN
  by_cases hm : m = 0 <;> by_cases hn : n = 0 <;> cases s <;> cases t <;> simp [hm, hn] <;> (try omega) <;> (repeat' split) <;> omega

theorem fu_lt (x K : Nat) (h : fexp x - 1 ≤ K) : fu x < 9007199254740992 * 2 ^ K := by
  have hf : ffrac x < 4503599627370496 := Nat.mod_lt _ (by decide)
  have h1 : (2 : Nat) ^ (fexp x - 1) ≤ 2 ^ K := Nat.pow_le_pow_right (by decide) h
  have h3 : 0 < (2 : Nat) ^ K := Nat.two_pow_pos K
  unfold fu
  generalize (2 : Nat) ^ K = A at h1 h3 ⊢
  generalize (2 : Nat) ^ (fexp x - 1) = B at h1
  split
  · omega
  · exact Nat.lt_of_le_of_lt (Nat.mul_le_mul_left _ h1) (Nat.mul_lt_mul_of_pos_right (by omega) h3)

theorem lim_len_gen (m K k : Nat) (h : m < 9007199254740992 * 2 ^ K) (h2 : 53 + K ≤ 32 * k) : (lim m).length ≤ k := by
  refine lim_length_le (Nat.lt_of_lt_of_le h ?_)
  rw [show (4294967296 : Nat) = 2 ^ 32 from by decide, ← Nat.pow_mul, show (9007199254740992 : Nat) = 2 ^ 53 from by decide, ← Nat.pow_add]
  exact Nat.pow_le_pow_right (by decide) h2
theorem fexp_le (x : Nat) (h : frung x < 9218868437227405312) : fexp x ≤ 2046 := by
  have e := f_rung x
  omega
theorem lim_len_fu (x : Nat) (h : frung x < 9218868437227405312) : (lim (fu x)).length ≤ 66 :=
  lim_len_gen _ 2045 66 (fu_lt x 2045 (by have := fexp_le x h; omega)) (by omega)

/-- The bits that are asked. -/
theorem andNot_sign (x : Int) (h0 : 0 ≤ x) (h1 : x ≤ 18446744073709551615) : bits .andNot .u64 x 9223372036854775808 = (frung x.toNat : Int) := by
  rw [u64_andNot x _ h0 (by omega) (by decide) (by decide)]
  rw [show (18446744073709551615 - (9223372036854775808 : Int).toNat : Nat) = 2 ^ 63 - 1 from by decide, Nat.and_two_pow_sub_one_eq_mod]
  rfl
theorem and_sign (x : Int) (h0 : 0 ≤ x) (h1 : x ≤ 18446744073709551615) : bits .and .u64 x 9223372036854775808 = if fneg x.toNat then 9223372036854775808 else 0 := by
  rw [u64_and x _ h0 (by omega) (by decide) (by decide), show ((9223372036854775808 : Int).toNat : Nat) = 2 ^ 63 from by decide]
  have hlt : x.toNat < 2 ^ 64 := by omega
  generalize x.toNat = n at hlt
  unfold fneg
  have e2 : n.testBit 63 = decide (n / 9223372036854775808 % 2 = 1) := by rw [Nat.testBit_eq_decide_div_mod_eq]
  have e : n &&& 2 ^ 63 = if n.testBit 63 then 2 ^ 63 else 0 := by
    apply Nat.eq_of_testBit_eq
    intro i
    rw [Nat.testBit_and, Nat.testBit_two_pow]
    by_cases hi : 63 = i
    · subst hi; cases h : n.testBit 63
      · rw [if_neg (by simp)]; simp
      · rw [if_pos rfl, Nat.testBit_two_pow]; rfl
    · cases h : n.testBit 63
      · rw [if_neg (by simp)]; simp [hi]
      · rw [if_pos rfl, Nat.testBit_two_pow]; simp [hi]
  rw [e, e2]
  by_cases h : n / 9223372036854775808 % 2 = 1 <;> simp [h]
theorem and_exp (x : Int) (h0 : 0 ≤ x) (h1 : x ≤ 18446744073709551615) : bits .and .u64 (x / 4503599627370496) 2047 = (fexp x.toNat : Int) := by
  rw [u64_and _ _ (by omega) (by omega) (by decide) (by decide), show ((2047 : Int).toNat : Nat) = 2 ^ 11 - 1 from by decide, Nat.and_two_pow_sub_one_eq_mod]
  unfold fexp
  omega
theorem and_frac (x : Int) (h0 : 0 ≤ x) (h1 : x ≤ 18446744073709551615) : bits .and .u64 x 4503599627370495 = (ffrac x.toNat : Int) := by
  rw [u64_and _ _ (by omega) (by omega) (by decide) (by decide), show ((4503599627370495 : Int).toNat : Nat) = 2 ^ 52 - 1 from by decide, Nat.and_two_pow_sub_one_eq_mod]
  rfl
theorem or_hidden (x : Nat) : bits .or .u64 (ffrac x : Int) 4503599627370496 = ((ffrac x + 4503599627370496 : Nat) : Int) := by
  have hf : ffrac x < 4503599627370496 := Nat.mod_lt _ (by decide)
  rw [u64_or _ _ (by omega) (by omega) (by decide) (by decide), Int.toNat_natCast, show ((4503599627370496 : Int).toNat : Nat) = 2 ^ 52 from by decide]
  have h := Nat.two_pow_add_eq_or_of_lt (i := 52) (b := ffrac x) (by simpa using hf) 1
  rw [Nat.mul_one] at h
  rw [Nat.or_comm, ← h]
  omega
end Go.Proofs.YtfcoffllelgakaaDoor
