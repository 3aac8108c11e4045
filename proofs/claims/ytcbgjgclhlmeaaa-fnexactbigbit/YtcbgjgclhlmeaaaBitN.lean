import Derived.Test.YtcbgjgclhlmeaaaBitM
namespace Go.Proofs.Ytcbgjgclhlmeaaa
open Go.RowKit
set_option linter.unusedVariables false
set_option linter.unusedSimpArgs false

/-- The three operators, on numbers and on binary digits. -/
def bop (op : Int) (x y : Nat) : Nat := if op = 1 then x &&& y else if op = 2 then x ||| y else x ^^^ y
def bopB (op : Int) (x y : Bool) : Bool := if op = 1 then x && y else if op = 2 then x || y else x ^^ y
theorem testBit_bop (op : Int) (x y i : Nat) : (bop op x y).testBit i = bopB op (x.testBit i) (y.testBit i) := by
  unfold bop bopB
  split
  · exact Nat.testBit_and _ _ _
  · split
    · exact Nat.testBit_or _ _ _
    · exact Nat.testBit_xor _ _ _
theorem bopB_false (op : Int) : bopB op false false = false := by unfold bopB; split <;> (try split) <;> rfl
theorem bop_lt (op : Int) {x y k : Nat} (hx : x < 2 ^ k) (hy : y < 2 ^ k) : bop op x y < 2 ^ k := by
  unfold bop
  split
  · exact Nat.and_lt_two_pow _ hy
  · split
    · exact Nat.or_lt_two_pow hx hy
    · exact Nat.xor_lt_two_pow hx hy
/-- Digit by digit: what stands above goes its own way. -/
theorem bop_step (op : Int) (k a b x y : Nat) (ha : a < 2 ^ k) (hb : b < 2 ^ k) : bop op (a + 2 ^ k * x) (b + 2 ^ k * y) = bop op a b + 2 ^ k * bop op x y := by
  have hab := bop_lt op ha hb
  refine Nat.eq_of_testBit_eq fun i => ?_
  rw [testBit_bop, Nat.add_comm a, Nat.add_comm b, Nat.add_comm (bop op a b), Nat.testBit_two_pow_mul_add _ ha, Nat.testBit_two_pow_mul_add _ hb, Nat.testBit_two_pow_mul_add _ hab]
  split
  · rw [testBit_bop]
  · rw [testBit_bop]

/-- The two's complement of a number in m binary digits, and its digits. -/
def tw (p : Bool) (m X : Nat) : Nat := if p = true then 2 ^ m - X else X
def dg (p : Bool) (X i : Nat) : Bool := if p = true then !(X - 1).testBit i else X.testBit i
theorem tw_lt (p : Bool) (m X : Nat) (hX : X < 2 ^ m) (hp : p = true → 0 < X) : tw p m X < 2 ^ m := by
  unfold tw
  split
  · rename_i h; have := hp h; omega
  · exact hX
theorem tw_bit (p : Bool) (m X i : Nat) (hX : X < 2 ^ m) (hp : p = true → 0 < X) (hi : i < m) : (tw p m X).testBit i = dg p X i := by
  unfold tw dg
  split
  · rename_i h
    have := hp h
    have h1 := Nat.testBit_two_pow_sub_succ (x := X - 1) (n := m) (by omega) i
    rw [show X - 1 + 1 = X from by omega] at h1
    rw [h1, decide_eq_true hi, Bool.true_and]
  · rfl
theorem dg_top (p : Bool) (X k i : Nat) (hX : X < 2 ^ k) (hi : k ≤ i) : dg p X i = p := by
  have h1 : 2 ^ k ≤ 2 ^ i := Nat.pow_le_pow_right (by decide) hi
  unfold dg
  cases p
  · simp [Nat.testBit_lt_two_pow (Nat.lt_of_lt_of_le hX h1)]
  · have : X - 1 < 2 ^ i := by omega
    simp [Nat.testBit_lt_two_pow this]

/-- A number laid digit by digit, from the lowest up. -/
def laid (b : Nat → Bool) : Nat → Nat
  | 0 => 0
  | i + 1 => laid b i + 2 ^ i * (b i).toNat
theorem laid_lt (b : Nat → Bool) (i : Nat) : laid b i < 2 ^ i := by
  induction i with
  | zero => simp [laid]
  | succ i ih =>
    unfold laid
    have : (b i).toNat ≤ 1 := by cases b i <;> simp
    have h2 : 2 ^ i * (b i).toNat ≤ 2 ^ i * 1 := Nat.mul_le_mul_left _ this
    rw [Nat.pow_succ]; omega
theorem laid_bit (b : Nat → Bool) (i j : Nat) : (laid b i).testBit j = (decide (j < i) && b j) := by
  induction i with
  | zero => simp [laid]
  | succ i ih =>
    unfold laid
    rw [Nat.add_comm, Nat.testBit_two_pow_mul_add _ (laid_lt b i)]
    by_cases h : j < i
    · rw [if_pos h, ih, decide_eq_true h, decide_eq_true (by omega)]
    · rw [if_neg h, Nat.testBit_bool_toNat]
      by_cases h2 : j = i
      · subst h2; simp
      · rw [decide_eq_false (by omega : ¬ j < i + 1), decide_eq_false (by omega : ¬ j - i = 0)]; simp

/-- What BigBit's number is: K binary digits hold both numbers. -/
def bbV (op : Int) (p q : Bool) (X Y K : Nat) : Nat := bop op (tw p (K + 32) X) (tw q (K + 32) Y)
def bbN (op : Int) (p q : Bool) (X Y K : Nat) : Nat := if bopB op p q = true then 2 ^ (K + 32) - bbV op p q X Y K else bbV op p q X Y K
theorem bbV_lt (op : Int) (p q : Bool) (X Y K : Nat) (hX : X < 2 ^ K) (hY : Y < 2 ^ K) (hp : p = true → 0 < X) (hq : q = true → 0 < Y) : bbV op p q X Y K < 2 ^ (K + 32) := by
  have h1 : 2 ^ K ≤ 2 ^ (K + 32) := Nat.pow_le_pow_right (by decide) (by omega)
  exact bop_lt op (tw_lt p _ X (by omega) hp) (tw_lt q _ Y (by omega) hq)
theorem bbV_bit (op : Int) (p q : Bool) (X Y K i : Nat) (hX : X < 2 ^ K) (hY : Y < 2 ^ K) (hp : p = true → 0 < X) (hq : q = true → 0 < Y) (hi : i < K + 32) : (bbV op p q X Y K).testBit i = bopB op (dg p X i) (dg q Y i) := by
  have h1 : 2 ^ K ≤ 2 ^ (K + 32) := Nat.pow_le_pow_right (by decide) (by omega)
  unfold bbV
  rw [testBit_bop, tw_bit p _ X i (by omega) hp hi, tw_bit q _ Y i (by omega) hq hi]
theorem bbV_high (op : Int) (p q : Bool) (X Y K : Nat) (hX : X < 2 ^ K) (hY : Y < 2 ^ K) (hp : p = true → 0 < X) (hq : q = true → 0 < Y) : bbV op p q X Y K / 2 ^ K = if bopB op p q = true then 4294967295 else 0 := by
  have hlt := bbV_lt op p q X Y K hX hY hp hq
  refine Nat.eq_of_testBit_eq fun i => ?_
  rw [Nat.testBit_div_two_pow]
  by_cases hi : i < 32
  · rw [bbV_bit op p q X Y K _ hX hY hp hq (by omega), dg_top p X K _ hX (by omega), dg_top q Y K _ hY (by omega)]
    split
    · rename_i h
      rw [h, show (4294967295 : Nat) = 2 ^ 32 - 1 from by decide, Nat.testBit_two_pow_sub_one, decide_eq_true hi]
    · rename_i h
      rw [Nat.zero_testBit]; simpa using h
  · have h1 : 2 ^ (K + 32) ≤ 2 ^ (i + K) := Nat.pow_le_pow_right (by decide) (by omega)
    have h2 : (2 : Nat) ^ 32 ≤ 2 ^ i := Nat.pow_le_pow_right (by decide) (by omega)
    rw [Nat.testBit_lt_two_pow (by omega)]
    split
    · rw [Nat.testBit_lt_two_pow (by omega)]
    · rw [Nat.zero_testBit]
/-- The specification's way to it: the digits, turned where the number is below 0, and one more. -/
theorem bbN_spec (op : Int) (p q : Bool) (X Y K : Nat) (hX : X < 2 ^ K) (hY : Y < 2 ^ K) (hp : p = true → 0 < X) (hq : q = true → 0 < Y) :
    laid (fun i => bopB op p q ^^ bopB op (dg p X i) (dg q Y i)) K + (bopB op p q).toNat = bbN op p q X Y K := by
  have hlt := bbV_lt op p q X Y K hX hY hp hq
  unfold bbN
  cases hn : bopB op p q with
  | false =>
    simp only [Bool.false_eq_true, if_false, Bool.toNat_false, Nat.add_zero, Bool.false_xor]
    refine Nat.eq_of_testBit_eq fun i => ?_
    rw [laid_bit]
    by_cases hi : i < K + 32
    · rw [bbV_bit op p q X Y K i hX hY hp hq hi]
      by_cases h : i < K
      · rw [decide_eq_true h, Bool.true_and]
      · rw [decide_eq_false h, Bool.false_and, dg_top p X K _ hX (by omega), dg_top q Y K _ hY (by omega), hn]
    · have h1 : 2 ^ (K + 32) ≤ 2 ^ i := Nat.pow_le_pow_right (by decide) (by omega)
      rw [Nat.testBit_lt_two_pow (by omega : bbV op p q X Y K < 2 ^ i), decide_eq_false (by omega), Bool.false_and]
  | true =>
    simp only [if_true, Bool.toNat_true, Bool.true_xor]
    have h2 : laid (fun i => !bopB op (dg p X i) (dg q Y i)) K = 2 ^ (K + 32) - (bbV op p q X Y K + 1) := by
      refine Nat.eq_of_testBit_eq fun i => ?_
      rw [laid_bit, Nat.testBit_two_pow_sub_succ hlt]
      by_cases hi : i < K + 32
      · rw [bbV_bit op p q X Y K i hX hY hp hq hi, decide_eq_true hi, Bool.true_and]
        by_cases h : i < K
        · rw [decide_eq_true h, Bool.true_and]
        · rw [decide_eq_false h, Bool.false_and, dg_top p X K _ hX (by omega), dg_top q Y K _ hY (by omega), hn]; rfl
      · rw [decide_eq_false hi, decide_eq_false (by omega), Bool.false_and, Bool.false_and]
    rw [h2]; omega
end Go.Proofs.Ytcbgjgclhlmeaaa
