import Derived.Test.YtkjbbmmidjeecaaDoorFBigI
import Derived.Test.YtkjbbmmidjeecaaDoorFNear
import Derived.Test.YtkjbbmmidjeecaaDoorBCmp
namespace Go.Proofs.YtkjbbmmidjeecaaDoor
open Go.RowKit
set_option linter.unusedVariables false
set_option linter.unusedSimpArgs false

/-- The order of two whole numbers, told as a number. -/
def cmpI (a b : Int) : Int := if a < b then -1 else if b < a then 1 else 0
theorem ordI_cmp (a b : Int) : ordI (some (compare a b)) = cmpI a b := by
  unfold cmpI
  rcases Int.lt_trichotomy a b with h | h | h
  · rw [Int.compare_eq_lt.2 h, if_pos h]; rfl
  · subst h; simp [ordI]
  · rw [Int.compare_eq_gt.2 h, if_neg (by omega), if_pos h]; rfl
theorem split_cmp (v : Int) (s : Bool) (u P : Nat) (hP : 0 < P) :
    cmpI (v * (P : Int)) (sgn s u) = if cmpI v (sgn s (u / P)) ≠ 0 then cmpI v (sgn s (u / P)) else cmpI (sgn s (u / P * P)) (sgn s u) := by
  have hu := Nat.div_add_mod u P
  have hr := Nat.mod_lt u hP
  rw [Nat.mul_comm] at hu
  generalize u / P = q at *
  generalize u % P = r at *
  obtain ⟨Y, hY⟩ : ∃ Y : Nat, q * P = Y := ⟨_, rfl⟩
  have hYi : (q : Int) * (P : Int) = (Y : Int) := by rw [← hY, Int.natCast_mul]
  rw [hY] at hu ⊢
  have hPi : (0 : Int) ≤ (P : Int) := by omega
  obtain ⟨X, hX⟩ : ∃ X : Int, v * (P : Int) = X := ⟨_, rfl⟩
  rw [hX]
  cases s with
  | false =>
    show cmpI X (u : Int) = if cmpI v (q : Int) ≠ 0 then cmpI v (q : Int) else cmpI (Y : Int) (u : Int)
    rcases Int.lt_trichotomy v (q : Int) with h | h | h
    · have h1 : v * (P : Int) ≤ ((q : Int) - 1) * (P : Int) := Int.mul_le_mul_of_nonneg_right (by omega) hPi
      rw [Int.sub_mul, hYi, hX, Int.one_mul] at h1
      have e : cmpI v (q : Int) = -1 := by unfold cmpI; rw [if_pos h]
      rw [e, if_pos (by decide)]
      unfold cmpI; rw [if_pos (by omega)]
    · subst h
      have e : cmpI (q : Int) (q : Int) = 0 := by unfold cmpI; rw [if_neg (by omega), if_neg (by omega)]
      rw [e, if_neg (by decide)]
      rw [show X = (Y : Int) from by rw [← hX, hYi]]
    · have h1 : ((q : Int) + 1) * (P : Int) ≤ v * (P : Int) := Int.mul_le_mul_of_nonneg_right (by omega) hPi
      rw [Int.add_mul, hYi, hX, Int.one_mul] at h1
      have e : cmpI v (q : Int) = 1 := by unfold cmpI; rw [if_neg (by omega), if_pos h]
      rw [e, if_pos (by decide)]
      unfold cmpI; rw [if_neg (by omega), if_pos (by omega)]
  | true =>
    show cmpI X (-(u : Int)) = if cmpI v (-(q : Int)) ≠ 0 then cmpI v (-(q : Int)) else cmpI (-(Y : Int)) (-(u : Int))
    rcases Int.lt_trichotomy v (-(q : Int)) with h | h | h
    · have h1 : v * (P : Int) ≤ (-(q : Int) - 1) * (P : Int) := Int.mul_le_mul_of_nonneg_right (by omega) hPi
      rw [Int.sub_mul, Int.neg_mul, hYi, hX, Int.one_mul] at h1
      have e : cmpI v (-(q : Int)) = -1 := by unfold cmpI; rw [if_pos h]
      rw [e, if_pos (by decide)]
      unfold cmpI; rw [if_pos (by omega)]
    · subst h
      have e : cmpI (-(q : Int)) (-(q : Int)) = 0 := by unfold cmpI; rw [if_neg (by omega), if_neg (by omega)]
      rw [e, if_neg (by decide)]
      rw [show X = -(Y : Int) from by rw [← hX, Int.neg_mul, hYi]]
    · have h1 : (-(q : Int) + 1) * (P : Int) ≤ v * (P : Int) := Int.mul_le_mul_of_nonneg_right (by omega) hPi
      rw [Int.add_mul, Int.neg_mul, hYi, hX, Int.one_mul] at h1
      have e : cmpI v (-(q : Int)) = 1 := by unfold cmpI; rw [if_neg (by omega), if_pos h]
      rw [e, if_pos (by decide)]
      unfold cmpI; rw [if_neg (by omega), if_pos (by omega)]
/-- What BigFloatCmp answers. -/
def bfc (p : Bool) (xs : List Int) (x : Nat) : Int :=
  if okB p xs = true ∧ isN x = false then (if isI x = true then (if fneg x = true then 1 else -1) else cmpI (sgn p (val xs) * (lowP : Int)) (sgn (fneg x) (fu x))) else 2
/-- A whole part as a float. -/
def trunc (x : Nat) : Nat := Ieee.double.nearest (fneg x) (fq x) 0
theorem integral_eq (x : Nat) (h : frung x < 9218868437227405312) : (Ieee.double.read x).integral .zero = .number (fneg x) (fq x) 0 := by
  rw [read_num x h]
  show Ieee.Datum.number (fneg x) (Ieee.Toward.zero.cut (fneg x) (fmag x <<< (fpl x).toNat) (-(fpl x)).toNat) 0 = _
  rw [cut_zero, Nat.shiftLeft_eq]
  by_cases hp : 0 ≤ fpl x
  · obtain ⟨n, hn⟩ : ∃ n : Nat, fpl x = (n : Int) := ⟨(fpl x).toNat, by omega⟩
    rw [fq_up x n hn, hn, show ((n : Int)).toNat = n from rfl, show (-(n : Int)).toNat = 0 by omega, Nat.pow_zero, Nat.div_one]
  · obtain ⟨n, hn⟩ : ∃ n : Nat, fpl x = -(n : Int) := ⟨(-fpl x).toNat, by omega⟩
    rw [fq_down x n hn, hn, show (-(n : Int)).toNat = 0 by omega, show (- -(n : Int)).toNat = n by omega, Nat.pow_zero, Nat.mul_one]
theorem log2_le {n k : Nat} (h : n < 2 ^ (k + 1)) : n.log2 ≤ k := by
  by_cases h0 : n = 0
  · subst h0; exact Nat.zero_le _
  · have h1 := Nat.log2_self_le h0
    rcases Nat.lt_or_ge k n.log2 with h2 | h2
    · exfalso
      have : (2 : Nat) ^ (k + 1) ≤ 2 ^ n.log2 := Nat.pow_le_pow_right (by decide) h2
      omega
    · exact h2
theorem fq_form (x : Nat) (h : frung x < 9218868437227405312) : ∃ M k, fq x = M * 2 ^ k ∧ M < 9007199254740992 ∧ (fq x).log2 ≤ 1023 := by
  have hm := fmag_lt x
  have hle : fpl x ≤ 971 := by
    have := fexp_le _ h
    unfold fpl; split <;> omega
  obtain ⟨K, hK⟩ : ∃ K : Nat, K = 1023 := ⟨_, rfl⟩
  rw [← hK]
  by_cases hp : 0 ≤ fpl x
  · obtain ⟨n, hn⟩ : ∃ n : Nat, fpl x = (n : Int) := ⟨(fpl x).toNat, by omega⟩
    refine ⟨fmag x, n, fq_up x n hn, hm, log2_le ?_⟩
    rw [fq_up x n hn]
    have h1 : fmag x * 2 ^ n < 9007199254740992 * 2 ^ n := Nat.mul_lt_mul_of_pos_right hm (Nat.two_pow_pos n)
    rw [← two53, ← Nat.pow_add] at h1
    exact Nat.lt_of_lt_of_le h1 (Nat.pow_le_pow_right (by decide) (by omega))
  · obtain ⟨n, hn⟩ : ∃ n : Nat, fpl x = -(n : Int) := ⟨(-fpl x).toNat, by omega⟩
    have h1 : fmag x / 2 ^ n ≤ fmag x := Nat.div_le_self _ _
    refine ⟨fq x, 0, by rw [Nat.pow_zero, Nat.mul_one], by rw [fq_down x n hn]; omega, log2_le ?_⟩
    rw [fq_down x n hn]
    have h2 : fmag x / 2 ^ n < 2 ^ 53 := by rw [two53]; omega
    exact Nat.lt_of_lt_of_le h2 (Nat.pow_le_pow_right (by decide) (by omega))
theorem trunc_facts (x : Nat) (h : frung x < 9218868437227405312) : frung (trunc x) < 9218868437227405312 ∧ fneg (trunc x) = fneg x ∧ fu (trunc x) = fq x * lowP := by
  obtain ⟨M, k, e, hM, hl⟩ := fq_form x h
  obtain ⟨h1, h2, h3, _⟩ := near_exact (fneg x) (fq x) M k e hM hl lowE rfl
  exact ⟨h1, h2, by rw [show trunc x = Ieee.double.nearest (fneg x) (fq x) 0 from rfl, h3, low_eq]⟩
theorem isN_of {x : Nat} (h : frung x < 9218868437227405312) : isN x = false := by
  unfold isN; rw [decide_eq_false (by omega)]
/-- How the whole part stands to the float. -/
theorem trunc_order (x : Nat) (h : frung x < 9218868437227405312) : ordI (Ieee.double.order (trunc x) x) = cmpI (sgn (fneg x) (fq x * lowP)) (sgn (fneg x) (fu x)) := by
  obtain ⟨h1, h2, h3⟩ := trunc_facts x h
  rw [order_fin _ _ h1 h, h2, h3, ordI_cmp]
theorem archTrunc_run (x : Nat) (w : World) (h : frung x < 9218868437227405312) : (callFunc 85 #[.float .f64 x]).run Tryd.prog w = .ok (.value (.float .f64 (trunc x))) w := by
  rw [run_callFunc_extern (e := Extern.MathFloor.toIntegral "math.archTrunc" .zero) Tryd.func85 (by kernel_rfl) (by kernel_rfl) (by kernel_rfl) (by kernel_rfl)]
  have e := read_num x h
  have e2 := integral_eq x h
  rw [e] at e2
  have e3 : FloatKind.f64.decode x = .number (fneg x) (fmag x) (fpl x) := e
  have e4 : FloatKind.f64.encode ((Ieee.Datum.number (fneg x) (fmag x) (fpl x)).integral .zero) = trunc x := by
    rw [e2]; rfl
  have e5 : (Extern.MathFloor.toIntegral "math.archTrunc" .zero #[.float .f64 x]).run Tryd.prog w = .ok (.float .f64 (trunc x)) w := by
    show Sem.run Tryd.prog (Go.Extern.MathFloor.toIntegral.match_1 (fun _ => Sem Value) (FloatKind.f64.decode x) _ _) w = _
    rw [e3, ← e4]
    rfl
  rw [e5]
  rfl
set_option maxRecDepth 100000 in
theorem trunc_any (x : Nat) (w : World) (h : frung x < 9218868437227405312) :
    Calls Tryd.prog 50 #[.float .f64 x] w fun e w' => e = .returned (.float .f64 (trunc x)) ∧ w' = w := by
  have hR := archTrunc_run x w h
  go_enter Tryd.func50, Tryd.ntmps50
  go_wp2
  go_ret
  exact ⟨rfl, rfl⟩
end Go.Proofs.YtkjbbmmidjeecaaDoor
