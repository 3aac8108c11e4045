import Derived.Test.YtfcoffllelgakaaDoorLen
import Derived.Test.YtfcoffllelgakaaDoorFit
import Derived.Test.YtfcoffllelgakaaDoorCmp
import Derived.Test.YtfcoffllelgakaaDoorSum
namespace Go.Proofs.YtfcoffllelgakaaDoor
open Go.RowKit
set_option linter.unusedVariables false
set_option linter.unusedSimpArgs false
theorem R_pow (k : Nat) : 4294967296 ^ k = 2 ^ (32 * k) := by rw [Nat.pow_mul]
/-- A number's binary digits tell between which powers of 2 it lies. -/
theorem bits_val {zs : List Int} (hz : Limbs zs) (hn : Norm zs) (h0 : ¬ zs.length = 0) : 2 ^ (bitsN zs).toNat ≤ 2 * val zs ∧ val zs < 2 ^ (bitsN zs).toNat := by
  have hb : (bitsN zs).toNat = 32 * (zs.length - 1) + Lib.bitLen (zs.getD (zs.length - 1) 0).toNat := by unfold bitsN; rw [if_neg h0]; omega
  have ht := hz.get (zs.length - 1)
  have htn : zs.getD (zs.length - 1) 0 ≠ 0 := by rcases hn with h | h; (exact absurd h h0); exact h
  have l1 := bitLen_low (zs.getD (zs.length - 1) 0).toNat (by omega) (by omega)
  have l2 := bitLen_high (zs.getD (zs.length - 1) 0).toNat (by omega)
  have hv := val_split zs (zs.length - 1) (by omega)
  have hd : zs.drop (zs.length - 1 + 1) = [] := by rw [List.drop_eq_nil_iff]; omega
  rw [hd] at hv
  simp only [val, Nat.mul_zero, Nat.add_zero] at hv
  have hlt := val_lt (hz.take (zs.length - 1))
  have hl : (zs.take (zs.length - 1)).length = zs.length - 1 := by simp
  rw [hl] at hlt
  rw [hb, Nat.pow_add, ← R_pow]
  generalize (zs.getD (zs.length - 1) 0).toNat = t at l1 l2 hv
  generalize 4294967296 ^ (zs.length - 1) = Q at hv hlt
  generalize 2 ^ Lib.bitLen t = T at l1 l2
  have m1 : Q * T ≤ Q * (2 * t) := Nat.mul_le_mul_left _ l1
  have m2 : Q * (t + 1) ≤ Q * T := Nat.mul_le_mul_left _ l2
  have m3 : Q * (2 * t) = 2 * (Q * t) := by rw [← Nat.mul_assoc, Nat.mul_comm Q 2, Nat.mul_assoc]
  have m4 : Q * (t + 1) = Q * t + Q := Nat.mul_succ _ _
  omega

end Go.Proofs.YtfcoffllelgakaaDoor

namespace Go.Proofs.YtfcoffllelgakaaDoor
open Go.RowKit
set_option linter.unusedVariables false
set_option linter.unusedSimpArgs false

/-- How many binary digits a number has. -/
def bl (n : Nat) : Int := bitsN (lim n)
theorem bl_zero : bl 0 = 0 := by unfold bl; rw [lim_zero]; rfl
theorem bl_nonneg (n : Nat) : 0 ≤ bl n := by
  unfold bl bitsN
  split
  · omega
  · rename_i h
    have : 0 < (lim n).length := by omega
    omega
theorem bl_val {n : Nat} (h : 0 < n) : 2 ^ (bl n).toNat ≤ 2 * n ∧ n < 2 ^ (bl n).toNat := by
  have h0 : ¬ (lim n).length = 0 := fun e => by
    have := lim_eq_nil.1 (List.length_eq_zero_iff.1 e)
    omega
  have := bits_val (lim_limbs n) (lim_norm n) h0
  rw [val_lim] at this
  exact this
theorem bl_le {n k : Nat} (h : n < 2 ^ k) : bl n ≤ k := by
  rcases Nat.eq_zero_or_pos n with h0 | h0
  · subst h0; rw [bl_zero]; omega
  · have h1 := (bl_val h0).1
    have h2 : 2 ^ (bl n).toNat < 2 ^ (k + 1) := by rw [Nat.pow_succ]; omega
    have h3 := (Nat.pow_lt_pow_iff_right (a := 2) (by decide)).1 h2
    have := bl_nonneg n
    omega
theorem bl_ge {n k : Nat} (h : 2 ^ k ≤ n) : (k : Int) < bl n := by
  have h0 : 0 < n := Nat.lt_of_lt_of_le (Nat.pow_pos (by decide)) h
  have h1 := (bl_val h0).2
  have h2 : 2 ^ k < 2 ^ (bl n).toNat := by omega
  have h3 := (Nat.pow_lt_pow_iff_right (a := 2) (by decide)).1 h2
  omega
theorem bl_lt_of {n k : Nat} (h : bl n ≤ k) : n < 2 ^ k := by
  rcases Nat.lt_or_ge n (2 ^ k) with h1 | h1
  · exact h1
  · have := bl_ge h1; omega
theorem bl_ge_of {n k : Nat} (h : (k : Int) < bl n) : 2 ^ k ≤ n := by
  rcases Nat.lt_or_ge n (2 ^ k) with h1 | h1
  · have := bl_le h1; omega
  · exact h1
/-- Dividend, divisor and quotient, where a quotient of so many halvings is asked. -/
def nE (N : Nat) (e : Int) : Nat := if e < 0 then N * 2 ^ (-e).toNat else N
def dE (D : Nat) (e : Int) : Nat := if e < 0 then D else D * 2 ^ e.toNat
def qE (N D : Nat) (e : Int) : Nat := nE N e / dE D e
theorem dE_pos {D : Nat} (h : 0 < D) (e : Int) : 0 < dE D e := by
  unfold dE
  split
  · exact h
  · exact Nat.mul_pos h (Nat.pow_pos (by decide))
theorem qE_half (N D : Nat) (e : Int) : qE N D (e + 1) = qE N D e / 2 := by
  unfold qE nE dE
  rcases (by omega : e < -1 ∨ -1 ≤ e) with h | h
  · rw [if_pos (by omega), if_pos (by omega), if_pos (by omega), if_pos (by omega)]
    have e1 : (-e).toNat = (-(e + 1)).toNat + 1 := by omega
    rw [e1, Nat.pow_succ, Nat.div_div_eq_div_mul, ← Nat.mul_assoc, Nat.mul_div_mul_right _ _ (by decide)]
  · rcases (by omega : e < 0 ∨ 0 ≤ e) with h0 | h0
    · obtain rfl : e = -1 := by omega
      rw [if_neg (by decide), if_neg (by decide), if_pos (by decide), if_pos (by decide)]
      show N / (D * 2 ^ 0) = N * 2 ^ 1 / D / 2
      rw [Nat.pow_zero, Nat.mul_one, Nat.pow_one, Nat.div_div_eq_div_mul, Nat.mul_div_mul_right _ _ (by decide)]
    · rw [if_neg (by omega), if_neg (by omega), if_neg (by omega), if_neg (by omega)]
      have e1 : (e + 1).toNat = e.toNat + 1 := by omega
      rw [e1, Nat.pow_succ, ← Nat.mul_assoc, Nat.div_div_eq_div_mul]
def rE0 (N D : Nat) : Int := if bl N - bl D - 53 < -1074 then -1074 else bl N - bl D - 53
theorem rE0_ge (N D : Nat) : -1074 ≤ rE0 N D := by unfold rE0; split <;> omega
theorem q0_lt {N D : Nat} (hN : 0 < N) (hD : 0 < D) : qE N D (rE0 N D) < 2 ^ 54 := by
  have n1 := (bl_val hN).2
  have d1 := (bl_val hD).1
  have bN := bl_nonneg N
  have bD : 0 < bl D := by have := bl_ge (n := D) (k := 0) (by rw [Nat.pow_zero]; omega); omega
  have key : ∀ a b e k : Nat, True := fun _ _ _ _ => trivial
  unfold qE
  rw [Nat.div_lt_iff_lt_mul (dE_pos hD _)]
  have hle : bl N - bl D - 53 ≤ rE0 N D := by unfold rE0; split <;> omega
  generalize rE0 N D = e at hle ⊢
  generalize ha : (bl N).toNat = A at n1
  generalize hb : (bl D).toNat = B at d1
  unfold nE dE
  split
  · rename_i h
    have h1 : N * 2 ^ (-e).toNat < 2 ^ A * 2 ^ (-e).toNat := Nat.mul_lt_mul_of_pos_right n1 (Nat.pow_pos (by decide))
    have h2 : 2 ^ A * 2 ^ (-e).toNat ≤ 2 ^ 53 * 2 ^ B := by
      rw [← Nat.pow_add, ← Nat.pow_add]
      exact Nat.pow_le_pow_right (by decide) (by omega)
    have h3 : 2 ^ 53 * 2 ^ B ≤ 2 ^ 53 * (2 * D) := Nat.mul_le_mul_left _ d1
    have h4 : 2 ^ 53 * (2 * D) = 2 ^ 54 * D := by rw [← Nat.mul_assoc]
    omega
  · rename_i h
    have h2 : 2 ^ A ≤ 2 ^ 53 * 2 ^ B * 2 ^ e.toNat := by
      rw [← Nat.pow_add, ← Nat.pow_add]
      exact Nat.pow_le_pow_right (by decide) (by omega)
    have h3 : 2 ^ 53 * 2 ^ B * 2 ^ e.toNat ≤ 2 ^ 53 * (2 * D) * 2 ^ e.toNat := Nat.mul_le_mul_right _ (Nat.mul_le_mul_left _ d1)
    have h4 : 2 ^ 53 * (2 * D) * 2 ^ e.toNat = 2 ^ 54 * (D * 2 ^ e.toNat) := by rw [← Nat.mul_assoc, ← Nat.mul_assoc]
    omega
theorem q0_ge {N D : Nat} (hN : 0 < N) (hD : 0 < D) (h0 : -1074 < rE0 N D) : 2 ^ 52 ≤ qE N D (rE0 N D) := by
  have n1 := (bl_val hN).1
  have d1 := (bl_val hD).2
  have bN := bl_nonneg N
  have bD := bl_nonneg D
  have heq : rE0 N D = bl N - bl D - 53 := by unfold rE0 at h0 ⊢; split at h0 <;> rename_i h <;> simp [h] at h0 ⊢
  unfold qE
  rw [Nat.le_div_iff_mul_le (dE_pos hD _)]
  generalize rE0 N D = e at heq ⊢
  generalize ha : (bl N).toNat = A at n1
  generalize hb : (bl D).toNat = B at d1
  unfold nE dE
  split
  · rename_i h
    have h1 : 2 ^ 52 * D * 2 ≤ 2 ^ 53 * 2 ^ B := by
      have : 2 ^ 53 * D ≤ 2 ^ 53 * 2 ^ B := Nat.mul_le_mul_left _ (Nat.le_of_lt d1)
      omega
    have h2 : 2 ^ 53 * 2 ^ B = 2 ^ A * 2 ^ (-e).toNat := by
      rw [← Nat.pow_add, ← Nat.pow_add]
      congr 1
      omega
    have h3 : 2 ^ A * 2 ^ (-e).toNat ≤ 2 * N * 2 ^ (-e).toNat := Nat.mul_le_mul_right _ n1
    have h4 : 2 * N * 2 ^ (-e).toNat = N * 2 ^ (-e).toNat * 2 := by rw [Nat.mul_comm 2 N, Nat.mul_assoc, Nat.mul_comm 2, ← Nat.mul_assoc]
    omega
  · rename_i h
    have h1 : 2 ^ 52 * (D * 2 ^ e.toNat) * 2 ≤ 2 ^ 53 * 2 ^ B * 2 ^ e.toNat := by
      have : 2 ^ 53 * D * 2 ^ e.toNat ≤ 2 ^ 53 * 2 ^ B * 2 ^ e.toNat := Nat.mul_le_mul_right _ (Nat.mul_le_mul_left _ (Nat.le_of_lt d1))
      have e2 : 2 ^ 53 * D * 2 ^ e.toNat = 2 ^ 52 * (D * 2 ^ e.toNat) * 2 := by
        rw [Nat.mul_assoc]
        generalize D * 2 ^ e.toNat = z
        omega
      omega
    have h2 : 2 ^ 53 * 2 ^ B * 2 ^ e.toNat = 2 ^ A := by
      rw [← Nat.pow_add, ← Nat.pow_add]
      congr 1
      omega
    omega
/-- The halvings that are taken in the end. -/
def rE (N D : Nat) : Int := if 53 < bl (qE N D (rE0 N D)) then rE0 N D + 1 else rE0 N D
theorem q_end {N D : Nat} (hN : 0 < N) (hD : 0 < D) : bl (qE N D (rE N D)) ≤ 53 ∧ ¬ (bl (qE N D (rE N D)) < 53 ∧ -1074 < rE N D) := by
  have h54 := q0_lt hN hD
  unfold rE
  split
  · rename_i h
    have hq : 2 ^ 53 ≤ qE N D (rE0 N D) := bl_ge_of (k := 53) (by omega)
    rw [qE_half]
    have h1 : qE N D (rE0 N D) / 2 < 2 ^ 53 := by omega
    have h2 : 2 ^ 52 ≤ qE N D (rE0 N D) / 2 := by omega
    have := bl_le h1
    have := bl_ge h2
    omega
  · rename_i h
    refine ⟨by omega, fun ⟨a, b⟩ => ?_⟩
    have := bl_ge (q0_ge hN hD b)
    omega
/-- What is rounded: the quotient, its rest, the quotient that is nearer, and its halvings. -/
def rQ (N D : Nat) : Nat := qE N D (rE N D)
def rR (N D : Nat) : Nat := nE N (rE N D) % dE D (rE N D)
def rUp (N D : Nat) : Bool := decide (dE D (rE N D) < rR N D * 2) || (decide (rR N D * 2 = dE D (rE N D)) && decide (rQ N D % 2 = 1))
def rQ1 (N D : Nat) : Nat := if rUp N D = true then rQ N D + 1 else rQ N D
def rQ2 (N D : Nat) : Nat := if 53 < bl (rQ1 N D) then 2 ^ 52 else rQ1 N D
def rE2 (N D : Nat) : Int := if 53 < bl (rQ1 N D) then rE N D + 1 else rE N D
def setN (neg : Bool) (x : Nat) : Nat := if neg = true then x ||| 9223372036854775808 else x
def rndV (neg : Bool) (N D : Nat) : Nat := if N = 0 then setN neg 0 else if 971 < rE2 N D then setN neg 9218868437227405312 else if rQ2 N D < 4503599627370496 then setN neg (rQ2 N D) else setN neg (((rE2 N D + 1075).toNat * 4503599627370496) ||| (rQ2 N D - 4503599627370496))
theorem rQ_lt {N D : Nat} (hN : 0 < N) (hD : 0 < D) : rQ N D < 2 ^ 53 := bl_lt_of (k := 53) (q_end hN hD).1
theorem rQ1_53 {N D : Nat} (hN : 0 < N) (hD : 0 < D) (h : 53 < bl (rQ1 N D)) : rQ1 N D = 2 ^ 53 := by
  have h1 := rQ_lt hN hD
  have h2 := bl_ge_of (k := 53) h
  unfold rQ1 at h2 ⊢
  split at h2 <;> rename_i h3
  · rw [if_pos h3]; omega
  · omega
theorem rQ2_lt {N D : Nat} (hN : 0 < N) (hD : 0 < D) : rQ2 N D < 2 ^ 53 := by
  unfold rQ2
  split
  · decide
  · rename_i h
    exact bl_lt_of (k := 53) (by omega)
theorem rE2_ge (N D : Nat) : -1074 ≤ rE2 N D := by
  have := rE0_ge N D
  unfold rE2 rE
  split <;> split <;> omega
end Go.Proofs.YtfcoffllelgakaaDoor
