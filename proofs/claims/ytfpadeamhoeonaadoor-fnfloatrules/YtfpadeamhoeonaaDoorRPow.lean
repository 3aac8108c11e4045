import Derived.Test.YtfpadeamhoeonaaDoorLen
import Derived.Test.YtfpadeamhoeonaaDoorFit
import Derived.Test.YtfpadeamhoeonaaDoorCmp
import Derived.Test.YtfpadeamhoeonaaDoorSum
namespace Go.Proofs.YtfpadeamhoeonaaDoor
open Go.RowKit
set_option linter.unusedVariables false
set_option linter.unusedSimpArgs false
theorem R_pow (k : Nat) : 4294967296 ^ k = 2 ^ (32 * k) := by rw [Nat.pow_mul]
/-- A number's binary digits tell between which powers of 2 it lies. -/
theorem bits_val {zs : List Int} (hz : Limbs zs) (hn : Norm zs) (h0 : ¬ zs.length = 0) : 2 ^ (bitsN zs).toNat ≤ 2 * val zs ∧ val zs < 2 ^ (bitsN zs).toNat := by
  have hb : (bitsN zs).toNat = 32 * (zs.length - 1) + Lib.bitLen (zs.getD (zs.length - 1) 0).toNat := by unfold bitsN; rw [if_neg h0]; omega
  have ht := hz.get (zs.length - 1)
  have htn : zs.getD (zs.length - 1) 0 ≠ 0 := by rcases hn with h | h; (exact absurd h h0); exact h
  have l1 := bitLen_low (zs.getD (zs.length - 1) 0).toNat (by omega) (by omega)
  have l2 := bitLen_high (zs.getD (zs.length - 1) 0).toNat (by omega)
  have hv := val_split zs (zs.length - 1) (by omega)
  have hd : zs.drop (zs.length - 1 + 1) = [] := by rw [List.drop_eq_nil_iff]; omega
  rw [hd] at hv
  simp only [val, Nat.mul_zero, Nat.add_zero] at hv
  have hlt := val_lt (hz.take (zs.length - 1))
  have hl : (zs.take (zs.length - 1)).length = zs.length - 1 := by simp
  rw [hl] at hlt
  rw [hb, Nat.pow_add, ← R_pow]
  generalize (zs.getD (zs.length - 1) 0).toNat = t at l1 l2 hv
  generalize 4294967296 ^ (zs.length - 1) = Q at hv hlt
  generalize 2 ^ Lib.bitLen t = T at l1 l2
  have m1 : Q * T ≤ Q * (2 * t) := Nat.mul_le_mul_left _ l1
  have m2 : Q * (t + 1) ≤ Q * T := Nat.mul_le_mul_left _ l2
  have m3 : Q * (2 * t) = 2 * (Q * t) := by rw [← Nat.mul_assoc, Nat.mul_comm Q 2, Nat.mul_assoc]
  have m4 : Q * (t + 1) = Q * t + Q := Nat.mul_succ _ _
  omega

end Go.Proofs.YtfpadeamhoeonaaDoor
