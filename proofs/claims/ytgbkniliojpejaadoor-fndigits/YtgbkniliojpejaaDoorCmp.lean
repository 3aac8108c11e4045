import Derived.Test.YtgbkniliojpejaaDoorAdd
import Derived.Test.YtgbkniliojpejaaDoorBits
namespace Go.Proofs.YtgbkniliojpejaaDoor
open Go.RowKit
set_option linter.unusedVariables false
set_option linter.unusedSimpArgs false

/-- -1, 0, 1. -/
def cmpN (m n : Nat) : Int := if m < n then -1 else if n < m then 1 else 0
theorem cmpN_lt {m n : Nat} (h : m < n) : cmpN m n = -1 := by unfold cmpN; rw [if_pos h]
theorem cmpN_gt {m n : Nat} (h : n < m) : cmpN m n = 1 := by unfold cmpN; rw [if_neg (by omega), if_pos h]
theorem cmpN_eq (m : Nat) : cmpN m m = 0 := by unfold cmpN; rw [if_neg (by omega), if_neg (by omega)]

theorem val_split (zs : List Int) (k : Nat) (hk : k < zs.length) : val zs = val (zs.take k) + 4294967296 ^ k * ((zs.getD k 0).toNat + 4294967296 * val (zs.drop (k + 1))) := by
  have e : zs = zs.take k ++ (zs[k] :: zs.drop (k + 1)) := by
    rw [← List.drop_eq_getElem_cons hk, List.take_append_drop]
  have hl : (zs.take k).length = k := by simp; omega
  have hg : zs.getD k 0 = zs[k] := by simp [List.getD, hk]
  rw [hg]
  calc val zs = val (zs.take k ++ (zs[k] :: zs.drop (k + 1))) := by rw [← e]
    _ = _ := by rw [val_append, hl]; rfl

theorem val_lt_of_top {xs ys : List Int} (hx : Limbs xs) (hy : Limbs ys) (hl : xs.length = ys.length) (k : Nat) (hk : k < xs.length) (ht : xs.drop (k + 1) = ys.drop (k + 1)) (h : xs.getD k 0 < ys.getD k 0) : val xs < val ys := by
  rw [val_split xs k hk, val_split ys k (by omega), ht]
  have h1 := val_lt (hx.take k)
  have hl : (xs.take k).length = k := by simp; omega
  rw [hl] at h1
  have hx0 := hx.get k
  have h2 : (xs.getD k 0).toNat + 1 ≤ (ys.getD k 0).toNat := by omega
  have h3 : 4294967296 ^ k * ((xs.getD k 0).toNat + 1 + 4294967296 * val (ys.drop (k + 1))) ≤ 4294967296 ^ k * ((ys.getD k 0).toNat + 4294967296 * val (ys.drop (k + 1))) := Nat.mul_le_mul_left _ (by omega)
  have h4 : 4294967296 ^ k * ((xs.getD k 0).toNat + 1 + 4294967296 * val (ys.drop (k + 1))) = 4294967296 ^ k * ((xs.getD k 0).toNat + 4294967296 * val (ys.drop (k + 1))) + 4294967296 ^ k := by
    rw [show (xs.getD k 0).toNat + 1 + 4294967296 * val (ys.drop (k + 1)) = ((xs.getD k 0).toNat + 4294967296 * val (ys.drop (k + 1))) + 1 from by omega, Nat.mul_add, Nat.mul_one]
  omega

theorem val_lt_of_len {xs ys : List Int} (hx : Limbs xs) (hy : Limbs ys) (hn : Norm ys) (hl : xs.length < ys.length) : val xs < val ys := by
  have h1 := val_lt hx
  have h2 := le_val hy hn (by omega)
  have h3 : 4294967296 ^ xs.length ≤ 4294967296 ^ (ys.length - 1) := Nat.pow_le_pow_right (by omega) (by omega)
  omega

end Go.Proofs.YtgbkniliojpejaaDoor
