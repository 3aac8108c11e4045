import Derived.Test.YtipoafmabiahoaaFloor
import Derived.Test.YtipoafmabiahoaaRPow
namespace Go.Proofs.Ytipoafmabiahoaa
open Go.RowKit
set_option linter.unusedVariables false
set_option linter.unusedSimpArgs false

theorem flQ_false (X Y : Nat) : flQ false X false Y = X / Y := by unfold flQ; rw [if_neg (by simp)]
theorem ceil_flQ (X Y : Nat) (hX : 0 < X) (hY : 0 < Y) : (X - 1) / Y + 1 = flQ true X false Y := by
  have h1 := Nat.div_add_mod X Y
  have h2 := Nat.mod_lt X hY
  unfold flQ
  by_cases h : X % Y = 0
  · rw [if_neg (by simp [h])]
    have hq : 0 < X / Y := by
      rcases Nat.eq_zero_or_pos (X / Y) with e | e
      · rw [e, h] at h1; omega
      · exact e
    obtain ⟨q, hq'⟩ : ∃ q, X / Y = q + 1 := ⟨X / Y - 1, by omega⟩
    rw [hq'] at h1 ⊢
    have e : X - 1 = (Y - 1) + Y * q := by rw [Nat.mul_succ] at h1; omega
    rw [e, Nat.add_mul_div_left _ _ hY, Nat.div_eq_of_lt (by omega), Nat.zero_add]
  · rw [if_pos ⟨by simp, h⟩]
    generalize X / Y = q at h1
    have e : X - 1 = (X % Y - 1) + Y * q := by omega
    rw [e, Nat.add_mul_div_left _ _ hY, Nat.div_eq_of_lt (by omega), Nat.zero_add]
theorem flQ_le (p : Bool) (X Y : Nat) (hX : 0 < X) (hY : 0 < Y) : flQ p X false Y ≤ X := by
  cases p
  · rw [flQ_false]; exact Nat.div_le_self _ _
  · rw [← ceil_flQ X Y hX hY]
    have := Nat.div_le_self (X - 1) Y
    omega
theorem flQ_len (p : Bool) {xs : List Int} (hz : Limbs xs) (hl : xs.length ≤ 128) (Y : Nat) (hX : 0 < val xs) (hY : 0 < Y) : (lim (flQ p (val xs) false Y)).length ≤ 128 :=
  Nat.le_trans (lim_length_le (Nat.lt_of_le_of_lt (flQ_le p _ Y hX hY) (val_lt hz))) hl
theorem up_large (X k n : Nat) (hX : 0 < X) (hn : 32 * k ≤ n) : k < (lim (X * 2 ^ n)).length := by
  refine lim_length_gt ?_
  rw [R_pow]
  exact Nat.le_trans (Nat.pow_le_pow_right (by decide) hn) (Nat.le_mul_of_pos_left _ hX)
theorem norm_pos {xs : List Int} (hz : Limbs xs) (hn : Norm xs) (h : ¬ xs.length = 0) : 0 < val xs := by
  have := le_val hz hn (by omega)
  have h1 : 0 < 4294967296 ^ (xs.length - 1) := Nat.pow_pos (by omega)
  omega

/-- What BigShift answers. -/
def shS (g p : Bool) (X : Nat) (n : Int) : Bool := if g = true then (if X = 0 then false else if n < 0 then nz p (flQ p X false (2 ^ (min (-n) 4096).toNat)) else if 4096 < n then false else fitS p (X * 2 ^ n.toNat)) else false
def shL (g p : Bool) (X : Nat) (n : Int) : List Int := if g = true then (if X = 0 then [] else if n < 0 then lim (flQ p X false (2 ^ (min (-n) 4096).toNat)) else if 4096 < n then [] else fitL (X * 2 ^ n.toNat)) else []
def shC (g : Bool) (X : Nat) (n : Int) : Int := if g = true then (if X = 0 then 0 else if n < 0 then 0 else if 4096 < n then 3 else fitC (X * 2 ^ n.toNat)) else 1
end Go.Proofs.Ytipoafmabiahoaa
