import Derived.Test.YtfcoffllelgakaaDoorMDown
import Derived.Test.YtfcoffllelgakaaDoorMgRN
namespace Go.Proofs.YtfcoffllelgakaaDoor
open Go.RowKit
set_option linter.unusedVariables false
set_option linter.unusedSimpArgs false

theorem limb_at {xs : List Int} (h : Limbs xs) (k : Nat) (hk : k < xs.length) : (xs.getD k 0).toNat = val xs / 4294967296 ^ k % 4294967296 := by
  rw [drop_div h k (by omega), drop_cons_val]
  have := h.get k
  omega

/-- A binary digit of a number. -/
theorem bit_of {xs : List Int} (h : Limbs xs) (i : Nat) (hk : i / 32 < xs.length) : val xs / 2 ^ i % 2 = (xs.getD (i / 32) 0).toNat / 2 ^ (i % 32) % 2 := by
  have e : (2 : Nat) ^ i = 4294967296 ^ (i / 32) * 2 ^ (i % 32) := by
    rw [show (4294967296 : Nat) = 2 ^ 32 from by decide, ← Nat.pow_mul, ← Nat.pow_add]
    congr 1; omega
  rw [e, ← Nat.div_div_eq_div_mul, drop_div h _ (by omega), drop_cons_val]
  generalize (xs.getD (i / 32) 0).toNat = z
  generalize val (xs.drop (i / 32 + 1)) = T
  have hs : i % 32 < 32 := Nat.mod_lt _ (by decide)
  generalize i % 32 = s at hs
  have h1 : (4294967296 : Nat) = 2 ^ s * (2 * 2 ^ (31 - s)) := by
    rw [show (2 : Nat) * 2 ^ (31 - s) = 2 ^ (32 - s) from by rw [← Nat.pow_succ']; congr 1; omega, ← Nat.pow_add, show s + (32 - s) = 32 from by omega]
  rw [h1, Nat.mul_assoc, Nat.add_mul_div_left _ _ (Nat.two_pow_pos s), Nat.mul_assoc, Nat.add_mul_mod_self_left]
theorem bit_beyond {xs : List Int} (h : Limbs xs) (i : Nat) (hk : xs.length ≤ i / 32) : val xs / 2 ^ i % 2 = 0 := by
  rw [down_small h i hk]
theorem and_one (n : Nat) (hn : n < 4294967296) : bits .and .u32 (n : Int) 1 = ((n % 2 : Nat) : Int) := by
  have := u32_and_nat n 1 hn (by decide)
  rw [Nat.and_one_is_mod] at this
  exact this

set_option maxRecDepth 100000 in
theorem bitMag_any (v : Value) (xs : List Int) (i : Nat) (w : World) (hx : Rd w v xs) (hi : i ≤ 1099511627776) :
    Calls Tryd.prog 56 #[v, .int .i64 i] w fun e w' => e = .returned (.int .u32 ((val xs / 2 ^ i % 2 : Nat) : Int)) ∧ w' = w := by
  obtain ⟨a, cap, rfl, hl, hzx, hnx, hcx⟩ := hx
  clear hnx
  obtain ⟨q, hq⟩ : ∃ q, q = i / 32 := ⟨_, rfl⟩
  obtain ⟨s, hs⟩ : ∃ s, s = i % 32 := ⟨_, rfl⟩
  have hq' : (i : Int) / 32 = (q : Int) := by omega
  have hs' : (i : Int) % 32 = (s : Int) := by omega
  by_cases hql : xs.length ≤ q
  · rw [bit_beyond hzx i (by omega)]
    clear hcx hq hs
    have h2 : (xs.length : Int) ≤ (q : Int) := by omega
    go_enter Tryd.func56, Tryd.ntmps56
    go_wp2
    go_ret
    exact ⟨rfl, rfl⟩
  · obtain ⟨b, off, rfl, hb, hcell⟩ := hcx (by omega)
    have hce : w.cell? ⟨b, off + q, none⟩ = some (.int .u32 (xs.getD q 0)) := hcell q (by omega)
    have hB := bit_of hzx i (by omega)
    rw [← hq, ← hs] at hB
    have hXb := hzx.get q
    obtain ⟨X, hX⟩ : ∃ X : Nat, xs.getD q 0 = (X : Int) := ⟨(xs.getD q 0).toNat, by omega⟩
    rw [hX] at hB hce hXb
    rw [Int.toNat_natCast] at hB
    rw [hB]
    have hlt : X / 2 ^ s < 4294967296 := Nat.lt_of_le_of_lt (Nat.div_le_self _ _) (by omega)
    have e1 : (X : Int) / 2 ^ s = ((X / 2 ^ s : Nat) : Int) := by rw [Int.natCast_ediv, Int.natCast_pow]; rfl
    obtain ⟨Y, hY⟩ : ∃ Y, Y = X / 2 ^ s := ⟨_, rfl⟩
    rw [← hY] at hlt e1 ⊢
    have h1 := and_one Y hlt
    obtain ⟨Z, hZ⟩ : ∃ Z, Z = Y % 2 := ⟨_, rfl⟩
    rw [← hZ] at h1 ⊢
    have h2 : (q : Int) < (xs.length : Int) := by omega
    have h3 : s < 32 := by omega
    clear hcell hcx hB hX hq hs hY hZ
    go_enter Tryd.func56, Tryd.ntmps56
    go_wp2
    go_ret
    exact ⟨rfl, rfl⟩

/-- A binary digit laid where there is none. -/
theorem val_set (zs : List Int) (k : Nat) (z : Int) (t : Nat) (hk : k < zs.length) (hz : z = zs.getD k 0 + t) (h0 : 0 ≤ zs.getD k 0) : val (zs.set k z) = val zs + 4294967296 ^ k * t := by
  have h1 := val_split zs k hk
  have h2 := val_split (zs.set k z) k (by simpa using hk)
  rw [take_set_lt, getD_set_self _ _ _ hk, List.drop_set_of_lt (by omega)] at h2
  rw [h2, h1, hz, show (zs.getD k 0 + (t : Int)).toNat = (zs.getD k 0).toNat + t from by omega]
  generalize val (zs.drop (k + 1)) = D
  rw [show (zs.getD k 0).toNat + t + 4294967296 * D = ((zs.getD k 0).toNat + 4294967296 * D) + t from by omega, Nat.mul_add]
  omega
theorem lay_bit {zs : List Int} (h : Limbs zs) (i c : Nat) (hk : i / 32 < zs.length) (hv : val zs = c * 2 ^ (i + 1)) :
    ∃ z : Nat, zs.getD (i / 32) 0 = (z : Int) ∧ bits .or .u32 (z : Int) ((2 ^ (i % 32) : Nat) : Int) = ((z + 2 ^ (i % 32) : Nat) : Int) ∧ z + 2 ^ (i % 32) < 4294967296 ∧ val (zs.set (i / 32) ((z + 2 ^ (i % 32) : Nat) : Int)) = val zs + 2 ^ i := by
  have hb := h.get (i / 32)
  have hla := limb_at h (i / 32) hk
  have hs : i % 32 < 32 := Nat.mod_lt _ (by decide)
  have e : (2 : Nat) ^ (i + 1) = 4294967296 ^ (i / 32) * 2 ^ (i % 32 + 1) := by
    rw [show (4294967296 : Nat) = 2 ^ 32 from by decide, ← Nat.pow_mul, ← Nat.pow_add]
    congr 1; omega
  have e0 : (2 : Nat) ^ i = 4294967296 ^ (i / 32) * 2 ^ (i % 32) := by
    rw [show (4294967296 : Nat) = 2 ^ 32 from by decide, ← Nat.pow_mul, ← Nat.pow_add]
    congr 1; omega
  rw [hv, e, Nat.mul_left_comm, Nat.mul_div_cancel_left _ (Nat.pow_pos (by decide))] at hla
  refine ⟨(zs.getD (i / 32) 0).toNat, by omega, ?_⟩
  have e2 : (4294967296 : Nat) = 2 ^ (i % 32 + 1) * 2 ^ (31 - i % 32) := by rw [← Nat.pow_add, show i % 32 + 1 + (31 - i % 32) = 32 from by omega]
  have hd : c * 2 ^ (i % 32 + 1) % 4294967296 = 2 ^ (i % 32 + 1) * (c % 2 ^ (31 - i % 32)) := by
    rw [e2, Nat.mul_comm c, Nat.mul_mod_mul_left]
  have hlt : c % 2 ^ (31 - i % 32) < 2 ^ (31 - i % 32) := Nat.mod_lt _ (Nat.two_pow_pos _)
  have hp := Nat.two_pow_add_eq_or_of_lt (i := i % 32 + 1) (b := 2 ^ (i % 32)) (Nat.pow_lt_pow_right (by decide) (by omega)) (c % 2 ^ (31 - i % 32))
  have hle : 2 ^ (i % 32 + 1) * (c % 2 ^ (31 - i % 32)) + 2 ^ (i % 32 + 1) ≤ 4294967296 := by
    rw [e2, ← Nat.mul_succ]; exact Nat.mul_le_mul_left _ hlt
  have hpp : (2 : Nat) ^ (i % 32 + 1) = 2 * 2 ^ (i % 32) := by rw [Nat.pow_succ, Nat.mul_comm]
  have hpos := Nat.two_pow_pos (i % 32)
  have hz : (zs.getD (i / 32) 0).toNat = 2 ^ (i % 32 + 1) * (c % 2 ^ (31 - i % 32)) := by rw [hla, hd]
  have hlt2 : (zs.getD (i / 32) 0).toNat + 2 ^ (i % 32) < 4294967296 := by rw [hz]; omega
  refine ⟨?_, hlt2, ?_⟩
  · rw [u32_or_nat _ _ (by omega) (by omega), hz, ← hp]
  · rw [val_set zs (i / 32) _ (2 ^ (i % 32)) hk (by omega) hb.1, ← e0]

theorem div_step (T B bit : Nat) (hB : 0 < B) (hb : bit ≤ 1) :
    (2 * T + bit) % B = (if B ≤ 2 * (T % B) + bit then 2 * (T % B) + bit - B else 2 * (T % B) + bit) ∧ (2 * T + bit) / B = 2 * (T / B) + (if B ≤ 2 * (T % B) + bit then 1 else 0) := by
  have h1 := Nat.div_add_mod T B
  have h2 := Nat.mod_lt T hB
  generalize T / B = Q at h1
  generalize T % B = r at h1 h2
  have e : 2 * T + bit = B * (2 * Q) + (2 * r + bit) := by rw [← h1, Nat.mul_add, Nat.mul_left_comm]; omega
  split
  · rename_i h
    have e2 : 2 * T + bit = (2 * r + bit - B) + B * (2 * Q + 1) := by rw [e, Nat.mul_succ]; omega
    have hlt : 2 * r + bit - B < B := by omega
    rw [e2, Nat.add_mul_mod_self_left, Nat.add_mul_div_left _ _ hB, Nat.mod_eq_of_lt hlt, Nat.div_eq_of_lt hlt]
    omega
  · rename_i h
    have e2 : 2 * T + bit = (2 * r + bit) + B * (2 * Q) := by omega
    have hlt : 2 * r + bit < B := by omega
    rw [e2, Nat.add_mul_mod_self_left, Nat.add_mul_div_left _ _ hB, Nat.mod_eq_of_lt hlt, Nat.div_eq_of_lt hlt]
    omega
theorem half_step (A i : Nat) : A / 2 ^ i = 2 * (A / 2 ^ (i + 1)) + A / 2 ^ i % 2 := by
  rw [Nat.pow_succ, ← Nat.div_div_eq_div_mul]; omega
end Go.Proofs.YtfcoffllelgakaaDoor
