import Derived.Test.YtgbkniliojpejaaDoorBrdM
namespace Go.Proofs.YtgbkniliojpejaaDoor
open Go.RowKit
set_option linter.unusedVariables false
set_option linter.unusedSimpArgs false

theorem pow_boundR {b k : Nat} (hb : 2 ≤ b) (h : b ^ k < 4294967296) : k ≤ 31 := by
  rcases Nat.lt_or_ge 31 k with h1 | h1
  · exfalso
    have h2 : (2 : Nat) ^ 32 ≤ 2 ^ k := Nat.pow_le_pow_right (by decide) h1
    have h3 : 2 ^ k ≤ b ^ k := Nat.pow_le_pow_left hb k
    have h4 : (2 : Nat) ^ 32 = 4294967296 := by decide
    omega
  · exact h1
set_option maxHeartbeats 1000000 in
set_option maxRecDepth 100000 in
theorem limbOfDigitsR_any (b : Nat) (w : World) (hb : 2 ≤ b) (hb2 : b ≤ 36) :
    Calls Tryd.prog 28 #[.int .u32 b] w fun e w' => ∃ k u : Nat, e = .returned (.tuple #[.int .u32 u, .int .i64 k]) ∧ u = b ^ k ∧ 1 ≤ k ∧ u < 4294967296 ∧ w' = w := by
  have hdz : (b : Int) ≠ 0 := by omega
  have hdv : Int.tdiv 4294967295 (b : Int) = ((4294967295 / b : Nat) : Int) := by rw [show (4294967295 : Int) = ((4294967295 : Nat) : Int) from rfl, ← Int.ofNat_tdiv]
  obtain ⟨q, hq⟩ : ∃ q, 4294967295 / b = q := ⟨_, rfl⟩
  have hqb : q * b ≤ 4294967295 := by rw [← hq]; exact Nat.div_mul_le_self _ _
  have hqd : (4294967295 : Int) / (b : Int) = (q : Int) := by rw [← hq]; rfl
  rw [hq] at hdv
  have hqm : (q : Int) % 4294967296 = (q : Int) := by
    have : q ≤ 4294967295 := by rw [← hq]; exact Nat.div_le_self _ _
    omega
  clear hq
  go_enter Tryd.func28, Tryd.ntmps28
  go_wp2
  go_loopw [4, 5] (fun u k wr => ∃ kk uu : Nat, u = .int .u32 uu ∧ k = .int .i64 kk ∧ uu = b ^ kk ∧ 1 ≤ kk ∧ uu < 4294967296 ∧ wr = w) (fun u _ _ => 4294967296 - (intOf u).toNat)
  case atStart => exact ⟨1, b, rfl, rfl, by rw [Nat.pow_one], by omega, by omega, rfl⟩
  case round =>
    obtain ⟨kk, uu, rfl, rfl, hu, hk1, hul, rfl⟩ := hrel
    have hkb := pow_boundR hb (hu ▸ hul)
    have HU : Hid (uu = b ^ kk) := hu
    have hup : 1 ≤ uu := by rw [hu]; exact Nat.le_trans Nat.one_le_two_pow (Nat.pow_le_pow_left hb kk)
    clear hu
    by_cases hc : (uu : Int) ≤ (q : Int)
    · have hm : uu * b ≤ q * b := Nat.mul_le_mul_right _ (by omega)
      have hm2 : uu * 2 ≤ uu * b := Nat.mul_le_mul_left _ hb
      obtain ⟨ub, hub⟩ : ∃ ub, uu * b = ub := ⟨_, rfl⟩
      rw [hub] at hm hm2
      have hubz : (uu : Int) * (b : Int) = (ub : Int) := by rw [← hub, Int.natCast_mul]
      have HP : Hid (ub = b ^ (kk + 1)) := by show _ = _; rw [← hub, HU.out, Nat.pow_succ]
      clear hub
      go_wp2
      go_roundw
      case rel => exact ⟨kk + 1, ub, by go_num, by go_num, HP.out, by omega, by omega, by first | rfl | trivial⟩
      case measure => simp [intOf]; omega
    · go_wp2
      refine bodyPost_ret (v := .tuple #[.int .u32 uu, .int .i64 kk]) (by simp [results, Tryd.results28, go_sem]) rfl ?_
      exact ⟨kk, uu, rfl, HU.out, hk1, hul, rfl⟩
end Go.Proofs.YtgbkniliojpejaaDoor
