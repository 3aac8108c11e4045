import Derived.Test.YthgpacajeaphhaaLimOne
import Derived.Test.YthgpacajeaphhaaTimes
import Derived.Test.YthgpacajeaphhaaLen64
namespace Go.Proofs.Ythgpacajeaphhaa
open Go.RowKit
set_option linter.unusedVariables false
set_option linter.unusedSimpArgs false


theorem and_bit (n j : Nat) (hn : (n : Int) ≤ 18446744073709551615) : bits BinOp.and IntKind.u64 ((n : Int) / 2 ^ j) 1 = ((n / 2 ^ j % 2 : Nat) : Int) := by
  have e : (n : Int) / 2 ^ j = ((n / 2 ^ j : Nat) : Int) := by rw [Int.natCast_ediv]; simp
  have h : n / 2 ^ j ≤ n := Nat.div_le_self _ _
  rw [e, show (1 : Int) = ((1 : Nat) : Int) from rfl, u64_and_nat _ _ (by omega) (by omega), nat_mask1]

set_option maxHeartbeats 2000000 in
set_option maxRecDepth 100000 in
theorem power_any (v : Value) (zs : List Int) (n : Nat) (w : World) (hr : Rd w v zs) (hlz : zs.length ≤ 1000) (hn : (n : Int) ≤ 18446744073709551615) (hb : ∀ k, k ≤ n → (lim (val zs ^ k)).length ≤ 1000) :
    Calls Try.prog 56 #[v, .int .u64 n] w fun e w' => ∃ a c, e = .returned (.slice a (lim (val zs ^ n)).length c) ∧ Own w' w.heap.size (.slice a (lim (val zs ^ n)).length c) (lim (val zs ^ n)) ∧ Below w.heap.size w w' := by
  have hr0 := hr
  obtain ⟨a, cap, rfl, hl, hz, hn0, hc⟩ := hr
  clear hc
  obtain ⟨P, hP⟩ : ∃ P : Nat → List Int, P = fun k => lim (val zs ^ k) := ⟨_, rfl⟩
  have hT := fun k u (W : World) (ho : Rd W u (P k)) (h2 : 2 * k ≤ n) => times_any u u (P k) (P k) W ho ho (by subst hP; exact Nat.le_trans (hb k (by omega)) (by omega)) (by subst hP; exact Nat.le_trans (hb k (by omega)) (by omega))
  have hM := fun k u (W : World) (ho : Rd W u (P k)) (hz : Rd W (.slice a zs.length cap) zs) (h2 : k ≤ n) => times_any u (.slice a zs.length cap) (P k) zs W ho hz (by subst hP; exact Nat.le_trans (hb k h2) (by omega)) (by omega)
  have e1 : ∀ k, val (P k) = val zs ^ k := fun k => by subst hP; exact val_lim _
  have e2 : ∀ k, lim (val (P k) * val (P k)) = P (2 * k) := fun k => by rw [e1]; subst hP; simp only; rw [← Nat.pow_add, Nat.two_mul]
  have e3 : ∀ k, lim (val (P k) * val zs) = P (k + 1) := fun k => by rw [e1]; subst hP; simp only; rw [Nat.pow_succ]
  have e4 : lim (val zs ^ n) = P n := by subst hP; rfl
  have e5 : P 0 = [1] := by subst hP; simp only [Nat.pow_zero]; exact lim_one
  simp only [e2] at hT
  simp only [e3] at hM
  rw [e4]
  have hL := len64_any n (w.alloc (Obj.cells #[.int .u32 1] 49)) (by omega) hn
  rw [Int.toNat_natCast] at hL
  have hbl := bitLen_high n (by omega)
  obtain ⟨l, hl1⟩ : ∃ l, l = Lib.bitLen n := ⟨_, rfl⟩
  rw [← hl1] at hL hbl
  have hl64 : l ≤ 64 := by
    rw [hl1]
    rcases Nat.lt_or_ge 64 (Lib.bitLen n) with h | h
    · have h1 := bitLen_low n (by rcases Nat.eq_zero_or_pos n with e | e; (subst e; rw [bitLen_zero] at h; omega); exact e) (by omega)
      have h2 : 2 ^ 65 ≤ 2 ^ Lib.bitLen n := Nat.pow_le_pow_right (by omega) h
      have h3 : (2 : Nat) ^ 65 = 36893488147419103232 := by decide
      omega
    · exact h
  have hq0 : n / 2 ^ l = 0 := Nat.div_eq_of_lt hbl
  have HB : Hid (∀ j, n / 2 ^ j = 2 * (n / 2 ^ (j + 1)) + n / 2 ^ j % 2) := fun j => by
    have : n / 2 ^ (j + 1) = n / 2 ^ j / 2 := by rw [Nat.pow_succ, Nat.div_div_eq_div_mul]
    rw [this]; omega
  clear hP e1 e2 e3 e4 hl1 hbl hb
  go_enter Try.func56, Try.ntmps56
  go_wp2_with fail
  refine hL.mono ?_
  rintro e w1 ⟨rfl, rfl⟩
  clear hL
  go_wp2
  go_loopw [5, 6] (fun o i wr => ∃ (k : Nat) (ao : Option Addr) (co : Nat), k ≤ l ∧ i = .int .i64 ((k : Int) - 1) ∧ o = .slice ao (P (n / 2 ^ k)).length co ∧ Own wr w.heap.size (.slice ao (P (n / 2 ^ k)).length co) (P (n / 2 ^ k)) ∧ Below w.heap.size w wr) (fun _ i _ => (intOf i + 1).toNat)
  case atStart => exact ⟨l, _, _, Nat.le_refl _, by go_num, by rw [hq0, e5]; rfl, by rw [hq0, e5]; exact Own.lit1 w w.heap.size rfl (by omega) (by omega), (Below.refl _ _).alloc (Nat.le_refl _) _⟩
  case round =>
    obtain ⟨k, ao, co, hk, rfl, rfl, hO, hBr⟩ := hrel
    by_cases hk0 : k = 0
    · subst hk0
      have hn1 : n / 2 ^ 0 = n := by simp
      rw [hn1] at hO ⊢
      clear hT hM hn1
      go_wp2
      go_ret
      exact ⟨ao, co, rfl, hO, hBr⟩
    · obtain ⟨j, rfl⟩ : ∃ j, k = j + 1 := ⟨k - 1, by omega⟩
      have hji : ((j + 1 : Nat) : Int) - 1 = (j : Int) := by omega
      rw [hji]
      have hq := HB.out j
      have hle : n / 2 ^ j ≤ n := Nat.div_le_self _ _
      have hj63 : j ≤ 63 := by omega
      go_wp2_with fail
      refine (hT _ _ _ hO.rd (by omega)).mono ?_
      rintro e w2 ⟨a2, c2, rfl, hO2, hB2⟩
      have hB2' := hBr.trans (hB2.mono hBr.size)
      have hO2' := hO2.mono hBr.size
      have hq' : n / 2 ^ j % 2 = 0 ∨ n / 2 ^ j % 2 = 1 := by omega
      have hand := and_bit n j hn
      clear hT hB2 hO2 hO
      rcases hq' with hq' | hq'
      · have hf : (bits BinOp.and IntKind.u64 ((n : Int) / 2 ^ j) 1 == 1) = false := by rw [hand, hq']; rfl
        have HQ : Hid (2 * (n / 2 ^ (j + 1)) = n / 2 ^ j) := by show _ = _; omega
        clear hand hq hq' hM hle
        rw [HQ.out] at hO2' ⊢
        go_wp2
        go_roundw
        case rel => exact ⟨j, a2, c2, by omega, by go_num, rfl, hO2', hB2'⟩
        case measure => first | (simp [intOf]; done) | (simp [intOf]; omega)
      · have hf : (bits BinOp.and IntKind.u64 ((n : Int) / 2 ^ j) 1 == 1) = true := by rw [hand, hq']; rfl
        have HQ : Hid (2 * (n / 2 ^ (j + 1)) + 1 = n / 2 ^ j) := by show _ = _; omega
        have hM1 := hM (2 * (n / 2 ^ (j + 1))) (.slice a2 (P (2 * (n / 2 ^ (j + 1)))).length c2) w2 hO2'.rd (hr0.keep hB2') (by omega)
        rw [HQ.out] at hM1
        clear hand hq hq' hM hle
        go_wp2_with fail
        refine hM1.mono ?_
        rintro e w3 ⟨a3, c3, rfl, hO3, hB3⟩
        clear hM1
        go_wp2
        go_roundw
        case rel => exact ⟨j, a3, c3, by omega, by go_num, rfl, hO3.mono hB2'.size, hB2'.trans (hB3.mono hB2'.size)⟩
        case measure => first | (simp [intOf]; done) | (simp [intOf]; omega)
end Go.Proofs.Ythgpacajeaphhaa
