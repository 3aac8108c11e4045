import Derived.Test.YtfcoffllelgakaaDoorMulS
namespace Go.Proofs.YtfcoffllelgakaaDoor
open Go.RowKit
set_option linter.unusedVariables false
set_option linter.unusedSimpArgs false

theorem val_zeros_append (k : Nat) (ys : List Int) : val (List.replicate k 0 ++ ys) = 4294967296 ^ k * val ys := by
  rw [val_append, val_zero_of (by intro j; simp [List.getD, List.getElem?_replicate]; split <;> rfl)]; simp
theorem shl_val (m n : Nat) : 4294967296 ^ (n / 32) * (m * 2 ^ (n % 32)) = m * 2 ^ n := by
  have : (2 : Nat) ^ n = 2 ^ (32 * (n / 32)) * 2 ^ (n % 32) := by rw [← Nat.pow_add]; congr 1; omega
  rw [this, Nat.pow_mul, show (2 : Nat) ^ 32 = 4294967296 from by decide]
  rw [← Nat.mul_assoc, ← Nat.mul_assoc, Nat.mul_comm m]
theorem pow_mod32 (n : Nat) : 1 ≤ 2 ^ (n % 32) ∧ 2 ^ (n % 32) < 4294967296 := by
  have : (2 : Nat) ^ (n % 32) ≤ 2 ^ 31 := Nat.pow_le_pow_right (by decide) (by omega)
  have h2 : (2 : Nat) ^ 31 = 2147483648 := by decide
  have h3 := Nat.two_pow_pos (n % 32)
  omega

theorem pow_wrap (n : Nat) : ((2 : Int) ^ (n % 32) % 4294967296) = ((2 ^ (n % 32) : Nat) : Int) := by
  have h := pow_mod32 n
  have e : ((2 ^ (n % 32) : Nat) : Int) = (2 : Int) ^ (n % 32) := Int.natCast_pow 2 _
  rw [← e]
  generalize (2 : Nat) ^ (n % 32) = p at h
  omega

set_option maxHeartbeats 1000000 in
set_option maxRecDepth 100000 in
theorem shlMag_any (v : Value) (zs : List Int) (n : Nat) (w : World) (hr : Rd w v zs) (hl : zs.length ≤ 1048575) (hn : n ≤ 1048576) :
    Calls Tryd.prog 53 #[v, .int .i64 n] w fun e w' => ∃ a c, e = .returned (.slice a (lim (val zs * 2 ^ n)).length c) ∧ Own w' w.heap.size (.slice a (lim (val zs * 2 ^ n)).length c) (lim (val zs * 2 ^ n)) ∧ Below w.heap.size w w' := by
  have hr' := hr
  obtain ⟨a, cap, rfl, _, hz, hn0, hc⟩ := hr
  by_cases h0 : zs.length = 0
  · have e0 : lim (val zs * 2 ^ n) = [] := by
      have : zs = [] := List.eq_nil_of_length_eq_zero h0
      subst this; simp [val, lim_zero]
    rw [e0]
    clear hc e0
    go_enter Tryd.func53, Tryd.ntmps53
    go_wp2
    go_ret
    exact ⟨_, _, rfl, Own.empty w, (Below.refl _ _).alloc (Nat.le_refl _) _⟩
  · obtain ⟨hp1, hp2⟩ := pow_mod32 n
    have hlen : (lim (val zs * 2 ^ (n % 32))).length ≤ zs.length + 1 := by
      refine lim_length_le ?_
      rw [Nat.pow_succ]
      exact Nat.mul_lt_mul'' (val_lt hz) hp2
    have hM := fun W u (h1 : Rd W (.slice a zs.length cap) zs) (h2 : Rd W u [((2 ^ (n % 32) : Nat) : Int)]) => mulMag_any (.slice a zs.length cap) u zs [((2 ^ (n % 32) : Nat) : Int)] W h1 h2 (by omega) (by simp)
    have e1 : val [((2 ^ (n % 32) : Nat) : Int)] = 2 ^ (n % 32) := by simp only [val]; omega
    simp only [e1] at hM
    have hT := fun W v L (hr : Rd W v L) (he : val L = val zs * 2 ^ n) => he ▸ trimS_any v L W hr
    have hv : val (List.replicate (n / 32) 0 ++ lim (val zs * 2 ^ (n % 32))) = val zs * 2 ^ n := by
      rw [val_zeros_append, val_lim, shl_val]
    generalize hQ : lim (val zs * 2 ^ n) = Q at hT ⊢
    generalize hR : lim (val zs * 2 ^ (n % 32)) = R at hM hlen hv
    generalize hp : (2 : Nat) ^ (n % 32) = p at hM hp1 hp2
    obtain ⟨i0, hi, hz0, hz1, hz2⟩ := info_parts Tryd.info48
    clear hc hn0 hQ hR e1
    go_enter Tryd.func53, Tryd.ntmps53
    go_wp2_with (at_make; refine wpList_make_full _ rfl _ _ 22 rfl w.heap.size 48 i0 (.int .u32 0) 1 Tryd.underlying22 hi hz0 hz1 .i64 .i64 _ _ (n / 32) rfl rfl (by go_num) (by go_num) (by rw [hz2]; omega) (by unfold maxLen; omega) (Nat.le_refl _) ?_; intro w1 hown hgrow)
    have hO : Own w1 w.heap.size _ (List.replicate (n / 32) 0) := Own.made (by omega) hown
    have hB : Below w.heap.size w w1 := (Below.refl _ _).grown hgrow (Nat.le_refl _) (by intro k h; cases h)
    clear hown hgrow hi hz0 hz1 hz2
    have ep : ((2 : Int) ^ (n % 32) % 4294967296) = (p : Int) := by rw [← hp]; exact pow_wrap n
    rw [ep]
    have hm := hM (w1.alloc (Obj.cells #[.int .u32 (p : Int)] 48)) (.slice (some ⟨w1.heap.size, 0, none⟩) 1 1) ((hr'.keep hB).alloc _) (Rd.one w1 w1.heap.size rfl 48 (by omega) (by omega))
    refine hm.mono ?_
    rintro e w2 ⟨a2, c2, rfl, hO2, hB2⟩
    have hB3 := below_of_alloc hB2
    have hOk := hO.keep hB3
    have hB13 := hB.trans (hB3.mono hB.size)
    clear hM ep hm
    go_wp2_with (at_builtin; refine wpList_append_rd rfl _ _ 22 rfl Tryd.underlying22 w.heap.size _ _ (List.replicate (n / 32) 0) R rfl rfl hOk hO2.rd (by simp; omega) hB13.size ?_; intro a3 c3 w3 hO3 hB4; generalize List.replicate (n / 32) 0 ++ R = M at hO3 hv ⊢)
    refine (hT _ _ M hO3.rd hv).mono ?_
    rintro e w4 ⟨a4, c4, rfl, hO4, hB5⟩
    clear hT
    have hB6 := hB13.trans hB4
    go_wp2
    go_ret
    exact ⟨a4, c4, rfl, hO4.mono hB6.size, hB6.trans (hB5.mono hB6.size)⟩
end Go.Proofs.YtfcoffllelgakaaDoor
