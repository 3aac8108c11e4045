import Derived.Test.YthgpacajeaphhaaZvP
import Derived.Test.YthgpacajeaphhaaMg5
namespace Go.Proofs.Ythgpacajeaphhaa
open Go.RowKit
set_option linter.unusedVariables false
set_option linter.unusedSimpArgs false

theorem mulZS_any (p q : Bool) (v u : Value) (xs ys : List Int) (w : World) (hx : Rd w v xs) (hy : Rd w u ys) :
    Calls Try.prog 19 #[.agg #[.bool p, v], .agg #[.bool q, u]] w fun e w' => ∃ a c, e = .returned (.tuple #[.agg #[.bool (zS (okB p xs && okB q ys) (iv p xs * iv q ys)), .slice a (zL (okB p xs && okB q ys) (iv p xs * iv q ys)).length c], .int .i64 (zC (okB p xs && okB q ys) (iv p xs * iv q ys))]) ∧ Own w' w.heap.size (.slice a (zL (okB p xs && okB q ys) (iv p xs * iv q ys)).length c) (zL (okB p xs && okB q ys) (iv p xs * iv q ys)) ∧ Below w.heap.size w w' := by
  have h := bigMulS_any p q v u xs ys w hx hy
  rw [← zS_sgn, ← zL_sgn _ (p != q), ← zC_sgn _ (p != q), mul_sgn] at h
  exact h
theorem sgn_nz (p : Bool) (n : Nat) : sgn (nz p n) n = sgn p n := by
  unfold sgn nz
  by_cases h : 0 < n
  · rw [decide_eq_true h, Bool.and_true]
  · obtain rfl : n = 0 := by omega
    simp
theorem iv_lim (p : Bool) (n : Nat) : iv (nz p n) (lim n) = sgn p n := by unfold iv; rw [val_lim, sgn_nz]
theorem len_of_le {n m : Nat} (h : n ≤ m) (hm : (lim m).length ≤ 128) : (lim n).length ≤ 128 := by
  rcases Nat.lt_or_ge 128 (lim n).length with h1 | h1
  · rcases Nat.lt_or_ge n (4294967296 ^ 128) with h2 | h2
    · have := lim_length_le h2; omega
    · have := lim_length_gt (Nat.le_trans h2 h); omega
  · exact h1
theorem fl_mul (p q : Bool) (X Y : Nat) (hY : 0 < Y) : sgn (p != q) (flQ p X q Y) * sgn q Y + sgn q (flR p X q Y) = sgn p X := by
  have h1 := Nat.div_add_mod X Y
  have h2 := Nat.mod_lt X hY
  have h3 : ((X / Y : Nat) : Int) * (Y : Int) + ((X % Y : Nat) : Int) = (X : Int) := by
    rw [Int.mul_comm]; exact_mod_cast h1
  unfold flQ flR
  by_cases h : p ≠ q ∧ X % Y ≠ 0
  · rw [if_pos h, if_pos h]
    have e1 : ((X / Y + 1 : Nat) : Int) * (Y : Int) = ((X / Y : Nat) : Int) * (Y : Int) + (Y : Int) := by
      rw [show ((X / Y + 1 : Nat) : Int) = ((X / Y : Nat) : Int) + 1 from by omega, Int.add_mul, Int.one_mul]
    unfold sgn
    cases p <;> cases q <;> simp_all [Int.neg_mul, Int.mul_neg] <;> omega
  · rw [if_neg h, if_neg h]
    unfold sgn
    cases p <;> cases q <;> simp_all [Int.neg_mul, Int.mul_neg] <;> omega
theorem dv_all {p q : Bool} {xs ys : List Int} (hx : Limbs xs) (hy : Limbs ys) (g1 : okB p xs = true) (g2 : okB q ys = true) (hl : ¬ ys.length = 0) :
    dmC p q xs ys = 0 ∧ okB (dmS1 p q xs ys) (dmL1 p q xs ys) = true ∧ okB (dmS2 p q xs ys) (dmL2 p q xs ys) = true ∧ iv (dmS1 p q xs ys) (dmL1 p q xs ys) * iv q ys + iv (dmS2 p q xs ys) (dmL2 p q xs ys) = iv p xs ∧
    (cmpA (dmS2 p q xs ys) (dmL2 p q xs ys) false (lim 0) = 0 ∨ cmpA (dmS2 p q xs ys) (dmL2 p q xs ys) false (lim 0) = 1 ∧ cmpA q ys false (lim 0) = 1 ∨ cmpA (dmS2 p q xs ys) (dmL2 p q xs ys) false (lim 0) = -1 ∧ cmpA q ys false (lim 0) = -1) ∧ cmpA false (dmL2 p q xs ys) false ys = -1 := by
  have hok : dmOk p q xs ys = true := by unfold dmOk; rw [g1, g2]; simp; exact fun e => hl (by rw [e]; rfl)
  obtain ⟨e1, e2, e3, e4, e5⟩ := dm_yes hok
  rw [e1, e2, e3, e4, e5]
  have hY : 0 < val ys := ok_pos hy g2 (by omega)
  have lx : (lim (val xs)).length ≤ 128 := by rw [lim_val hx (okB_norm g1).1]; exact (okB_norm g1).2
  have ly : (lim (val ys)).length ≤ 128 := by rw [lim_val hy (okB_norm g2).1]; exact (okB_norm g2).2
  have hR := flR_lt p q (X := val xs) hY
  have l1 := len_of_le (flQ_le2 p q (X := val xs) hY) lx
  have l2 := len_of_le (Nat.le_of_lt hR) ly
  have k0 : okB false (lim 0) = true := by rw [lim_zero]; rfl
  have k2 := okB_limP q _ l2
  have k3 : okB false (lim (flR p (val xs) q (val ys))) = true := by
    have := okB_limP false _ l2
    unfold nz at this
    rwa [Bool.false_and] at this
  have k4 : okB false ys = true := by
    have h := g2
    unfold okB at h ⊢
    rw [if_neg hl] at h ⊢
    exact h
  refine ⟨rfl, okB_limP _ _ l1, k2, ?_, ?_, ?_⟩
  · rw [iv_lim, iv_lim]; exact fl_mul p q (val xs) (val ys) hY
  · unfold cmpA
    rw [if_pos ⟨k2, k0⟩, if_pos ⟨g2, k0⟩, lim_zero]
    unfold cmpR cmpN
    rw [val_lim]
    generalize flR p (val xs) q (val ys) = R
    unfold nz
    by_cases h0 : R = 0
    · subst h0; left; simp [val]
    · right
      have : 0 < R := by omega
      cases q
      · left; simp [val]; omega
      · right; simp [val]; omega
  · unfold cmpA
    rw [if_pos ⟨k3, k4⟩]
    unfold cmpR cmpN
    rw [val_lim]
    simp [hR]
end Go.Proofs.Ythgpacajeaphhaa
