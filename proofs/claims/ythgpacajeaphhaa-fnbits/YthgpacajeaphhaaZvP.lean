import Derived.Test.YthgpacajeaphhaaBAdd
import Derived.Test.YthgpacajeaphhaaBSub
import Derived.Test.YthgpacajeaphhaaBMul
import Derived.Test.YthgpacajeaphhaaBCmp
import Derived.Test.YthgpacajeaphhaaCmpR
import Derived.Test.YthgpacajeaphhaaPwP
namespace Go.Proofs.Ythgpacajeaphhaa
open Go.RowKit
set_option linter.unusedVariables false
set_option linter.unusedSimpArgs false

/-- The integer of a sign and an absolute value. -/
def sgn (p : Bool) (n : Nat) : Int := if p = true then -(n : Int) else n
def iv (p : Bool) (xs : List Int) : Int := sgn p (val xs)
def zS (g : Bool) (z : Int) : Bool := opS g (decide (z < 0)) z.natAbs
def zL (g : Bool) (z : Int) : List Int := opL g z.natAbs
def zC (g : Bool) (z : Int) : Int := opC g z.natAbs
theorem sgn_abs (p : Bool) (n : Nat) : (sgn p n).natAbs = n := by unfold sgn; split <;> omega
theorem nz_sgn (p : Bool) (n : Nat) : nz (decide (sgn p n < 0)) n = nz p n := by
  unfold nz sgn
  cases p
  · simp; omega
  · simp
theorem fitS_sgn (p : Bool) (n : Nat) : fitS (decide (sgn p n < 0)) n = fitS p n := by
  unfold fitS
  rw [nz_sgn]
theorem zS_sgn (g p : Bool) (n : Nat) : zS g (sgn p n) = opS g p n := by
  unfold zS opS
  rw [sgn_abs, fitS_sgn]
theorem zL_sgn (g p : Bool) (n : Nat) : zL g (sgn p n) = opL g n := by unfold zL; rw [sgn_abs]
theorem zC_sgn (g p : Bool) (n : Nat) : zC g (sgn p n) = opC g n := by unfold zC; rw [sgn_abs]
theorem sumR_sgn (p : Bool) (x : Nat) (q : Bool) (y : Nat) : sgn (sumR p x q y).1 (sumR p x q y).2 = sgn p x + sgn q y := by
  by_cases h : p = q
  · subst h
    rw [sumR_same]
    unfold sgn
    split <;> simp <;> omega
  · by_cases h1 : y ≤ x
    · rw [sumR_ge h h1]
      unfold sgn
      cases p <;> cases q <;> simp_all <;> omega
    · rw [sumR_lt h (by omega)]
      unfold sgn
      cases p <;> cases q <;> simp_all <;> omega
theorem mul_sgn (p : Bool) (x : Nat) (q : Bool) (y : Nat) : sgn (p != q) (x * y) = sgn p x * sgn q y := by
  unfold sgn
  cases p <;> cases q <;> simp [Int.neg_mul, Int.mul_neg]
theorem not_sgn (q : Bool) (y : Nat) : sgn (!q) y = - sgn q y := by unfold sgn; cases q <;> simp
theorem zC_two (z : Int) : zC true z = 0 ∨ zC true z = 3 := by
  unfold zC opC fitC
  rw [if_pos rfl]
  split
  · exact .inl rfl
  · exact .inr rfl
theorem zC_no (z : Int) : zC false z = 1 := rfl
theorem z_fit {z : Int} (h : zC true z = 0) : (lim z.natAbs).length ≤ 128 := by
  unfold zC opC fitC at h
  rw [if_pos rfl] at h
  by_cases h1 : (lim z.natAbs).length ≤ 128
  · exact h1
  · rw [if_neg h1] at h; omega
theorem z_val {z : Int} (h : zC true z = 0) : iv (zS true z) (zL true z) = z ∧ okB (zS true z) (zL true z) = true := by
  have h1 := z_fit h
  unfold zS zL opS opL
  rw [if_pos rfl, if_pos rfl, (fit_yes h1 true).1, (fit_yes h1 _).2.2]
  refine ⟨?_, okB_limP _ _ h1⟩
  unfold iv sgn nz
  rw [val_lim]
  by_cases h2 : z < 0
  · rw [decide_eq_true h2, decide_eq_true (by omega : 0 < z.natAbs)]; simp; omega
  · rw [decide_eq_false h2]; simp; omega
theorem z_ok {p : Bool} {xs : List Int} (hz : Limbs xs) (h : okB p xs = true) : zS true (iv p xs) = p ∧ zL true (iv p xs) = xs ∧ zC true (iv p xs) = 0 := by
  have hn := okB_norm h
  have hl := lim_val hz hn.1
  have h1 : (lim (val xs)).length ≤ 128 := by rw [hl]; exact hn.2
  unfold iv
  rw [zS_sgn, zL_sgn, zC_sgn]
  unfold opS opL opC
  rw [if_pos rfl, if_pos rfl, if_pos rfl, (fit_yes h1 p).1, (fit_yes h1 p).2.1, (fit_yes h1 p).2.2]
  refine ⟨?_, hl, rfl⟩
  unfold nz
  by_cases h0 : xs.length = 0
  · rw [okB_nil h0] at h
    cases p
    · rfl
    · simp at h
  · rw [decide_eq_true (ok_pos hz h (by omega)), Bool.and_true]
theorem cmpA_anti {p q : Bool} {xs ys : List Int} (h1 : okB p xs = true) (h2 : okB q ys = true) : cmpA p xs q ys = - cmpA q ys p xs ∧ -1 ≤ cmpA q ys p xs ∧ cmpA q ys p xs ≤ 1 := by
  unfold cmpA
  rw [if_pos ⟨h1, h2⟩, if_pos ⟨h2, h1⟩]
  unfold cmpR cmpN
  cases p <;> cases q <;> simp <;> (repeat' split) <;> omega

theorem addZ_any (p q : Bool) (v u : Value) (xs ys : List Int) (w : World) (hx : Rd w v xs) (hy : Rd w u ys) :
    Calls Try.prog 9 #[.agg #[.bool p, v], .agg #[.bool q, u]] w fun e w' => ∃ a c, e = .returned (.tuple #[.agg #[.bool (zS (okB p xs && okB q ys) (iv p xs + iv q ys)), .slice a (zL (okB p xs && okB q ys) (iv p xs + iv q ys)).length c], .int .i64 (zC (okB p xs && okB q ys) (iv p xs + iv q ys))]) ∧ Own w' w.heap.size (.slice a (zL (okB p xs && okB q ys) (iv p xs + iv q ys)).length c) (zL (okB p xs && okB q ys) (iv p xs + iv q ys)) ∧ Below w.heap.size w w' := by
  have h := bigAdd_any p q v u xs ys w hx hy
  rw [← zS_sgn, ← zL_sgn _ (sumR p (val xs) q (val ys)).1, ← zC_sgn _ (sumR p (val xs) q (val ys)).1, sumR_sgn] at h
  exact h
theorem subZ_any (p q : Bool) (v u : Value) (xs ys : List Int) (w : World) (hx : Rd w v xs) (hy : Rd w u ys) :
    Calls Try.prog 14 #[.agg #[.bool p, v], .agg #[.bool q, u]] w fun e w' => ∃ a c, e = .returned (.tuple #[.agg #[.bool (zS (okB p xs && okB q ys) (iv p xs - iv q ys)), .slice a (zL (okB p xs && okB q ys) (iv p xs - iv q ys)).length c], .int .i64 (zC (okB p xs && okB q ys) (iv p xs - iv q ys))]) ∧ Own w' w.heap.size (.slice a (zL (okB p xs && okB q ys) (iv p xs - iv q ys)).length c) (zL (okB p xs && okB q ys) (iv p xs - iv q ys)) ∧ Below w.heap.size w w' := by
  have h := bigSub_any p q v u xs ys w hx hy
  rw [← zS_sgn, ← zL_sgn _ (sumR p (val xs) (!q) (val ys)).1, ← zC_sgn _ (sumR p (val xs) (!q) (val ys)).1, sumR_sgn, not_sgn, ← Int.sub_eq_add_neg] at h
  exact h
theorem mulZ_any (p q : Bool) (v u : Value) (xs ys : List Int) (w : World) (hx : Rd w v xs) (hy : Rd w u ys) :
    Calls Try.prog 10 #[.agg #[.bool p, v], .agg #[.bool q, u]] w fun e w' => ∃ a c, e = .returned (.tuple #[.agg #[.bool (zS (okB p xs && okB q ys) (iv p xs * iv q ys)), .slice a (zL (okB p xs && okB q ys) (iv p xs * iv q ys)).length c], .int .i64 (zC (okB p xs && okB q ys) (iv p xs * iv q ys))]) ∧ Own w' w.heap.size (.slice a (zL (okB p xs && okB q ys) (iv p xs * iv q ys)).length c) (zL (okB p xs && okB q ys) (iv p xs * iv q ys)) ∧ Below w.heap.size w w' := by
  have h := bigMul_any p q v u xs ys w hx hy
  rw [← zS_sgn, ← zL_sgn _ (p != q), ← zC_sgn _ (p != q), mul_sgn] at h
  exact h
end Go.Proofs.Ythgpacajeaphhaa
