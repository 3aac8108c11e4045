import Derived.Test.YtfcoffllelgakaaDoorSum
import Derived.Test.YtfcoffllelgakaaDoorFit
import Derived.Test.YtfcoffllelgakaaDoorOk
namespace Go.Proofs.YtfcoffllelgakaaDoor
open Go.RowKit
set_option linter.unusedVariables false
set_option linter.unusedSimpArgs false

/-- What BigCmp answers of two numbers that are well formed. -/
def cmpR (p : Bool) (x : Nat) (q : Bool) (y : Nat) : Int := if p = q then (if p = true then cmpN y x else cmpN x y) else if p = true then -1 else 1
/-- What BigCmp answers. -/
def cmpA (p : Bool) (xs : List Int) (q : Bool) (ys : List Int) : Int := if okB p xs = true ∧ okB q ys = true then cmpR p (val xs) q (val ys) else 2

theorem sumR_nz (p : Bool) (x : Nat) (q : Bool) (y : Nat) : sumR p x (nz q y) y = sumR p x q y := by
  by_cases h : y = 0
  · subst h
    cases p <;> cases q <;> rfl
  · have : nz q y = q := by unfold nz; rw [decide_eq_true (by omega), Bool.and_true]
    rw [this]

theorem okB_pos {zs : List Int} (hz : Limbs zs) (h : okB true zs = true) : 0 < val zs := by
  have hn := (okB_norm h).1
  have h0 : ¬ zs.length = 0 := fun e => by rw [okB_nil e] at h; cases h
  have := le_val hz hn (by omega)
  have h1 : 0 < 4294967296 ^ (zs.length - 1) := Nat.pow_pos (by omega)
  omega

/-- The sign of a difference is the order. -/
theorem cmp_of_sum (p : Bool) (x : Nat) (q : Bool) (y : Nat) (hx : p = true → 0 < x) (hy : q = true → 0 < y) :
    (if (sumR p x (!q) y).2 = 0 then (0 : Int) else if nz (sumR p x (!q) y).1 (sumR p x (!q) y).2 = true then -1 else 1) = cmpR p x q y := by
  cases p <;> cases q <;> simp only [sumR, cmpR, nz, cmpN, Bool.not_true, Bool.not_false, if_true, if_false, reduceCtorEq, Bool.true_and, Bool.false_and] <;> simp at hx hy ⊢
  · by_cases h1 : y ≤ x
    · simp [h1]; by_cases h2 : x - y = 0
      · simp [h2]; omega
      · simp [h2]; omega
    · simp [h1]; omega
  · omega
  · omega
  · by_cases h1 : y ≤ x
    · simp [h1]; by_cases h2 : x - y = 0
      · simp [h2]; omega
      · simp [h2]; omega
    · simp [h1]; omega

theorem pick0 {n : Nat} {s : Bool} {r : Int} (h : (if n = 0 then (0 : Int) else if s = true then -1 else 1) = r) (h0 : ((n : Int) == 0) = true) : r = 0 := by
  have : n = 0 := by have := beq_iff_eq.mp h0; omega
  rw [← h, if_pos this]
theorem pick1 {n : Nat} {s : Bool} {r : Int} (h : (if n = 0 then (0 : Int) else if s = true then -1 else 1) = r) (h0 : ((n : Int) == 0) = false) (hs : s = true) : r = -1 := by
  have : ¬ n = 0 := fun e => by rw [e] at h0; cases h0
  rw [← h, if_neg this, if_pos hs]
theorem pick2 {n : Nat} {s : Bool} {r : Int} (h : (if n = 0 then (0 : Int) else if s = true then -1 else 1) = r) (h0 : ((n : Int) == 0) = false) (hs : s = false) : r = 1 := by
  have : ¬ n = 0 := fun e => by rw [e] at h0; cases h0
  rw [← h, if_neg this, if_neg (by rw [hs]; decide)]

end Go.Proofs.YtfcoffllelgakaaDoor
