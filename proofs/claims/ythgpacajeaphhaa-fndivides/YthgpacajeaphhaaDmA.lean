import Derived.Test.YthgpacajeaphhaaDmIa
import Derived.Test.YthgpacajeaphhaaDmIb
import Derived.Test.YthgpacajeaphhaaDmIc
namespace Go.Proofs.Ythgpacajeaphhaa
open Go.RowKit
set_option linter.unusedVariables false
set_option linter.unusedSimpArgs false

/-- What BigDivMod answers. -/
def dmOk (p q : Bool) (xs ys : List Int) : Bool := okB p xs && (okB q ys && !decide (ys.length = 0))
def dmS1 (p q : Bool) (xs ys : List Int) : Bool := if dmOk p q xs ys = true then nz (p != q) (flQ p (val xs) q (val ys)) else false
def dmL1 (p q : Bool) (xs ys : List Int) : List Int := if dmOk p q xs ys = true then lim (flQ p (val xs) q (val ys)) else []
def dmS2 (p q : Bool) (xs ys : List Int) : Bool := if dmOk p q xs ys = true then nz q (flR p (val xs) q (val ys)) else false
def dmL2 (p q : Bool) (xs ys : List Int) : List Int := if dmOk p q xs ys = true then lim (flR p (val xs) q (val ys)) else []
def dmC (p q : Bool) (xs ys : List Int) : Int := if dmOk p q xs ys = true then 0 else if (okB p xs && okB q ys) = true then 2 else 1
theorem dm_yes {p q : Bool} {xs ys : List Int} (h : dmOk p q xs ys = true) : dmS1 p q xs ys = nz (p != q) (flQ p (val xs) q (val ys)) ∧ dmL1 p q xs ys = lim (flQ p (val xs) q (val ys)) ∧ dmS2 p q xs ys = nz q (flR p (val xs) q (val ys)) ∧ dmL2 p q xs ys = lim (flR p (val xs) q (val ys)) ∧ dmC p q xs ys = 0 := by
  unfold dmS1 dmL1 dmS2 dmL2 dmC; rw [h]; exact ⟨rfl, rfl, rfl, rfl, rfl⟩
theorem dm_no {p q : Bool} {xs ys : List Int} (h : dmOk p q xs ys = false) : dmS1 p q xs ys = false ∧ dmL1 p q xs ys = [] ∧ dmS2 p q xs ys = false ∧ dmL2 p q xs ys = [] ∧ dmC p q xs ys = if (okB p xs && okB q ys) = true then 2 else 1 := by
  unfold dmS1 dmL1 dmS2 dmL2 dmC; rw [h]; exact ⟨rfl, rfl, rfl, rfl, rfl⟩
theorem bigDivMod_any (p q : Bool) (v u : Value) (xs ys : List Int) (w : World) (hx : Rd w v xs) (hy : Rd w u ys) :
    Calls Try.prog 17 #[.agg #[.bool p, v], .agg #[.bool q, u]] w fun e w' => ∃ a c a' c', e = .returned (.tuple #[.agg #[.bool (dmS1 p q xs ys), .slice a (dmL1 p q xs ys).length c], .agg #[.bool (dmS2 p q xs ys), .slice a' (dmL2 p q xs ys).length c'], .int .i64 (dmC p q xs ys)]) ∧ Own w' w.heap.size (.slice a (dmL1 p q xs ys).length c) (dmL1 p q xs ys) ∧ Own w' w.heap.size (.slice a' (dmL2 p q xs ys).length c') (dmL2 p q xs ys) ∧ Apart (.slice a (dmL1 p q xs ys).length c) (.slice a' (dmL2 p q xs ys).length c') ∧ Below w.heap.size w w' := by
  cases hoA : okB p xs with
  | false =>
    obtain ⟨e1, e2, e3, e4, e5⟩ := dm_no (by unfold dmOk; rw [hoA]; rfl : dmOk p q xs ys = false)
    rw [hoA, Bool.false_and, if_neg (by simp)] at e5
    rw [e1, e2, e3, e4, e5]; exact dm_impl_a p q v u xs ys w hx hy hoA
  | true =>
    cases hoB : okB q ys with
    | false =>
      obtain ⟨e1, e2, e3, e4, e5⟩ := dm_no (by unfold dmOk; rw [hoA, hoB]; rfl : dmOk p q xs ys = false)
      rw [hoA, hoB, Bool.and_false, if_neg (by simp)] at e5
      rw [e1, e2, e3, e4, e5]; exact dm_impl_b p q v u xs ys w hx hy hoA hoB
    | true =>
      by_cases h0 : ys.length = 0
      · obtain ⟨e1, e2, e3, e4, e5⟩ := dm_no (by unfold dmOk; rw [hoA, hoB, decide_eq_true h0]; rfl : dmOk p q xs ys = false)
        rw [hoA, hoB, Bool.and_true, if_pos rfl] at e5
        rw [e1, e2, e3, e4, e5]; exact dm_impl_z p q v u xs ys w hx hy hoA hoB h0
      · obtain ⟨e1, e2, e3, e4, e5⟩ := dm_yes (by unfold dmOk; rw [hoA, hoB, decide_eq_false h0]; rfl : dmOk p q xs ys = true)
        rw [e1, e2, e3, e4, e5]
        by_cases hpq : p = q
        · exact dm_impl_same p q v u xs ys w hx hy hoA hoB h0 hpq
        · by_cases hm : val xs % val ys = 0
          · exact dm_impl_zero p q v u xs ys w hx hy hoA hoB h0 hpq hm
          · exact dm_impl_adj p q v u xs ys w hx hy hoA hoB h0 hpq hm
theorem bigDivModS_any (p q : Bool) (v u : Value) (xs ys : List Int) (w : World) (hx : Rd w v xs) (hy : Rd w u ys) :
    Calls Try.prog 18 #[.agg #[.bool p, v], .agg #[.bool q, u]] w fun e w' => ∃ a c a' c', e = .returned (.tuple #[.agg #[.bool (dmS1 p q xs ys), .slice a (dmL1 p q xs ys).length c], .agg #[.bool (dmS2 p q xs ys), .slice a' (dmL2 p q xs ys).length c'], .int .i64 (dmC p q xs ys)]) ∧ Own w' w.heap.size (.slice a (dmL1 p q xs ys).length c) (dmL1 p q xs ys) ∧ Own w' w.heap.size (.slice a' (dmL2 p q xs ys).length c') (dmL2 p q xs ys) ∧ Below w.heap.size w w' := by
  cases hoA : okB p xs with
  | false =>
    obtain ⟨e1, e2, e3, e4, e5⟩ := dm_no (by unfold dmOk; rw [hoA]; rfl : dmOk p q xs ys = false)
    rw [hoA, Bool.false_and, if_neg (by simp)] at e5
    rw [e1, e2, e3, e4, e5]; exact dm_spec_a p q v u xs ys w hx hy hoA
  | true =>
    cases hoB : okB q ys with
    | false =>
      obtain ⟨e1, e2, e3, e4, e5⟩ := dm_no (by unfold dmOk; rw [hoA, hoB]; rfl : dmOk p q xs ys = false)
      rw [hoA, hoB, Bool.and_false, if_neg (by simp)] at e5
      rw [e1, e2, e3, e4, e5]; exact dm_spec_b p q v u xs ys w hx hy hoA hoB
    | true =>
      by_cases h0 : ys.length = 0
      · obtain ⟨e1, e2, e3, e4, e5⟩ := dm_no (by unfold dmOk; rw [hoA, hoB, decide_eq_true h0]; rfl : dmOk p q xs ys = false)
        rw [hoA, hoB, Bool.and_true, if_pos rfl] at e5
        rw [e1, e2, e3, e4, e5]; exact dm_spec_z p q v u xs ys w hx hy hoA hoB h0
      · obtain ⟨e1, e2, e3, e4, e5⟩ := dm_yes (by unfold dmOk; rw [hoA, hoB, decide_eq_false h0]; rfl : dmOk p q xs ys = true)
        rw [e1, e2, e3, e4, e5]
        exact dm_spec p q v u xs ys w hx hy hoA hoB h0
end Go.Proofs.Ythgpacajeaphhaa
