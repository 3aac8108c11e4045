import Derived.Test.YtcbgjgclhlmeaaaBitI
import Derived.Test.YtcbgjgclhlmeaaaBitS
namespace Go.Proofs.Ytcbgjgclhlmeaaa
open Go.RowKit
set_option linter.unusedVariables false
set_option linter.unusedSimpArgs false

/-- What BigBit answers. -/
def bbG (op : Int) (p q : Bool) (xs ys : List Int) : Bool := okB p xs && (okB q ys && decide (op = 1 ∨ op = 2 ∨ op = 3))
def bbX (op : Int) (p q : Bool) (xs ys : List Int) : Nat := bbN op p q (val xs) (val ys) (32 * max xs.length ys.length)
def bbS (op : Int) (p q : Bool) (xs ys : List Int) : Bool := if bbG op p q xs ys = true then fitS (bopB op p q) (bbX op p q xs ys) else false
def bbL (op : Int) (p q : Bool) (xs ys : List Int) : List Int := if bbG op p q xs ys = true then fitL (bbX op p q xs ys) else []
def bbC (op : Int) (p q : Bool) (xs ys : List Int) : Int := if bbG op p q xs ys = true then fitC (bbX op p q xs ys) else 1
theorem bb_no {op : Int} {p q : Bool} {xs ys : List Int} (h : bbG op p q xs ys = false) : bbS op p q xs ys = false ∧ bbL op p q xs ys = [] ∧ bbC op p q xs ys = 1 := by
  unfold bbS bbL bbC; rw [h]; exact ⟨rfl, rfl, rfl⟩
theorem bb_yes {op : Int} {p q : Bool} {xs ys : List Int} (h : bbG op p q xs ys = true) : bbS op p q xs ys = fitS (bopB op p q) (bbX op p q xs ys) ∧ bbL op p q xs ys = fitL (bbX op p q xs ys) ∧ bbC op p q xs ys = fitC (bbX op p q xs ys) := by
  unfold bbS bbL bbC; rw [h]; exact ⟨rfl, rfl, rfl⟩
theorem bigBit_any (op : Int) (p q : Bool) (v u : Value) (xs ys : List Int) (w : World) (hx : Rd w v xs) (hy : Rd w u ys) :
    Calls Try.prog 14 #[.int .i64 op, .agg #[.bool p, v], .agg #[.bool q, u]] w fun e w' => ∃ a c, e = .returned (.tuple #[.agg #[.bool (bbS op p q xs ys), .slice a (bbL op p q xs ys).length c], .int .i64 (bbC op p q xs ys)]) ∧ Own w' w.heap.size (.slice a (bbL op p q xs ys).length c) (bbL op p q xs ys) ∧ Below w.heap.size w w' := by
  cases hoA : okB p xs with
  | false =>
    obtain ⟨e1, e2, e3⟩ := bb_no (op := op) (q := q) (ys := ys) (by unfold bbG; rw [hoA]; rfl : bbG op p q xs ys = false)
    rw [e1, e2, e3]; exact bb_impl_a op p q v u xs ys w hx hy hoA
  | true =>
    cases hoB : okB q ys with
    | false =>
      obtain ⟨e1, e2, e3⟩ := bb_no (by unfold bbG; rw [hoA, hoB]; rfl : bbG op p q xs ys = false)
      rw [e1, e2, e3]; exact bb_impl_b op p q v u xs ys w hx hy hoA hoB
    | true =>
      by_cases h1 : op < 1
      · obtain ⟨e1, e2, e3⟩ := bb_no (by unfold bbG; rw [hoA, hoB, decide_eq_false (by omega)]; rfl : bbG op p q xs ys = false)
        rw [e1, e2, e3]; exact bb_impl_lo op p q v u xs ys w hx hy hoA hoB h1
      · by_cases h3 : 3 < op
        · obtain ⟨e1, e2, e3⟩ := bb_no (by unfold bbG; rw [hoA, hoB, decide_eq_false (by omega)]; rfl : bbG op p q xs ys = false)
          rw [e1, e2, e3]; exact bb_impl_hi op p q v u xs ys w hx hy hoA hoB h3
        · have ho : op = 1 ∨ op = 2 ∨ op = 3 := by omega
          obtain ⟨e1, e2, e3⟩ := bb_yes (by unfold bbG; rw [hoA, hoB, decide_eq_true ho]; rfl : bbG op p q xs ys = true)
          rw [e1, e2, e3]; exact bb_impl op p q v u xs ys w hx hy _ rfl hoA hoB ho
theorem bigBitS_any (op : Int) (p q : Bool) (v u : Value) (xs ys : List Int) (w : World) (hx : Rd w v xs) (hy : Rd w u ys) :
    Calls Try.prog 13 #[.int .i64 op, .agg #[.bool p, v], .agg #[.bool q, u]] w fun e w' => ∃ a c, e = .returned (.tuple #[.agg #[.bool (bbS op p q xs ys), .slice a (bbL op p q xs ys).length c], .int .i64 (bbC op p q xs ys)]) ∧ Own w' w.heap.size (.slice a (bbL op p q xs ys).length c) (bbL op p q xs ys) ∧ Below w.heap.size w w' := by
  cases hoA : okB p xs with
  | false =>
    obtain ⟨e1, e2, e3⟩ := bb_no (op := op) (q := q) (ys := ys) (by unfold bbG; rw [hoA]; rfl : bbG op p q xs ys = false)
    rw [e1, e2, e3]; exact bb_spec_a op p q v u xs ys w hx hy hoA
  | true =>
    cases hoB : okB q ys with
    | false =>
      obtain ⟨e1, e2, e3⟩ := bb_no (by unfold bbG; rw [hoA, hoB]; rfl : bbG op p q xs ys = false)
      rw [e1, e2, e3]; exact bb_spec_b op p q v u xs ys w hx hy hoA hoB
    | true =>
      by_cases h1 : op < 1
      · obtain ⟨e1, e2, e3⟩ := bb_no (by unfold bbG; rw [hoA, hoB, decide_eq_false (by omega)]; rfl : bbG op p q xs ys = false)
        rw [e1, e2, e3]; exact bb_spec_lo op p q v u xs ys w hx hy hoA hoB h1
      · by_cases h3 : 3 < op
        · obtain ⟨e1, e2, e3⟩ := bb_no (by unfold bbG; rw [hoA, hoB, decide_eq_false (by omega)]; rfl : bbG op p q xs ys = false)
          rw [e1, e2, e3]; exact bb_spec_hi op p q v u xs ys w hx hy hoA hoB h3
        · have ho : op = 1 ∨ op = 2 ∨ op = 3 := by omega
          obtain ⟨e1, e2, e3⟩ := bb_yes (by unfold bbG; rw [hoA, hoB, decide_eq_true ho]; rfl : bbG op p q xs ys = true)
          rw [e1, e2, e3]; exact bb_spec op p q v u xs ys w hx hy _ rfl hoA hoB ho
end Go.Proofs.Ytcbgjgclhlmeaaa
