import Derived.Test.YtdamddfhflhfbaaDoorFrameE
import Derived.Test.YtdamddfhflhfbaaDoorSlcS
import Derived.ChangeOld
import Derived.Below
import Derived.Lib.SmallJoins
namespace Go.Proofs.YtdamddfhflhfbaaDoor
open Go.ChangeShapes Go.WideShapes Go.ChangeAt Go.RowKit Go.Joins
set_option linter.unusedVariables false
set_option linter.unusedSimpArgs false

theorem Tryd.cells23 : Tryd.prog.cellsOf 23 = 2 := by kernel_rfl
theorem rowBnd : 23 < Tryd.prog.types.size := of_decide_eq_true (by kernel_rfl)
theorem readBnd : Tryd.prog.readableRec 23 = true := by kernel_rfl
set_option maxRecDepth 100000 in
/-- A bound that came in, opened. -/
theorem open_bnd {H : Type} {enc : TypeId × Value → H} {W : World} {base : Nat} {v : Value} {d : DataW H} {p : List MemPlace} (hv : Value.okWide Tryd.prog W .any base 23 v)
    (h : DataW.Trod enc Tryd.prog W 0 (fun _ => true) true 23 v d p) :
    ∃ has x, v = .agg #[.bool has, .int .i64 x] ∧ -9223372036854775808 ≤ x ∧ x ≤ 9223372036854775807 := by
  obtain ⟨c0, c1, y0, y1, m, rfl, rfl, rfl, hy0, hy1⟩ := open_agg2 Tryd.underlying23 (by kernel_rfl) Tryd.cells23 hv h
  obtain ⟨has, e0, rfl⟩ := DataW.trod_bool Tryd.underlying4 hy0
  simp at e0
  subst e0
  obtain ⟨x, e1, hx, hw⟩ := DataW.trod_int Tryd.underlying2 hy1
  simp at e1
  subst e1
  exact ⟨has, x, rfl, (bounds_i64 hw).1, (bounds_i64 hw).2⟩
end Go.Proofs.YtdamddfhflhfbaaDoor
