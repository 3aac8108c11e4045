import Derived.Test.YtfcoffllelgakaaDoorFloorJ1
import Derived.Test.YtfcoffllelgakaaDoorFloorJ2
namespace Go.Proofs.YtfcoffllelgakaaDoor
open Go.RowKit
set_option linter.unusedVariables false
set_option linter.unusedSimpArgs false

theorem l1Floor_any (p t : Bool) (v u : Value) (xs ys : List Int) (w : World) (hx : Rd w v xs) (hy : Rd w u ys) (nx : Norm xs) (ny : Norm ys) (hlx : xs.length ≤ 400000) (hly : ys.length ≤ 400000) (hpos : 0 < val ys) :
    Calls Tryd.prog 68 #[.agg #[.bool p, v], .agg #[.bool t, u]] w fun e w' => ∃ a c a' c', e = .returned (.tuple #[.agg #[.bool (nz (p != t) (flQ p (val xs) t (val ys))), .slice a (lim (flQ p (val xs) t (val ys))).length c], .agg #[.bool (nz t (flR p (val xs) t (val ys))), .slice a' (lim (flR p (val xs) t (val ys))).length c']]) ∧ Own w' w.heap.size (.slice a (lim (flQ p (val xs) t (val ys))).length c) (lim (flQ p (val xs) t (val ys))) ∧ Own w' w.heap.size (.slice a' (lim (flR p (val xs) t (val ys))).length c') (lim (flR p (val xs) t (val ys))) ∧ Below w.heap.size w w' := by
  by_cases hadj : p ≠ t ∧ val xs % val ys ≠ 0
  · cases p <;> cases t
    · exact absurd rfl hadj.1
    · exact l1Floor_adj2 false true v u xs ys w hx hy nx ny hlx hly hpos rfl rfl hadj.2
    · exact l1Floor_adj1 true false v u xs ys w hx hy nx ny hlx hly hpos rfl rfl hadj.2
    · exact absurd rfl hadj.1
  · exact l1Floor_plain p t v u xs ys w hx hy nx ny hlx hly hpos hadj
end Go.Proofs.YtfcoffllelgakaaDoor
