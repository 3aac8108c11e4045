import Derived.Test.YtebpaobjonlelaaDoorSlcA
import Derived.Test.YtebpaobjonlelaaDoorHelpI
import Derived.Deep.RegionHeld3
namespace Go.Proofs.YtebpaobjonlelaaDoor
open Go.RowKit
set_option linter.unusedVariables false
set_option linter.unusedSimpArgs false

set_option maxHeartbeats 1000000 in
set_option maxRecDepth 100000 in
theorem sliceI_any (n : Int) (lh : Bool) (la : Int) (hh : Bool) (ha : Int) (sh : Bool) (sa : Int) (aA aZ aL : Addr) (w : World)
    (hl0 : -9223372036854775808 ≤ la) (hl1 : la ≤ 9223372036854775807) (hh0 : -9223372036854775808 ≤ ha) (hh1 : ha ≤ 9223372036854775807) (hs0 : -9223372036854775808 ≤ sa) (hs1 : sa ≤ 9223372036854775807) (hE : Errs w aA aZ aL) :
    Calls Tryd.prog 10 #[.int .i64 n, bnd lh la, bnd hh ha, bnd sh sa] w fun e w' => ∃ ao co, e = .returned (.tuple #[.slice ao (sliceAns n lh la hh ha sh sa).1.length co, .int .i64 (sliceAns n lh la hh ha sh sa).2]) ∧
      Own w' w.heap.size (.slice ao (sliceAns n lh la hh ha sh sa).1.length co) (sliceAns n lh la hh ha sh sa).1 ∧ Below w.heap.size w w' := by
  have bW : Below w.heap.size w (((w.alloc (Obj.cells #[.bool lh, .int .i64 la] 28)).alloc (Obj.cells #[.bool hh, .int .i64 ha] 28)).alloc (Obj.cells #[.bool sh, .int .i64 sa] 28)) := (((Below.refl _ w).alloc (Nat.le_refl _) _).alloc (by simp) _).alloc (by simp; omega) _
  have hP := fun W h => placesI_any n lh la hh ha sh sa aA aZ aL W hl0 hl1 hh0 hh1 hs0 hs1 h
  generalize sliceAns n lh la hh ha sh sa = A at hP ⊢
  obtain ⟨L, c⟩ := A
  have hC := fun v W h hv => codeOf_any aA aZ aL v c W h hv
  simp only at hP ⊢
  go_enter Tryd.func10, Tryd.ntmps10
  go_wp2_with fail
  refine (hP _ (hE.below bW)).mono ?_
  rintro e w1 ⟨ao, co, v, rfl, hv, hO, hB1⟩
  have hB0 := bW.trans (hB1.mono bW.size)
  have hO2 := hO.mono (show w.heap.size ≤ _ from bW.size)
  clear hP hO bW hB1
  go_wp2_with fail
  refine (hC _ _ (hE.below hB0) hv).mono ?_
  rintro e w2 ⟨rfl, hB2⟩
  go_wp2
  refine bodyPost_ret (v := .tuple #[.slice ao L.length co, .int .i64 c]) (by simp [results, Tryd.results10, go_sem]) rfl ?_
  exact ⟨ao, co, rfl, hO2.keep hB2, hB0.trans (hB2.mono hB0.size)⟩
end Go.Proofs.YtebpaobjonlelaaDoor
