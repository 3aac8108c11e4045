import Derived.Test.YtbeakdpbginebaaDoorSvJ
namespace Go.Proofs.YtbeakdpbginebaaDoor
open Go.RowKit Go.Lib Go.Shelf
set_option linter.unusedVariables false
set_option linter.unusedSimpArgs false

set_option maxHeartbeats 1000000 in
set_option maxRecDepth 100000 in
theorem law_strvalue (s : ByteArray) (W : World) (hT : Tabs W) (hM : MaxK W) (hE : ErrS W) :
    Calls Tryd.prog 4 #[.string s] W fun e w' => e = .returned (.bool true) ∧ Below W.heap.size W w' := by
  by_cases hbig : (1048576 : Int) < (s.size : Int)
  · go_enter Tryd.func4, Tryd.ntmps4
    go_wp2
    go_ret
    exact ⟨rfl, Below.refl _ _⟩
  · have hS := strValueS_any s W (by omega)
    have hG := fun w h1 h2 h3 => strValue_any s w (by omega) h1 h2 h3
    generalize svT (svO s) = X at hS hG
    generalize (svO s).isSome = B at hS hG
    go_enter Tryd.func4, Tryd.ntmps4
    go_wp2_with fail
    refine hS.mono ?_
    rintro e w1 ⟨rfl, hB1⟩
    have hG1 := hG w1 (hT.below hB1) (hM.below hB1) (hE.below hB1)
    clear hS hG
    go_wp2_with fail
    refine hG1.mono ?_
    rintro e w2 ⟨rfl, hB2⟩
    clear hG1
    cases B <;> go_wp2 <;> go_ret <;> exact ⟨rfl, hB1.trans (hB2.mono hB1.size)⟩
end Go.Proofs.YtbeakdpbginebaaDoor
