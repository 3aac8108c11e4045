import Derived.Test.YtfoofbcfcekleaaGreatDoorRTok
import Derived.Test.YtfoofbcfcekleaaGreatDoorLaidQt
namespace Go.Proofs.YtfoofbcfcekleaaGreatDoor
open Go.RowKit Go.Lib Go.Shelf
set_option linter.unusedVariables false
set_option linter.unusedSimpArgs false

/-- The two tables that utf8.ValidString reads, as their initialisers lay them. -/
def Tabs (w : World) : Prop := Lib.Utf8Tabs (Tryz.laysValid_ren.g 3) (Tryz.laysValid_ren.g 4) w
theorem Tabs.below {w w' : World} (h : Tabs w) (hb : Below w.heap.size w w') : Tabs w' := Utf8Tabs_below h hb
theorem textOf_some (s : ByteArray) : (textOf s).isSome = (decide (s.size ≤ 16384) && validD s.data.toList) := by
  unfold textOf
  by_cases h : s.size ≤ 16384
  · rw [if_pos h, decide_eq_true h, valid_runes, Bool.true_and]
  · rw [if_neg h, decide_eq_false h]; rfl
set_option maxRecDepth 100000 in
theorem textOk_any (s : ByteArray) (w : World) (hm : s.size ≤ 9223372036854775807) (hT : Tabs w) :
    Calls Tryz.prog 12 #[.string s] w fun e w' => e = .returned (.bool (textOf s).isSome) ∧ Below w.heap.size w w' := by
  have cV : Calls Tryz.prog 25 #[.string s] w _ := Any.utf8_ValidString Tryz.laysValid s w hm hT
  rw [textOf_some]
  generalize Lib.validD s.data.toList = V at cV ⊢
  by_cases h : s.size ≤ 16384
  · have hz : (s.size : Int) ≤ 16384 := by omega
    rw [decide_eq_true h, Bool.true_and]
    go_enter Tryz.func12, Tryz.ntmps12
    go_wp2_with (go_at_call 25; refine cV.mono ?_; rintro e w1 ⟨rfl, hb⟩)
    go_ret
    exact ⟨rfl, hb⟩
  · have hz : ¬ (s.size : Int) ≤ 16384 := by omega
    rw [decide_eq_false h, Bool.false_and]
    clear cV
    go_enter Tryz.func12, Tryz.ntmps12
    go_wp2
    go_ret
    exact ⟨rfl, Below.refl _ _⟩
end Go.Proofs.YtfoofbcfcekleaaGreatDoor
