import Derived.Test.YtfoofbcfcekleaaGreatDoorRunes
namespace Go.Proofs.YtfoofbcfcekleaaGreatDoor
open Go.RowKit Go.Lib
set_option linter.unusedVariables false
set_option linter.unusedSimpArgs false

theorem l3Runes_long (s : ByteArray) (w : World) (hs : ¬ s.size ≤ 16384) (hm : s.size ≤ 9223372036854775807) :
    Calls Tryz.prog 18 #[.string s] w fun e w' => ∃ a c, e = .returned (.tuple #[.slice a (([] : List Int)).length c, .bool false]) ∧ Own w' w.heap.size (.slice a (([] : List Int)).length c) [] ∧ Below w.heap.size w w' := by
  have hsz : (16384 : Int) < (s.size : Int) := by omega
  go_enter Tryz.func18, Tryz.ntmps18
  go_wp2
  refine bodyPost_ret (v := .tuple #[.slice (some ⟨w.heap.size, 0, none⟩) 0 0, .bool false]) (by simp [results, Tryz.results18, go_sem]) rfl ⟨some ⟨w.heap.size, 0, none⟩, 0, rfl, Own.empty w, (Below.refl _ _).alloc (Nat.le_refl _) _⟩
/-- The code points of what is a text, of at most MaxText bytes. -/
def textOf (s : ByteArray) : Option (List Nat) := if s.size ≤ 16384 then runesOf s else none
theorem l3Runes_any (s : ByteArray) (w : World) (hm : s.size ≤ 9223372036854775807) :
    Calls Tryz.prog 18 #[.string s] w fun e w' => ∃ a c, e = .returned (.tuple #[.slice a (ansL (textOf s)).length c, .bool (textOf s).isSome]) ∧ Own w' w.heap.size (.slice a (ansL (textOf s)).length c) (ansL (textOf s)) ∧ Below w.heap.size w w' := by
  unfold textOf
  by_cases h : s.size ≤ 16384
  · rw [if_pos h]; exact l3Runes_fit s w h
  · rw [if_neg h]; exact l3Runes_long s w h hm
set_option maxRecDepth 100000 in
theorem textOkS_any (s : ByteArray) (w : World) (hm : s.size ≤ 9223372036854775807) :
    Calls Tryz.prog 7 #[.string s] w fun e w' => e = .returned (.bool (textOf s).isSome) ∧ Below w.heap.size w w' := by
  have hR := fun W => l3Runes_any s W hm
  generalize textOf s = A at hR ⊢
  go_enter Tryz.func7, Tryz.ntmps7
  go_wp2_with (go_at_call 18; refine (hR _).mono ?_; rintro e w1 ⟨a1, c1, rfl, hO1, hB1⟩)
  go_ret
  exact ⟨rfl, hB1⟩
end Go.Proofs.YtfoofbcfcekleaaGreatDoor
