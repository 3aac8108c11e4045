import Derived.Test.YtfcoffllelgakaaDoorOf
namespace Go.Proofs.YtfcoffllelgakaaDoor
open Go.RowKit
set_option linter.unusedVariables false
set_option linter.unusedSimpArgs false

set_option maxRecDepth 100000 in
theorem bigOf_any (x : Int) (w : World) (h0 : -9223372036854775808 ≤ x) (h1 : x ≤ 9223372036854775807) :
    Calls Tryd.prog 15 #[.int .i64 x] w fun e w' => ∃ a c, e = .returned (.agg #[.bool (decide (x < 0)), .slice a (lim x.natAbs).length c]) ∧ Own w' w.heap.size (.slice a (lim x.natAbs).length c) (lim x.natAbs) ∧ Below w.heap.size w w' := by
  by_cases hx : x < 0
  · have hK := limbsOf_any (-x) (w.alloc (Obj.cells #[.bool false, .slice none 0 0] 29)) (by omega) (by omega)
    rw [show (-x).natAbs = x.natAbs from by omega] at hK
    rw [show decide (x < 0) = true from by simpa using hx]
    generalize lim x.natAbs = L at hK ⊢
    go_enter Tryd.func15, Tryd.ntmps15
    go_wp2_with fail
    rw [wrap_neg h0 hx]
    refine hK.mono ?_
    rintro e w1 ⟨a1, c1, rfl, hO, hB⟩
    obtain ⟨hz1, p0, p1⟩ := (Box.new w (.bool false) (.slice none 0 0) 29).keep hB
    obtain ⟨_, hf1⟩ := bcell hB
    clear hK
    go_wp2
    refine bodyPost_ret (v := .agg #[.bool true, .slice a1 L.length c1]) (by simp [results, Tryd.results15, go_sem, p0, p1, hz1]) rfl ⟨a1, c1, rfl, ?_, ?_⟩
    · exact (((hO.setBelow (by simp) _).setBelow (by simp) _)).mono (by simp)
    · exact ((below_of_alloc hB).setCell (by simp) _).setCell (by simp) _
  · have hK := limbsOf_any x (w.alloc (Obj.cells #[.bool false, .slice none 0 0] 29)) (by omega) (by omega)
    rw [show decide (x < 0) = false from by simpa using hx]
    generalize lim x.natAbs = L at hK ⊢
    go_enter Tryd.func15, Tryd.ntmps15
    go_wp2_with fail
    refine hK.mono ?_
    rintro e w1 ⟨a1, c1, rfl, hO, hB⟩
    obtain ⟨hz1, p0, p1⟩ := (Box.new w (.bool false) (.slice none 0 0) 29).keep hB
    obtain ⟨_, hf1⟩ := bcell hB
    clear hK
    go_wp2
    refine bodyPost_ret (v := .agg #[.bool false, .slice a1 L.length c1]) (by simp [results, Tryd.results15, go_sem, p0, p1, hz1]) rfl ⟨a1, c1, rfl, ?_, ?_⟩
    · exact (((hO.setBelow (by simp) _).setBelow (by simp) _)).mono (by simp)
    · exact ((below_of_alloc hB).setCell (by simp) _).setCell (by simp) _
end Go.Proofs.YtfcoffllelgakaaDoor
