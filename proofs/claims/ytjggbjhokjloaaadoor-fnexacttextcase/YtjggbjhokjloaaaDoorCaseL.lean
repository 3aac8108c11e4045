import Derived.Test.YtjggbjhokjloaaaDoorCaseI
import Derived.Test.YtjggbjhokjloaaaDoorCaseS
namespace Go.Proofs.YtjggbjhokjloaaaDoor
open Go.RowKit Go.Lib Go.Shelf
set_option linter.unusedVariables false
set_option linter.unusedSimpArgs false

theorem text_fits {s : ByteArray} (h : (textOf s).isSome = true) : s.size ≤ 16384 := by
  unfold textOf at h
  by_cases hs : s.size ≤ 16384
  · exact hs
  · rw [if_neg hs] at h; cases h
theorem caseOf_no {how : Int} {s : ByteArray} (h : ¬ ((textOf s).isSome = true ∧ (how = 1 ∨ how = 2))) : caseOf how s = [] := by unfold caseOf; rw [if_neg h]
theorem caseOf_yes {how : Int} {s : ByteArray} (h : (textOf s).isSome = true) (hh : how = 1 ∨ how = 2) : caseOf how s = s.data.toList.map (caseB how) := by unfold caseOf; rw [if_pos ⟨h, hh⟩]
set_option maxRecDepth 100000 in
theorem textCaseS_any (how : Int) (s : ByteArray) (w : World) (hm : s.size ≤ 9223372036854775807) :
    Calls Tryd.prog 5 #[.string s, .int .i64 how] w fun e w' => e = .returned (.string ⟨(caseOf how s).toArray⟩) ∧ Below w.heap.size w w' := by
  have hK := textOkS_any s w hm
  cases hok : (textOf s).isSome with
  | false =>
    rw [caseOf_no (by rw [hok]; simp)]
    rw [hok] at hK
    go_enter Tryd.func5, Tryd.ntmps5
    go_wp2_with fail
    refine hK.mono ?_
    rintro e w0 ⟨rfl, hB0⟩
    go_wp2
    go_ret
    exact ⟨rfl, hB0⟩
  | true =>
    rw [hok] at hK
    by_cases h1 : how = 1
    · rw [caseOf_yes hok (.inl h1)]; exact textCaseS_loop1 how s w (text_fits hok) h1 hK
    · by_cases h2 : how = 2
      · rw [caseOf_yes hok (.inr h2)]; exact textCaseS_loop2 how s w (text_fits hok) h2 hK
      · rw [caseOf_no (fun h => h.2.elim h1 h2)]
        by_cases h3 : how < 1
        · go_enter Tryd.func5, Tryd.ntmps5
          go_wp2_with fail
          refine hK.mono ?_
          rintro e w0 ⟨rfl, hB0⟩
          go_wp2
          go_ret
          exact ⟨rfl, hB0⟩
        · have h4 : 2 < how := by omega
          go_enter Tryd.func5, Tryd.ntmps5
          go_wp2_with fail
          refine hK.mono ?_
          rintro e w0 ⟨rfl, hB0⟩
          go_wp2
          go_ret
          exact ⟨rfl, hB0⟩
set_option maxRecDepth 100000 in
theorem textCase_any (how : Int) (s : ByteArray) (w : World) (hm : s.size ≤ 9223372036854775807) (hT : Tabs w) :
    Calls Tryd.prog 6 #[.string s, .int .i64 how] w fun e w' => e = .returned (.string ⟨(caseOf how s).toArray⟩) ∧ Below w.heap.size w w' := by
  have hK := textOk_any s w hm hT
  cases hok : (textOf s).isSome with
  | false =>
    rw [caseOf_no (by rw [hok]; simp)]
    rw [hok] at hK
    go_enter Tryd.func6, Tryd.ntmps6
    go_wp2_with fail
    refine hK.mono ?_
    rintro e w0 ⟨rfl, hB0⟩
    go_wp2
    go_ret
    exact ⟨rfl, hB0⟩
  | true =>
    rw [hok] at hK
    by_cases h1 : how = 1
    · rw [caseOf_from hok (.inl h1)]; exact textCase_yes1 how s w (text_fits hok) hT hok h1
    · by_cases h2 : how = 2
      · rw [caseOf_from hok (.inr h2)]; exact textCase_yes2 how s w (text_fits hok) hT hok h2
      · rw [caseOf_no (fun h => h.2.elim h1 h2)]
        have q1 : (how != 1) = true := by simpa using h1
        have q2 : (how != 2) = true := by simpa using h2
        clear h1 h2 hok
        go_enter Tryd.func6, Tryd.ntmps6
        go_wp2_with fail
        refine hK.mono ?_
        rintro e w0 ⟨rfl, hB0⟩
        go_wp2
        go_ret
        exact ⟨rfl, hB0⟩
set_option maxRecDepth 100000 in
theorem law_textcase (s : ByteArray) (how : Int) (W : World) (hT : Tabs W) :
    Calls Tryd.prog 3 #[.string s, .int .i64 how] W fun e w' => e = .returned (.bool true) ∧ Below W.heap.size W w' := by
  by_cases hbig : (1048576 : Int) < (s.size : Int)
  · go_enter Tryd.func3, Tryd.ntmps3
    go_wp2
    go_ret
    exact ⟨rfl, Below.refl _ _⟩
  · have hS := textCaseS_any how s W (by omega)
    have hG := fun w h => textCase_any how s w (by omega) h
    generalize (caseOf how s).toArray = A at hS hG
    go_enter Tryd.func3, Tryd.ntmps3
    go_wp2_with fail
    refine hS.mono ?_
    rintro e w1 ⟨rfl, hB1⟩
    go_wp2_with fail
    refine (hG _ (hT.below hB1)).mono ?_
    rintro e w2 ⟨rfl, hB2⟩
    clear hS hG
    go_wp2
    go_ret
    exact ⟨rfl, hB1.trans (hB2.mono hB1.size)⟩
end Go.Proofs.YtjggbjhokjloaaaDoor
