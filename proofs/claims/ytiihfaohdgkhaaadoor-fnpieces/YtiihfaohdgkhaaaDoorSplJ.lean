import Derived.Test.YtiihfaohdgkhaaaDoorSplI
namespace Go.Proofs.YtiihfaohdgkhaaaDoor
open Go.RowKit Go.Lib Go.Shelf
set_option linter.unusedVariables false
set_option linter.unusedSimpArgs false

set_option maxHeartbeats 1000000 in
set_option maxRecDepth 100000 in
theorem textSplit_any (s sep : ByteArray) (w : World) (hs : s.size ≤ 16777216) (ht : sep.size ≤ 16777216) (hT : Tabs w) (hM : MaxL w) :
    Calls Tryd.prog 7 #[.string s, .string sep] w fun e w' => ∃ a c, e = .returned (.tuple #[.slice a (splitAns s sep).1.length c, .int .i64 (splitAns s sep).2]) ∧ Str.Own w' w.heap.size (.slice a (splitAns s sep).1.length c) (splitAns s sep).1 ∧ Below w.heap.size w w' := by
  have hK := fun W h => textOk_any s W (by omega) h
  have hL := fun W h => textOk_any sep W (by omega) h
  cases hok : (textOf s).isSome with
  | false =>
    rw [hok] at hK
    have hA : splitAns s sep = ([], 1) := by unfold splitAns; rw [if_neg (fun h => by rw [hok] at h; cases h.1)]
    rw [hA]
    go_enter Tryd.func7, Tryd.ntmps7
    go_wp2_with fail
    refine (hK _ hT).mono ?_
    rintro e w1 ⟨rfl, hB1⟩
    go_wp2
    refine bodyPost_ret (v := .tuple #[.slice none 0 0, .int .i64 1]) (by simp [results, Tryd.results7, go_sem, Act.put]) rfl ?_
    exact ⟨_, _, rfl, Str.Own.nil _ _, hB1⟩
  | true =>
    rw [hok] at hK
    have h1 := textOf_size hok
    cases hok2 : (textOf sep).isSome with
    | false =>
      rw [hok2] at hL
      have hA : splitAns s sep = ([], 1) := by unfold splitAns; rw [if_neg (fun h => by rw [hok2] at h; cases h.2.1)]
      rw [hA]
      go_enter Tryd.func7, Tryd.ntmps7
      go_wp2_with fail
      refine (hK _ hT).mono ?_
      rintro e w1 ⟨rfl, hB1⟩
      go_wp2_with fail
      refine (hL _ (hT.below hB1)).mono ?_
      rintro e w2 ⟨rfl, hB2⟩
      have hB3 := hB1.trans (hB2.mono hB1.size)
      go_wp2
      refine bodyPost_ret (v := .tuple #[.slice none 0 0, .int .i64 1]) (by simp [results, Tryd.results7, go_sem, Act.put]) rfl ?_
      exact ⟨_, _, rfl, Str.Own.nil _ _, hB3⟩
    | true =>
      rw [hok2] at hL
      have h2 := textOf_size hok2
      by_cases h0 : sep.size = 0
      · have hA : splitAns s sep = ([], 1) := by unfold splitAns; rw [if_neg (fun h => h.2.2 h0)]
        rw [hA]
        obtain rfl := ba_nil h0
        go_enter Tryd.func7, Tryd.ntmps7
        go_wp2_with fail
        refine (hK _ hT).mono ?_
        rintro e w1 ⟨rfl, hB1⟩
        go_wp2_with fail
        refine (hL _ (hT.below hB1)).mono ?_
        rintro e w2 ⟨rfl, hB2⟩
        have hB3 := hB1.trans (hB2.mono hB1.size)
        go_wp2
        refine bodyPost_ret (v := .tuple #[.slice none 0 0, .int .i64 1]) (by simp [results, Tryd.results7, go_sem, Act.put]) rfl ?_
        exact ⟨_, _, rfl, Str.Own.nil _ _, hB3⟩
      · have hA : splitAns s sep = (splitAll s sep, 0) := by unfold splitAns; rw [if_pos ⟨hok, hok2, h0⟩]
        rw [hA]
        have hsb : sep.toList.isEmpty = false := by
          rw [Lib.toList_data]
          cases hl : sep.data.toList with
          | nil => exact absurd (by rw [Lib.size_eq, hl]; rfl) h0
          | cons _ _ => rfl
        have hP := fun W h => split_at s sep W h (by omega) (by omega)
        have hAl : (splitAll s sep).length ≤ 16777216 := Nat.le_trans (splitAll_len s sep (by omega)) (by omega)
        have hAs : ∀ z ∈ splitAll s sep, z.size ≤ 281474976710656 := fun z hz => Nat.le_trans (splitB_sizes sep _ s z hz) (by omega)
        generalize splitAll s sep = A at hP hAl hAs ⊢
        clear hA
        go_enter Tryd.func7, Tryd.ntmps7
        go_wp2_with fail
        refine (hK _ hT).mono ?_
        rintro e w1 ⟨rfl, hB1⟩
        go_wp2_with fail
        refine (hL _ (hT.below hB1)).mono ?_
        rintro e w2 ⟨rfl, hB2⟩
        have hB3 := hB1.trans (hB2.mono hB1.size)
        go_wp2_with fail
        refine (hP _ (hM.below hB3)).mono ?_
        rintro e w3 ⟨rfl, hw3⟩
        have hO := Str.Own.lit w2 A hAl
        rw [← hw3] at hO
        have hB4 : Below w2.heap.size w2 w3 := by rw [hw3]; exact (Below.refl _ _).alloc (Nat.le_refl _) _
        clear hw3
        go_wp2_with fail
        refine (cloned_any _ _ _ A _ hO hAs).mono ?_
        rintro e w4 ⟨rfl, hO4, hg⟩
        go_wp2
        refine bodyPost_ret (v := .tuple #[.slice (some ⟨w2.heap.size, 0, none⟩) A.length A.length, .int .i64 0]) (by simp [results, Tryd.results7, go_sem, Act.put]) rfl ?_
        have hB5 : Below w2.heap.size w3 w4 := gb_to hg (fun k hk => by simp at hk; omega) hB4.size
        exact ⟨_, _, rfl, hO4.mono hB3.size, hB3.trans ((hB4.trans hB5).mono hB3.size)⟩
end Go.Proofs.YtiihfaohdgkhaaaDoor
