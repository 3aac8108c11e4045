import Derived.Test.YtebpaobjonlelaaDoorSlcU
namespace Go.Proofs.YtebpaobjonlelaaDoor
open Go.RowKit
set_option linter.unusedVariables false
set_option linter.unusedSimpArgs false

theorem ans_len (n : Int) (lh : Bool) (la : Int) (hh : Bool) (ha : Int) (sh : Bool) (sa : Int) : (sliceAns n lh la hh ha sh sa).1.length ≤ 16384 := by
  unfold sliceAns
  by_cases h1 : n < 0 ∨ 16384 < n
  · rw [if_pos h1]; simp
  · rw [if_neg h1]
    by_cases h2 : (if sh = true then sa else 1) = 0
    · rw [if_pos h2]; simp
    · rw [if_neg h2]
      by_cases h3 : 0 < (if sh = true then sa else 1)
      · rw [if_pos h3]
        have b1 := clampA_in (n := n) (at_ := la) (low := 0) (high := n) (none := 0) (has := lh) (by omega) (by omega) (by omega)
        have b2 := clampA_in (n := n) (at_ := ha) (low := 0) (high := n) (none := n) (has := hh) (by omega) (by omega) (by omega)
        refine Nat.le_trans (upL_len _ _ _) ?_
        omega
      · rw [if_neg h3]
        have b1 := clampA_in (n := n) (at_ := la) (low := (-1)) (high := (n - 1)) (none := (n - 1)) (has := lh) (by omega) (by omega) (by omega)
        have b2 := clampA_in (n := n) (at_ := ha) (low := (-1)) (high := (n - 1)) (none := (-1)) (has := hh) (by omega) (by omega) (by omega)
        refine Nat.le_trans (downL_len _ _ _) ?_
        omega
theorem upL_far (a : Int) (k m d : Nat) (hk : d ≤ k) (hm : d ≤ m) : upL a k d = upL a m d := by unfold upL; rw [stepsL_far k m d hk hm]
theorem downL_far (a : Int) (k m d : Nat) (hk : d ≤ k) (hm : d ≤ m) : downL a k d = downL a m d := by unfold downL; rw [stepsL_far k m d hk hm]
set_option maxHeartbeats 2000000 in
set_option maxRecDepth 100000 in
theorem placesI_any (n : Int) (lh : Bool) (la : Int) (hh : Bool) (ha : Int) (sh : Bool) (sa : Int) (aA aZ aL : Addr) (w : World)
    (hl0 : -9223372036854775808 ≤ la) (hl1 : la ≤ 9223372036854775807) (hh0 : -9223372036854775808 ≤ ha) (hh1 : ha ≤ 9223372036854775807) (hs0 : -9223372036854775808 ≤ sa) (hs1 : sa ≤ 9223372036854775807) (hE : Errs w aA aZ aL) :
    Calls Tryd.prog 16 #[.int .i64 n, bnd lh la, bnd hh ha, bnd sh sa] w fun e w' => ∃ ao co v, e = .returned (.tuple #[.slice ao (sliceAns n lh la hh ha sh sa).1.length co, v]) ∧ IsErr aA aZ aL v (sliceAns n lh la hh ha sh sa).2 ∧
      Own w' w.heap.size (.slice ao (sliceAns n lh la hh ha sh sa).1.length co) (sliceAns n lh la hh ha sh sa).1 ∧ Below w.heap.size w w' := by
  have bW : ∀ x, Below w.heap.size w (((w.alloc (Obj.cells #[.bool lh, .int .i64 la] 28)).alloc (Obj.cells #[.bool hh, .int .i64 ha] 28)).alloc (Obj.cells #[.bool sh, .int .i64 x] 28)) := fun x => (((Below.refl _ w).alloc (Nat.le_refl _) _).alloc (by simp) _).alloc (by simp; omega) _
  by_cases h1 : n < 0 ∨ 16384 < n
  · have hA : sliceAns n lh la hh ha sh sa = ([], 1) := by unfold sliceAns; rw [if_pos h1]
    rw [hA]
    have hg := (hE.below (bW sa)).1.1
    by_cases h2 : n < 0
    · skip
      go_enter Tryd.func16, Tryd.ntmps16
      go_wp2
      go_region_with fail
      all_goals (try go_wp2)
      all_goals refine bodyPost_ret (v := .tuple #[.slice none 0 0, .iface 63 (.agg #[.string ⟨#[97, 32, 115, 108, 105, 99, 101, 39, 115, 32, 108, 101, 110, 103, 116, 104]⟩, errAt aA])]) (by simp [results, Tryd.results16, go_sem, Act.put]) rfl ?_
      all_goals exact ⟨none, 0, _, rfl, .inr (.inr (.inr (.inr (.inl ⟨_, rfl, rfl⟩)))), Own.nil _ _, (by first | exact bW _ | exact (bW _).drew)⟩
    · have h3 : 16384 < n := by omega
      go_enter Tryd.func16, Tryd.ntmps16
      go_wp2
      go_region_with fail
      all_goals (try go_wp2)
      all_goals refine bodyPost_ret (v := .tuple #[.slice none 0 0, .iface 63 (.agg #[.string ⟨#[97, 32, 115, 108, 105, 99, 101, 39, 115, 32, 108, 101, 110, 103, 116, 104]⟩, errAt aA])]) (by simp [results, Tryd.results16, go_sem, Act.put]) rfl ?_
      all_goals exact ⟨none, 0, _, rfl, .inr (.inr (.inr (.inr (.inl ⟨_, rfl, rfl⟩)))), Own.nil _ _, (by first | exact bW _ | exact (bW _).drew)⟩
  · have hn0 : 0 ≤ n := by omega
    have hn1 : n ≤ 16384 := by omega
    by_cases h2 : (if sh = true then sa else 1) = 0
    · have hA : sliceAns n lh la hh ha sh sa = ([], 2) := by unfold sliceAns; rw [if_neg h1, if_pos h2]
      rw [hA]
      cases sh with
      | false => simp at h2
      | true =>
        obtain rfl : sa = 0 := by simpa using h2
        have hn2 : ¬ n < 0 := by omega
        have hn3 : ¬ 16384 < n := by omega
        have hmm : min (max (0 : Int) (-16384)) 16384 = 0 := by omega
        have hg := (hE.below (bW 0)).1.2.1
        clear h1 h2
        go_enter Tryd.func16, Tryd.ntmps16
        go_wp2
        go_region_with fail
        all_goals (try go_wp2)
        all_goals refine bodyPost_ret (v := .tuple #[.slice none 0 0, .iface 63 (.agg #[.string ⟨#[97, 32, 115, 108, 105, 99, 101, 39, 115, 32, 115, 116, 101, 112]⟩, errAt aZ])]) (by simp [results, Tryd.results16, go_sem, Act.put]) rfl ?_
        all_goals exact ⟨none, 0, _, rfl, .inr (.inr (.inr (.inr (.inr (.inl ⟨_, rfl, rfl⟩))))), Own.nil _ _, (by first | exact bW _ | exact (bW _).drew)⟩
    · have fin : ∀ (L : List Int), sliceAns n lh la hh ha sh sa = (L, 0) → (Calls Tryd.prog 16 #[.int .i64 n, bnd lh la, bnd hh ha, bnd sh sa] w fun e w' => ∃ ao co, e = .returned (.tuple #[.slice ao L.length co, .nilIface]) ∧ Own w' w.heap.size (.slice ao L.length co) L ∧ Below w.heap.size w w') →
          Calls Tryd.prog 16 #[.int .i64 n, bnd lh la, bnd hh ha, bnd sh sa] w fun e w' => ∃ ao co v, e = .returned (.tuple #[.slice ao (sliceAns n lh la hh ha sh sa).1.length co, v]) ∧ IsErr aA aZ aL v (sliceAns n lh la hh ha sh sa).2 ∧ Own w' w.heap.size (.slice ao (sliceAns n lh la hh ha sh sa).1.length co) (sliceAns n lh la hh ha sh sa).1 ∧ Below w.heap.size w w' := by
        intro L hL h
        rw [hL]
        refine h.mono ?_
        rintro e w' ⟨ao, co, rfl, hO, hB⟩
        exact ⟨ao, co, _, rfl, .inl ⟨rfl, rfl⟩, hO, hB⟩
      by_cases h3 : 0 < (if sh = true then sa else 1)
      · obtain ⟨k, hk⟩ : ∃ k : Nat, (if sh = true then sa else 1) = (k : Int) := ⟨(if sh = true then sa else 1).toNat, by omega⟩
        have b1 := clampA_in (n := n) (at_ := la) (low := 0) (high := n) (none := 0) (has := lh) (by omega) (by omega) (by omega)
        have b2 := clampA_in (n := n) (at_ := ha) (low := 0) (high := n) (none := n) (has := hh) (by omega) (by omega) (by omega)
        have hA : sliceAns n lh la hh ha sh sa = (upL (clampA n lh la 0 n 0) (min k 16384) (clampA n hh ha 0 n n - clampA n lh la 0 n 0).toNat, 0) := by
          unfold sliceAns; rw [if_neg h1, if_neg h2, if_pos h3, hk]
          show (upL _ k _, _) = _
          by_cases hm : k ≤ 16384
          · rw [Nat.min_eq_left hm]
          · rw [Nat.min_eq_right (by omega), upL_far _ k 16384 _ (by omega) (by omega)]
        refine fin _ hA (placesI_up n lh la hh ha sh sa w hn0 hn1 hl0 hl1 hh0 hh1 (min k 16384) ?_ (by omega))
        cases sh with
        | false => simp at hk ⊢; omega
        | true => simp at hk ⊢; omega
      · obtain ⟨k, hk⟩ : ∃ k : Nat, (if sh = true then sa else 1) = -(k : Int) := ⟨(-(if sh = true then sa else 1)).toNat, by omega⟩
        have b1 := clampA_in (n := n) (at_ := la) (low := (-1)) (high := (n - 1)) (none := (n - 1)) (has := lh) (by omega) (by omega) (by omega)
        have b2 := clampA_in (n := n) (at_ := ha) (low := (-1)) (high := (n - 1)) (none := (-1)) (has := hh) (by omega) (by omega) (by omega)
        have hA : sliceAns n lh la hh ha sh sa = (downL (clampA n lh la (-1) (n - 1) (n - 1)) (min k 16384) (clampA n lh la (-1) (n - 1) (n - 1) - clampA n hh ha (-1) (n - 1) (-1)).toNat, 0) := by
          unfold sliceAns; rw [if_neg h1, if_neg h2, if_neg h3, hk, Int.neg_neg]
          show (downL _ k _, _) = _
          by_cases hm : k ≤ 16384
          · rw [Nat.min_eq_left hm]
          · rw [Nat.min_eq_right (by omega), downL_far _ k 16384 _ (by omega) (by omega)]
        refine fin _ hA (placesI_down n lh la hh ha sh sa w hn0 hn1 hl0 hl1 hh0 hh1 (min k 16384) ?_ (by omega))
        cases sh with
        | false => simp at hk ⊢; omega
        | true => simp at hk ⊢; omega
end Go.Proofs.YtebpaobjonlelaaDoor
