import Derived.Test.YtlnekedehalbdaaPsR
import Derived.Laws.CopyOwn
namespace Go.Proofs.Ytlnekedehalbdaa
open Go.RowKit
set_option linter.unusedVariables false
set_option linter.unusedSimpArgs false

theorem Try.size2 : (Try.prog.info? 2).map (·.size) = some 1 := by
  obtain ⟨i0, hi, h0, h1, h2⟩ := info_parts Try.info2
  rw [hi]; simp [h1]
theorem addr_add (b off j : Nat) : (⟨b, off, none⟩ : Addr).add j = ⟨b, off + j, none⟩ := by unfold Addr.add; split <;> simp_all
/-- A piece of a row, moved on by one. -/
theorem Own.shift {w : World} {B g N c h u dLen dCap sLen sCap : Nat} {H U R : List Int} {x : Int} (hO : Own w B (.slice (some ⟨g, 0, none⟩) N c) (H ++ ((U ++ [x]) ++ R))) (hh : H.length = h) (hu : U.length = u) (hu0 : 0 < u) (hd : u ≤ dLen) (hs : sLen = u) :
    ∃ w', (Builtin.copy_ #[22, 22] 3 #[.slice (some ⟨g, h + 1, none⟩) dLen dCap, .slice (some ⟨g, h, none⟩) sLen sCap]).run Try.prog w = .ok (.int .i64 (u : Int)) w' ∧ Own w' B (.slice (some ⟨g, 0, none⟩) N c) (H ++ ((U.headD 0 :: U) ++ R)) ∧ w.grownBy w' (some g) := by
  have hcell := hO.cell
  have hN := hO.len
  obtain ⟨⟨h1, h2⟩, h3, h4⟩ := hO
  rcases h2 with ⟨e, _⟩ | ⟨g', cap', cur, e, hg, hh2, hc, hm, hs2, ht⟩
  · cases e
  · simp only [Value.slice.injEq, Option.some.injEq, Addr.mk.injEq, and_true] at e
    obtain ⟨rfl, -, rfl⟩ := e
    have hlen : (H ++ ((U ++ [x]) ++ R)).length = N := hN.symm
    simp only [List.length_append, List.length_singleton, hh, hu] at hlen
    rw [← hN, Nat.mul_one] at ht
    rw [← hN] at hc h3
    have hcs : c = cur.size := by omega
    have hr := run_copy_row (P := Try.prog) w 22 22 3 2 g (h + 1) dLen dCap ⟨g, h, none⟩ sLen sCap cur 2 (U.map (Value.int .i64)) Try.underlying22 Try.size2 hh2 (by rw [List.length_map, hu, hs]; exact (Nat.min_eq_left hd).symm) (fun j v hj => by
      have hj' : j < U.length := by
        rcases Nat.lt_or_ge j U.length with h | h
        · exact h
        · rw [List.getElem?_eq_none (by simpa using h)] at hj; cases hj
      have := hcell (h + j) (by simp [hh, hu]; omega)
      rw [← hh, List.append_assoc, mid_get H U ([x] ++ R) j hj'] at this
      rw [addr_add, ← hh, this]
      simp [hj', List.getD] at hj ⊢
      exact hj) (by simp [hu]; omega) (fun v hv => by simp at hv; obtain ⟨y, _, rfl⟩ := hv; rfl)
    refine ⟨w.setRow g ((cur.toList.take (h + 1) ++ U.map (Value.int .i64) ++ cur.toList.drop (h + 1 + (U.map (Value.int .i64)).length)).toArray), by rw [hr]; simp [goInt, hu], ?_, ?_⟩
    · have h5 := setRow_heap w g cur ((cur.toList.take (h + 1) ++ U.map (Value.int .i64) ++ cur.toList.drop (h + 1 + (U.map (Value.int .i64)).length)).toArray) 2 _ hh2
      have hll : (H ++ ((U.headD 0 :: U) ++ R)).length = N := by simp [hh, hu]; omega
      refine ⟨⟨by simp, .inr ⟨g, c, _, by rw [hll], hg, h5, by rw [hll]; omega, hm, ?_, ?_⟩⟩, by rw [hll]; exact h3, ?_⟩
      · simp [hu, hcs]; omega
      · rw [hll, Nat.mul_one]
        have e1 : cur.toList.take N = (H ++ ((U ++ [x]) ++ R)).map (Value.int .i64) := ht
        obtain ⟨y, U2, rfl⟩ : ∃ y U2, U = y :: U2 := by cases U with | nil => simp at hu; omega | cons y r => exact ⟨y, r, rfl⟩
        simp only [List.headD_cons]
        have e2 : cur.toList = cur.toList.take N ++ cur.toList.drop N := (List.take_append_drop _ _).symm
        obtain ⟨CR, hCR⟩ : ∃ CR, cur.toList.drop N = CR := ⟨_, rfl⟩
        rw [hCR, e1] at e2
        have e3 : cur.toList.take (h + 1) = (H ++ [y]).map (Value.int .i64) := by
          rw [e2, List.take_append_of_le_length (by simp [hh, ← hu]), ← List.map_take]
          congr 1
          rw [show H ++ ((y :: U2 ++ [x]) ++ R) = (H ++ [y]) ++ (U2 ++ [x] ++ R) by simp, List.take_append_of_le_length (by simp [hh]), List.take_of_length_le (by simp [hh])]
        have e4 : cur.toList.drop (h + 1 + u) = R.map (Value.int .i64) ++ CR := by
          rw [e2, List.drop_append_of_le_length (by simp [hh, ← hu]; omega), ← List.map_drop]
          congr 2
          rw [show H ++ ((y :: U2 ++ [x]) ++ R) = (H ++ (y :: U2) ++ [x]) ++ R by simp, List.drop_append_of_le_length (by simp [hh, ← hu]; omega), List.drop_of_length_le (by simp [hh, ← hu]; omega)]
          simp
        simp only [List.length_map, hu]
        rw [e3, e4]
        rw [show (H ++ [y]).map (Value.int .i64) ++ (y :: U2).map (Value.int .i64) ++ (R.map (Value.int .i64) ++ CR) = (H ++ ((y :: (y :: U2)) ++ R)).map (Value.int .i64) ++ CR by simp]
        rw [List.take_append_of_le_length (by simp [hh, ← hu] at hlen ⊢; omega), List.take_of_length_le (by simp [hh, ← hu] at hlen ⊢; omega)]
      · intro z hz
        obtain ⟨y, U2, rfl⟩ : ∃ y U2, U = y :: U2 := by cases U with | nil => simp at hu; omega | cons y r => exact ⟨y, r, rfl⟩
        apply h4 z
        simp only [List.headD_cons, List.mem_append, List.mem_cons] at hz ⊢
        rcases hz with hz | (hz | hz | hz) | hz
        · exact .inl hz
        · exact .inr (.inl (.inl (.inl hz)))
        · exact .inr (.inl (.inl (.inl hz)))
        · exact .inr (.inl (.inl (.inr hz)))
        · exact .inr (.inr hz)
    · exact ⟨rfl, rfl, rfl, by simp [World.setRow], fun k hk hne => by simp only [World.setRow, Array.getElem?_modify]; rw [if_neg (fun e => hne (by rw [e]))]⟩
end Go.Proofs.Ytlnekedehalbdaa
