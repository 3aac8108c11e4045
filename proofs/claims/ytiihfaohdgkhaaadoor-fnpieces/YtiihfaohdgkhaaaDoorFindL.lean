import Derived.Test.YtiihfaohdgkhaaaDoorFindT
import Derived.Test.YtiihfaohdgkhaaaDoorMaxC
namespace Go.Proofs.YtiihfaohdgkhaaaDoor
open Go.RowKit Go.Lib Go.Shelf
set_option linter.unusedVariables false
set_option linter.unusedSimpArgs false

theorem index_at (s t : ByteArray) (w : World) (h : MaxL w) (hs : s.size < 4294967281) :
    Calls Tryd.prog 23 #[.string s, .string t] w fun e w' => e = .returned (.int .i64 (Lib.index s.data.toList t.data.toList)) ∧ w' = w := by
  obtain ⟨m, hm⟩ := h
  exact Any.strings_Index Tryd.laysIndex s t m w hs hm
set_option maxHeartbeats 1000000 in
set_option maxRecDepth 100000 in
theorem textFind_any (s t : ByteArray) (fr : Int) (w : World) (hs : s.size ≤ 16777216) (ht : t.size ≤ 16777216) (hf0 : -9223372036854775808 ≤ fr) (hf1 : fr ≤ 9223372036854775807) (hT : Tabs w) (hM : MaxL w) :
    Calls Tryd.prog 10 #[.string s, .string t, .int .i64 fr] w fun e w' => e = .returned (.int .i64 (findAns s t fr)) ∧ Below w.heap.size w w' := by
  have hK := fun x W (h : x.size ≤ 16777216) hT => textOk_any x W (by omega) hT
  have hK1 := hK s w hs hT
  cases hA : textOf s with
  | none =>
    have hfa : findAns s t fr = -1 := by unfold findAns; rw [hA]
    rw [hA, show (none : Option (List Nat)).isSome = false from rfl] at hK1
    rw [hfa]
    clear hA hfa hK
    go_enter Tryd.func10, Tryd.ntmps10
    go_wp2_with fail
    refine hK1.mono ?_
    rintro e w1 ⟨rfl, hB1⟩
    go_wp2
    go_ret
    exact ⟨rfl, hB1⟩
  | some rs =>
    rw [hA, show (some rs).isSome = true from rfl] at hK1
    have hK2 := fun W hT => hK t W ht hT
    cases hB : textOf t with
    | none =>
      have hfa : findAns s t fr = -1 := by unfold findAns; rw [hA]; simp [hB]
      rw [hB, show (none : Option (List Nat)).isSome = false from rfl] at hK2
      rw [hfa]
      clear hA hfa hB hK
      go_enter Tryd.func10, Tryd.ntmps10
      go_wp2_with fail
      refine hK1.mono ?_
      rintro e w1 ⟨rfl, hB1⟩
      go_wp2_with fail
      refine (hK2 _ (hT.below hB1)).mono ?_
      rintro e w2 ⟨rfl, hB2⟩
      go_wp2
      go_ret
      exact ⟨rfl, hB1.trans (hB2.mono hB1.size)⟩
    | some ts =>
      rw [hB, show (some ts).isSome = true from rfl] at hK2
      obtain ⟨hs1, hs2, hs3⟩ := text_iff.1 hA
      have hsz : (encs rs).length = s.size := by rw [← hs2, ← size_eq]
      have hrl : rs.length ≤ 16384 := by have := encs_len rs hs3; omega
      obtain ⟨n, hn⟩ : ∃ n : Nat, fr.toNat = n := ⟨_, rfl⟩
      have hY := fun W => byteAt_any s rs n W hA (by omega)
      have hmx : max fr 0 = (n : Int) := by omega
      by_cases hfl : fr ≤ (rs.length : Int)
      · have hnl : n ≤ rs.length := by omega
        have hle : offOf rs n ≤ s.size := by rw [← hsz]; exact offOf_le rs n
        rw [decide_eq_true hnl] at hY
        obtain ⟨p, hp⟩ : ∃ p, offOf rs n = p := ⟨_, rfl⟩
        have hfb := fun q hq => find_boundary hA hB hnl (q := q) hq
        rw [hp] at hY hle hfb
        have hfa : findAns s t fr = (if findFrom s t p < 0 then -1 else (heads (s.data.toList.take (findFrom s t p).toNat) : Int)) := by
          unfold findAns; rw [hA]; simp only; rw [if_pos ⟨by rw [hB]; rfl, hfl⟩, hn, hp]
        rw [hfa]
        have hI := fun W h => index_at (s.extract p s.size) t W h (by rw [size_eq, Lib.extract_to_end, List.length_drop, ← size_eq]; omega)
        rw [Lib.extract_to_end] at hI
        have hlz : (p : Int) ≤ (s.size : Int) := by omega
        rcases findFrom_spec s t p hle with h | ⟨i, h1, h2, h3, h4⟩
        · have hi : index (s.data.toList.drop p) t.data.toList = -1 := by
            rcases index_spec (s.data.toList.drop p) t.data.toList with ⟨h5, _⟩ | ⟨i, h5, _⟩
            · exact h5
            · exfalso; unfold findFrom at h; rw [h5, if_neg (by omega)] at h; omega
          rw [hi] at hI
          rw [h, if_pos (by omega)]
          clear hA hB hs2 hs3 hsz hfa hfb h hi hK hn hp
          go_enter Tryd.func10, Tryd.ntmps10
          go_wp2_with fail
          refine hK1.mono ?_
          rintro e w1 ⟨rfl, hB1⟩
          go_wp2_with fail
          refine (hK2 _ (hT.below hB1)).mono ?_
          rintro e w2 ⟨rfl, hB2⟩
          have hB12 := hB1.trans (hB2.mono hB1.size)
          go_wp2_with fail
          refine (hY _).mono ?_
          rintro e w3 ⟨rfl, hB3⟩
          have hB13 := hB12.trans (hB3.mono hB12.size)
          go_wp2_with fail
          refine (hI _ (hM.below hB13)).mono ?_
          rintro e w4 ⟨rfl, rfl⟩
          go_wp2
          go_ret
          exact ⟨rfl, hB13⟩
        · obtain ⟨q, hq⟩ : ∃ q, p + i = q := ⟨_, rfl⟩
          rw [hq] at h2 h3
          obtain ⟨m, hm, hqm⟩ := hfb q h2
          have hlp := len_prefix hA hm hqm
          rw [h1] at hI
          rw [h2, if_neg (by omega), show ((q : Int)).toNat = q from rfl]
          have hL := fun W hT => textLen_any (s.extract 0 q) W (by rw [size_eq, take_extract, List.length_take]; omega) hT
          rw [hlp] at hL
          generalize heads (s.data.toList.take q) = A at hL ⊢
          have hw := wrap_id' (a := (p : Int) + (i : Int)) (by omega) (by omega)
          have hpq : (p : Int) + (i : Int) = (q : Int) := by omega
          rw [hpq] at hw
          have hqz : (q : Int) ≤ (s.size : Int) := by omega
          have hi0 : ¬ (i : Int) < 0 := by omega
          clear hA hB hs2 hs3 hsz hfa hfb h1 h2 h4 hK hn hp hqm hlp hq
          go_enter Tryd.func10, Tryd.ntmps10
          go_wp2_with fail
          refine hK1.mono ?_
          rintro e w1 ⟨rfl, hB1⟩
          go_wp2_with fail
          refine (hK2 _ (hT.below hB1)).mono ?_
          rintro e w2 ⟨rfl, hB2⟩
          have hB12 := hB1.trans (hB2.mono hB1.size)
          go_wp2_with fail
          refine (hY _).mono ?_
          rintro e w3 ⟨rfl, hB3⟩
          have hB13 := hB12.trans (hB3.mono hB12.size)
          go_wp2_with fail
          refine (hI _ (hM.below hB13)).mono ?_
          rintro e w4 ⟨rfl, rfl⟩
          go_wp2_with fail
          refine (hL _ (hT.below hB13)).mono ?_
          rintro e w5 ⟨rfl, hB5⟩
          go_wp2
          go_ret
          exact ⟨rfl, hB13.trans (hB5.mono hB13.size)⟩
      · have hnl : ¬ n ≤ rs.length := by omega
        rw [decide_eq_false hnl] at hY
        have hfa : findAns s t fr = -1 := by unfold findAns; rw [hA]; simp only; rw [if_neg (fun h => hfl h.2)]
        rw [hfa]
        clear hA hB hs2 hs3 hsz hfa hK hn
        go_enter Tryd.func10, Tryd.ntmps10
        go_wp2_with fail
        refine hK1.mono ?_
        rintro e w1 ⟨rfl, hB1⟩
        go_wp2_with fail
        refine (hK2 _ (hT.below hB1)).mono ?_
        rintro e w2 ⟨rfl, hB2⟩
        have hB12 := hB1.trans (hB2.mono hB1.size)
        go_wp2_with fail
        refine (hY _).mono ?_
        rintro e w3 ⟨rfl, hB3⟩
        go_wp2
        go_ret
        exact ⟨rfl, hB12.trans (hB3.mono hB12.size)⟩
end Go.Proofs.YtiihfaohdgkhaaaDoor
