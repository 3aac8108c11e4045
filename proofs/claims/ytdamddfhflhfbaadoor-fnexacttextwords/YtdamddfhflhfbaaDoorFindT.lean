import Derived.Test.YtdamddfhflhfbaaDoorFindI
import Derived.Test.YtdamddfhflhfbaaDoorPutS
namespace Go.Proofs.YtdamddfhflhfbaaDoor
open Go.RowKit Go.Lib Go.Shelf
set_option linter.unusedVariables false
set_option linter.unusedSimpArgs false

/-- What TextFind answers. -/
def findAns (s t : ByteArray) (fr : Int) : Int :=
  match textOf s with
  | none => -1
  | some rs => if (textOf t).isSome = true ∧ fr ≤ (rs.length : Int) then (if findFrom s t (offOf rs fr.toNat) < 0 then -1 else (heads (s.data.toList.take (findFrom s t (offOf rs fr.toNat)).toNat) : Int)) else -1
theorem take_extract (s : ByteArray) (k : Nat) : (s.extract 0 k).data.toList = s.data.toList.take k := by
  rw [ByteArray.data_extract, Array.toList_extract]
  simp [List.extract_eq_take_drop]
theorem findFrom_spec (s t : ByteArray) (p : Nat) (hp : p ≤ s.size) : findFrom s t p = -1 ∨ ∃ i : Nat, index (s.data.toList.drop p) t.data.toList = (i : Int) ∧ findFrom s t p = ((p + i : Nat) : Int) ∧ p + i + t.size ≤ s.size ∧ occAt s.data.toList t.data.toList (p + i) = true := by
  have hl : s.data.toList.length = s.size := (size_eq s).symm
  have ht : t.data.toList.length = t.size := (size_eq t).symm
  rcases index_spec (s.data.toList.drop p) t.data.toList with ⟨h, _⟩ | ⟨i, h, hi, ho, _⟩
  · left; unfold findFrom; rw [h]; rfl
  · right
    have hro := index_room (s.data.toList.drop p) t.data.toList (by rw [h]; omega)
    rw [h, List.length_drop] at hro
    refine ⟨i, h, ?_, by omega, ?_⟩
    · unfold findFrom; rw [h, if_neg (by omega)]; omega
    · unfold occAt at ho ⊢; rw [List.drop_drop] at ho; exact ho
theorem find_boundary {s t : ByteArray} {rs ts : List Nat} {n : Nat} (hs : textOf s = some rs) (ht : textOf t = some ts) (hn : n ≤ rs.length) {q : Nat} (hq : findFrom s t (offOf rs n) = (q : Int)) :
    ∃ m, m ≤ rs.length ∧ q = offOf rs m := by
  obtain ⟨hs1, hs2, hs3⟩ := text_iff.1 hs
  obtain ⟨ht1, ht2, ht3⟩ := text_iff.1 ht
  have hsz : (encs rs).length = s.size := by rw [← hs2, ← size_eq]
  rcases findFrom_spec s t (offOf rs n) (by rw [← hsz]; exact offOf_le rs n) with h | ⟨i, h1, h2, h3, h4⟩
  · rw [h] at hq; omega
  · rw [h2] at hq
    obtain rfl : offOf rs n + i = q := by omega
    cases ts with
    | nil =>
      rw [ht2, encs_nil, index_empty] at h1
      exact ⟨n, hn, by omega⟩
    | cons r ts =>
      obtain ⟨b, tl, e, hb, _⟩ := enc_shape r (ht3 r (.head _))
      have hhd : s.data.toList[offOf rs n + i]? = some b := by
        unfold occAt at h4
        rw [List.isPrefixOf_iff_prefix] at h4
        obtain ⟨u, hu⟩ := h4
        rw [ht2, encs_cons, e] at hu
        have : (s.data.toList.drop (offOf rs n + i))[0]? = some b := by rw [← hu]; rfl
        rwa [List.getElem?_drop, Nat.add_zero] at this
      rw [hs2] at hhd
      obtain ⟨m, hm, hme⟩ := off_of_head rs _ b hs3 hhd hb
      exact ⟨m, by omega, hme⟩
theorem len_prefix {s : ByteArray} {rs : List Nat} (hs : textOf s = some rs) {m q : Nat} (hm : m ≤ rs.length) (hq : q = offOf rs m) :
    lenOf (textOf (s.extract 0 q)) = (heads (s.data.toList.take q) : Int) := by
  obtain ⟨hs1, hs2, hs3⟩ := text_iff.1 hs
  have hsz : (encs rs).length = s.size := by rw [← hs2, ← size_eq]
  have hqs : q ≤ s.size := by rw [hq, ← hsz]; exact offOf_le rs m
  have hsc : ∀ r ∈ rs.take m, Scalar r := fun r h => hs3 r (List.mem_of_mem_take h)
  have h1 : textOf (s.extract 0 q) = some (rs.take m) := by
    rw [text_iff, take_extract, hs2, hq, encs_take]
    refine ⟨?_, rfl, hsc⟩
    rw [size_eq, take_extract, List.length_take]
    rw [size_eq] at hs1
    omega
  have h2 : s.data.toList.take q = encs (rs.take m) := by rw [hs2, hq, encs_take]
  rw [h1, h2, heads_encs _ hsc]; rfl
set_option maxHeartbeats 1000000 in
set_option maxRecDepth 100000 in
theorem textFindS_any (s t : ByteArray) (fr : Int) (w : World) (hs : s.size ≤ 16777216) (ht : t.size ≤ 16777216) (hf0 : -9223372036854775808 ≤ fr) (hf1 : fr ≤ 9223372036854775807) :
    Calls Tryd.prog 18 #[.string s, .string t, .int .i64 fr] w fun e w' => e = .returned (.int .i64 (findAns s t fr)) ∧ Below w.heap.size w w' := by
  have hR := l3Runes_any s w (by omega)
  have hK := fun W => textOkS_any t W (by omega)
  cases hA : textOf s with
  | none =>
    have hfa : findAns s t fr = -1 := by unfold findAns; rw [hA]
    rw [hA, show (none : Option (List Nat)).isSome = false from rfl] at hR
    rw [hfa]
    clear hA hfa hK
    go_enter Tryd.func18, Tryd.ntmps18
    go_wp2_with (go_at_call 40; refine hR.mono ?_; rintro e w1 ⟨a1, c1, rfl, hO1, hB1⟩)
    go_ret
    exact ⟨rfl, hB1⟩
  | some rs =>
    rw [hA, ansL_length, show (some rs).isSome = true from rfl] at hR
    cases hB : (textOf t).isSome with
    | false =>
      have hfa : findAns s t fr = -1 := by unfold findAns; rw [hA]; simp [hB]
      rw [hB] at hK
      rw [hfa]
      clear hA hfa hB
      go_enter Tryd.func18, Tryd.ntmps18
      go_wp2_with (first | (go_at_call 40; refine hR.mono ?_; rintro e w1 ⟨a1, c1, rfl, hO1, hB1⟩) | (go_at_call 41; refine (hK _).mono ?_; rintro e w2 ⟨rfl, hB2⟩))
      go_ret
      exact ⟨rfl, hB1.trans (hB2.mono hB1.size)⟩
    | true =>
      rw [hB] at hK
      by_cases hfl : fr ≤ (rs.length : Int)
      · obtain ⟨hs1, hs2, hs3⟩ := text_iff.1 hA
        have hsz : (encs rs).length = s.size := by rw [← hs2, ← size_eq]
        have hrl : rs.length ≤ 16384 := by have := encs_len rs hs3; omega
        obtain ⟨n, hn⟩ : ∃ n : Nat, fr.toNat = n := ⟨_, rfl⟩
        have hnl : n ≤ rs.length := by omega
        have hle : offOf rs n ≤ s.size := by rw [← hsz]; exact offOf_le rs n
        have hX := fun a cap W h => l3Text_any a cap (rs.take n) W h (fun r h => hs3 r (List.mem_of_mem_take h)) (by simp; omega)
        have hll : (rs.take n).length = n := by simp; omega
        rw [hll] at hX
        obtain ⟨T, hT⟩ : ∃ T : ByteArray, (⟨(encs (rs.take n)).toArray⟩ : ByteArray) = T := ⟨_, rfl⟩
        have hTs : T.size = offOf rs n := by rw [← hT]; unfold offOf; show (encs (rs.take n)).toArray.size = _; simp
        rw [hT] at hX
        obtain ⟨p, hp⟩ : ∃ p, offOf rs n = p := ⟨_, rfl⟩
        rw [hp] at hTs hle
        have hF := fun W => l3Find_any s t p W hs ht hle
        have hfa : findAns s t fr = (if findFrom s t p < 0 then -1 else (heads (s.data.toList.take (findFrom s t p).toNat) : Int)) := by
          unfold findAns; rw [hA]; simp only; rw [if_pos ⟨hB, hfl⟩, hn, hp]
        rw [hfa]
        clear hT hs2 hs3 hsz hB
        have hgt : ¬ (rs.length : Int) < fr := by omega
        rcases findFrom_spec s t p hle with h | ⟨i, h1, h2, h3, h4⟩
        · rw [h] at hF ⊢
          rw [if_pos (by omega)]
          clear hA hfa h
          by_cases hz : fr < 0
          · skip
            obtain rfl : n = 0 := by omega
            clear hn
            go_enter Tryd.func18, Tryd.ntmps18
            go_wp2_with fail
            refine hR.mono ?_
            rintro e w1 ⟨a1, c1, rfl, hO1, hB1⟩
            have hcap : rs.length ≤ c1 := by
              obtain ⟨a2, c2, e2, _, _, h5, _⟩ := hO1.rd
              simp only [Value.slice.injEq] at e2
              obtain ⟨_, _, rfl⟩ := e2
              have := h5.1
              rw [ansL_length] at this; exact this
            have hcz : (0 : Int) ≤ (c1 : Int) := by omega
            have HRd : Hid (Rd w1 (.slice a1 0 c1) ((rs.take 0).map fun (n : Nat) => (n : Int))) := by
              have h6 := hO1.rd.upto 0 (by rw [ansL_length]; exact hnl)
              rw [show (ansL (some rs)).take 0 = (rs.take 0).map (fun (n : Nat) => (n : Int)) from List.map_take.symm] at h6
              exact h6
            clear hcap hR
            go_wp2_with fail
            refine (hK _).mono ?_
            rintro e w2 ⟨rfl, hB2⟩
            clear hK
            go_wp2_with fail
            refine (hX _ _ _ (HRd.out.keep hB2)).mono ?_
            rintro e w3 ⟨rfl, hB3⟩
            clear hX HRd
            go_wp2_with fail
            refine (hF _).mono ?_
            rintro e w4 ⟨rfl, rfl⟩
            have hBB := hB1.trans ((hB2.trans (hB3.mono hB2.size)).mono hB1.size)
            clear hF hB1 hB2 hB3 hO1
            go_wp2
            go_ret
            exact ⟨rfl, hBB⟩
          · skip
            obtain rfl : fr = (n : Int) := by omega
            clear hn
            go_enter Tryd.func18, Tryd.ntmps18
            go_wp2_with fail
            refine hR.mono ?_
            rintro e w1 ⟨a1, c1, rfl, hO1, hB1⟩
            have hcap : rs.length ≤ c1 := by
              obtain ⟨a2, c2, e2, _, _, h5, _⟩ := hO1.rd
              simp only [Value.slice.injEq] at e2
              obtain ⟨_, _, rfl⟩ := e2
              have := h5.1
              rw [ansL_length] at this; exact this
            have hcz : (n : Int) ≤ (c1 : Int) := by omega
            have HRd : Hid (Rd w1 (.slice a1 n c1) ((rs.take n).map fun (n : Nat) => (n : Int))) := by
              have h6 := hO1.rd.upto n (by rw [ansL_length]; exact hnl)
              rw [show (ansL (some rs)).take n = (rs.take n).map (fun (n : Nat) => (n : Int)) from List.map_take.symm] at h6
              exact h6
            clear hcap hR
            go_wp2_with fail
            refine (hK _).mono ?_
            rintro e w2 ⟨rfl, hB2⟩
            clear hK
            go_wp2_with fail
            refine (hX _ _ _ (HRd.out.keep hB2)).mono ?_
            rintro e w3 ⟨rfl, hB3⟩
            clear hX HRd
            go_wp2_with fail
            refine (hF _).mono ?_
            rintro e w4 ⟨rfl, rfl⟩
            have hBB := hB1.trans ((hB2.trans (hB3.mono hB2.size)).mono hB1.size)
            clear hF hB1 hB2 hB3 hO1
            go_wp2
            go_ret
            exact ⟨rfl, hBB⟩
        · rw [h2] at hF ⊢
          obtain ⟨q, hq⟩ : ∃ q, p + i = q := ⟨_, rfl⟩
          rw [hq] at hF h3 ⊢
          rw [if_neg (by omega)]
          have hL := fun W => l3Len_any (s.extract 0 q) W (by rw [size_eq, take_extract, List.length_take]; omega)
          rw [take_extract] at hL
          have hqz : (q : Int) ≤ (s.size : Int) := by omega
          have hq0 : ¬ (q : Int) < 0 := by omega
          rw [show ((q : Int)).toNat = q from rfl]
          generalize heads (s.data.toList.take q) = A at hL ⊢
          clear hA hfa h1 h2 h4 hq
          by_cases hz : fr < 0
          · skip
            obtain rfl : n = 0 := by omega
            clear hn
            go_enter Tryd.func18, Tryd.ntmps18
            go_wp2_with fail
            refine hR.mono ?_
            rintro e w1 ⟨a1, c1, rfl, hO1, hB1⟩
            have hcap : rs.length ≤ c1 := by
              obtain ⟨a2, c2, e2, _, _, h5, _⟩ := hO1.rd
              simp only [Value.slice.injEq] at e2
              obtain ⟨_, _, rfl⟩ := e2
              have := h5.1
              rw [ansL_length] at this; exact this
            have hcz : (0 : Int) ≤ (c1 : Int) := by omega
            have HRd : Hid (Rd w1 (.slice a1 0 c1) ((rs.take 0).map fun (n : Nat) => (n : Int))) := by
              have h6 := hO1.rd.upto 0 (by rw [ansL_length]; exact hnl)
              rw [show (ansL (some rs)).take 0 = (rs.take 0).map (fun (n : Nat) => (n : Int)) from List.map_take.symm] at h6
              exact h6
            clear hcap hR
            go_wp2_with fail
            refine (hK _).mono ?_
            rintro e w2 ⟨rfl, hB2⟩
            clear hK
            go_wp2_with fail
            refine (hX _ _ _ (HRd.out.keep hB2)).mono ?_
            rintro e w3 ⟨rfl, hB3⟩
            clear hX HRd
            go_wp2_with fail
            refine (hF _).mono ?_
            rintro e w4 ⟨rfl, rfl⟩
            have hBB := hB1.trans ((hB2.trans (hB3.mono hB2.size)).mono hB1.size)
            clear hF hB1 hB2 hB3 hO1
            go_wp2_with fail
            refine (hL _).mono ?_
            rintro e w5 ⟨rfl, rfl⟩
            go_wp2
            go_ret
            exact ⟨rfl, hBB⟩
          · skip
            obtain rfl : fr = (n : Int) := by omega
            clear hn
            go_enter Tryd.func18, Tryd.ntmps18
            go_wp2_with fail
            refine hR.mono ?_
            rintro e w1 ⟨a1, c1, rfl, hO1, hB1⟩
            have hcap : rs.length ≤ c1 := by
              obtain ⟨a2, c2, e2, _, _, h5, _⟩ := hO1.rd
              simp only [Value.slice.injEq] at e2
              obtain ⟨_, _, rfl⟩ := e2
              have := h5.1
              rw [ansL_length] at this; exact this
            have hcz : (n : Int) ≤ (c1 : Int) := by omega
            have HRd : Hid (Rd w1 (.slice a1 n c1) ((rs.take n).map fun (n : Nat) => (n : Int))) := by
              have h6 := hO1.rd.upto n (by rw [ansL_length]; exact hnl)
              rw [show (ansL (some rs)).take n = (rs.take n).map (fun (n : Nat) => (n : Int)) from List.map_take.symm] at h6
              exact h6
            clear hcap hR
            go_wp2_with fail
            refine (hK _).mono ?_
            rintro e w2 ⟨rfl, hB2⟩
            clear hK
            go_wp2_with fail
            refine (hX _ _ _ (HRd.out.keep hB2)).mono ?_
            rintro e w3 ⟨rfl, hB3⟩
            clear hX HRd
            go_wp2_with fail
            refine (hF _).mono ?_
            rintro e w4 ⟨rfl, rfl⟩
            have hBB := hB1.trans ((hB2.trans (hB3.mono hB2.size)).mono hB1.size)
            clear hF hB1 hB2 hB3 hO1
            go_wp2_with fail
            refine (hL _).mono ?_
            rintro e w5 ⟨rfl, rfl⟩
            go_wp2
            go_ret
            exact ⟨rfl, hBB⟩
      · have hfa : findAns s t fr = -1 := by unfold findAns; rw [hA]; simp only; rw [if_neg (fun h => hfl h.2)]
        have hfz : (rs.length : Int) < fr := by omega
        rw [hfa]
        clear hA hfa hB hfl
        go_enter Tryd.func18, Tryd.ntmps18
        go_wp2_with (first | (go_at_call 40; refine hR.mono ?_; rintro e w1 ⟨a1, c1, rfl, hO1, hB1⟩) | (go_at_call 41; refine (hK _).mono ?_; rintro e w2 ⟨rfl, hB2⟩))
        go_ret
        exact ⟨rfl, hB1.trans (hB2.mono hB1.size)⟩
end Go.Proofs.YtdamddfhflhfbaaDoor
