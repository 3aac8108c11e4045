import Derived.Test.YtdamddfhflhfbaaDoorReprJ
namespace Go.Proofs.YtdamddfhflhfbaaDoor
open Go.RowKit Go.Lib Go.Shelf
set_option linter.unusedVariables false
set_option linter.unusedSimpArgs false

theorem reprAns_yes {s : ByteArray} {q : Nat} (h : (textOf s).isSome = true) (hq : quoteOf s = q) : reprAns s = reprTo q s s.size ++ [q.toUInt8] := by
  unfold reprAns
  rw [if_pos h, hq]
  unfold reprTo
  rw [List.take_of_length_le (by rw [← size_eq]; omega)]
set_option maxRecDepth 100000 in
theorem textReprS_any (s : ByteArray) (w : World) (hm : s.size ≤ 9223372036854775807) :
    Calls Tryd.prog 20 #[.string s] w fun e w' => e = .returned (.string ⟨(reprAns s).toArray⟩) ∧ Below w.heap.size w w' := by
  have hK := textOkS_any s w hm
  cases hok : (textOf s).isSome with
  | false =>
    have hA : reprAns s = [] := by unfold reprAns; rw [if_neg (by rw [hok]; decide)]
    rw [hA]
    rw [hok] at hK
    go_enter Tryd.func20, Tryd.ntmps20
    go_wp2_with fail
    refine hK.mono ?_
    rintro e w0 ⟨rfl, hB0⟩
    go_wp2
    go_ret
    exact ⟨rfl, hB0⟩
  | true =>
    rw [hok] at hK
    have hs : s.size ≤ 16384 := by
      obtain ⟨rs, hrs⟩ := Option.isSome_iff_exists.1 hok
      exact (text_scalars hrs).1
    cases h39 : s.data.toList.contains 39 with
    | false =>
      rw [reprAns_yes hok (show quoteOf s = 39 by unfold quoteOf; rw [if_neg]; rw [h39]; simp)]
      exact reprS_a s w hs hK h39
    | true =>
      cases h34 : s.data.toList.contains 34 with
      | true =>
        rw [reprAns_yes hok (show quoteOf s = 39 by unfold quoteOf; rw [if_neg]; rw [h34]; simp)]
        exact reprS_b s w hs hK h39 h34
      | false =>
        rw [reprAns_yes hok (show quoteOf s = 34 by unfold quoteOf; rw [if_pos ⟨h39, h34⟩])]
        exact reprS_c s w hs hK h39 h34
set_option maxRecDepth 100000 in
theorem textRepr_any (s : ByteArray) (w : World) (hm : s.size ≤ 9223372036854775807) (hT : Tabs w) :
    Calls Tryd.prog 21 #[.string s] w fun e w' => e = .returned (.string ⟨(reprAns s).toArray⟩) ∧ Below w.heap.size w w' := by
  have hK := textOk_any s w hm hT
  cases hok : (textOf s).isSome with
  | false =>
    have hA : reprAns s = [] := by unfold reprAns; rw [if_neg (by rw [hok]; decide)]
    rw [hA]
    rw [hok] at hK
    go_enter Tryd.func21, Tryd.ntmps21
    go_wp2_with fail
    refine hK.mono ?_
    rintro e w0 ⟨rfl, hB0⟩
    go_wp2
    go_ret
    exact ⟨rfl, hB0⟩
  | true =>
    rw [hok] at hK
    obtain ⟨rs, hrs⟩ := Option.isSome_iff_exists.1 hok
    obtain ⟨_, hse, hsc⟩ := text_scalars hrs
    have hB : ∀ q, q < 128 → quoteOf s = q → reprAns s = [q.toUInt8] ++ rs.flatMap (reprR q) ++ [q.toUInt8] := fun q hq h => by
      unfold reprAns
      rw [if_pos hok, h, hse, repr_encs q hq rs hsc]
    cases h39 : s.data.toList.contains 39 with
    | false =>
      rw [hB 39 (by decide) (by unfold quoteOf; rw [if_neg]; rw [h39]; simp)]
      exact reprI_a s rs w hrs hK h39
    | true =>
      cases h34 : s.data.toList.contains 34 with
      | true =>
        rw [hB 39 (by decide) (by unfold quoteOf; rw [if_neg]; rw [h34]; simp)]
        exact reprI_b s rs w hrs hK h39 h34
      | false =>
        rw [hB 34 (by decide) (by unfold quoteOf; rw [if_pos ⟨h39, h34⟩])]
        exact reprI_c s rs w hrs hK h39 h34
set_option maxRecDepth 100000 in
theorem law_textrepr (s : ByteArray) (W : World) (hT : Tabs W) :
    Calls Tryd.prog 5 #[.string s] W fun e w' => e = .returned (.bool true) ∧ Below W.heap.size W w' := by
  by_cases hbig : (1048576 : Int) < (s.size : Int)
  · go_enter Tryd.func5, Tryd.ntmps5
    go_wp2
    go_ret
    exact ⟨rfl, Below.refl _ _⟩
  · have hS := textReprS_any s W (by omega)
    have hG := fun w h => textRepr_any s w (by omega) h
    generalize (reprAns s).toArray = A at hS hG
    go_enter Tryd.func5, Tryd.ntmps5
    go_wp2_with fail
    refine hS.mono ?_
    rintro e w1 ⟨rfl, hB1⟩
    go_wp2_with fail
    refine (hG _ (hT.below hB1)).mono ?_
    rintro e w2 ⟨rfl, hB2⟩
    clear hS hG
    go_wp2
    go_ret
    exact ⟨rfl, hB1.trans (hB2.mono hB1.size)⟩
end Go.Proofs.YtdamddfhflhfbaaDoor
