import Derived.Test.YtiihfaohdgkhaaaDoorReplS
import Derived.Test.YtiihfaohdgkhaaaDoorTimesI
import Derived.Test.YtiihfaohdgkhaaaDoorMaxC
namespace Go.Proofs.YtiihfaohdgkhaaaDoor
open Go.RowKit Go.Lib Go.Shelf
set_option linter.unusedVariables false
set_option linter.unusedSimpArgs false

theorem Tryd.extra155 : Builder.Extra Tryd.prog Tryd.laysReplaceAll_ren := {
  sizeBuilder := by kernel_rfl
  liesBuilder := by kernel_rfl
  t5 := Tryd.underlying5
  a5 := Tryd.isAgg5
  z5 := Tryd.sizeOf5
  v5 := Tryd.zeroValue5
  infoByte := by kernel_rfl
  cellsByte := by kernel_rfl
  sizeByte := by kernel_rfl
  neB5 := by decide }
theorem jn_split (s old by_ : ByteArray) : jn by_ (splitAll s old) = replaceAll s.data.toList old.data.toList by_.data.toList := by
  unfold jn splitAll
  rw [splitB_data, replaceAll_join]
theorem jn_split_len (s old by_ : ByteArray) (h : old.size ≠ 0) : (jn by_ (splitAll s old)).length + countB s old * old.size = s.size + countB s old * by_.size := by
  have ho : old.data.toList ≠ [] := fun e => h (by rw [size_eq, e]; rfl)
  have := replaced_len s.data.toList old.data.toList by_.data.toList ho
  unfold jn splitAll
  rw [splitB_data, size_eq old, size_eq s, size_eq by_]
  exact this
theorem count_at (s old : ByteArray) (w : World) (h : MaxL w) (hs : s.size < 4294967281) (h1 : 1 ≤ old.size) :
    Calls Tryd.prog 38 #[.string s, .string old] w fun e w' => e = .returned (.int .i64 (countB s old)) ∧ w' = w := by
  obtain ⟨m, hm⟩ := h
  exact Any.strings_Count_any Tryd.laysCountS s old m w hs hm h1
theorem replaceAll_at (s old by_ : ByteArray) (w : World) (h : MaxL w) (hs : s.size < 4294967281) (h1 : 1 ≤ old.size) (hlen : s.size + countB s old * by_.size ≤ 140737488355328) :
    Calls Tryd.prog 39 #[.string s, .string old, .string by_] w fun e w' => e = .returned (.string ⟨(jn by_ (splitAll s old)).toArray⟩) ∧ Below w.heap.size w w' := by
  obtain ⟨m, hm⟩ := h
  rw [jn_split]
  exact Any.strings_ReplaceAll Tryd.laysReplaceAll Tryd.extra155 s old by_ m w hs hm h1 hlen
set_option maxHeartbeats 1000000 in
set_option maxRecDepth 100000 in
theorem replaced_any (s old by_ : ByteArray) (aA aZ aL : Addr) (w : World) (hs : s.size ≤ 16777216) (ho : old.size ≤ 16777216) (hb : by_.size ≤ 16777216) (hT : Tabs w) (hE : Errs w aA aZ aL) (hM : MaxL w) :
    Calls Tryd.prog 25 #[.string s, .string old, .string by_] w fun e w' => ∃ u, e = .returned (.tuple #[.string ⟨(replAns s old by_).1.toArray⟩, u]) ∧ IsErr aA aZ aL u (replAns s old by_).2 ∧ Below w.heap.size w w' := by
  have hK := fun W h => isNoText_any s W (by omega) h
  have hL := fun W h => isNoText_any old W (by omega) h
  have hN := fun W h => isNoText_any by_ W (by omega) h
  cases hok : (textOf s).isSome with
  | false =>
    rw [hok] at hK
    have hA : replAns s old by_ = ([], 1) := by unfold replAns; rw [if_neg (fun h => by rw [hok] at h; cases h.1)]
    rw [hA]
    go_enter Tryd.func25, Tryd.ntmps25
    go_wp2_with fail
    refine (hK _ hT).mono ?_
    rintro e w0 ⟨rfl, hB0⟩
    have hg := (hE.below hB0).1.1
    go_wp2
    go_region_with fail
    all_goals (try go_wp2)
    all_goals refine bodyPost_ret (v := .tuple #[.string ⟨#[]⟩, errAt aA]) (by simp [results, Tryd.results25, go_sem, Act.put]) rfl ?_
    all_goals exact ⟨_, rfl, .inr (.inl ⟨rfl, rfl⟩), (by first | exact hB0 | exact hB0.drew)⟩
  | true =>
    rw [hok] at hK
    have h1 := text_fits' hok
    cases hok2 : (textOf old).isSome with
    | false =>
      rw [hok2] at hL
      have hA : replAns s old by_ = ([], 1) := by unfold replAns; rw [if_neg (fun h => by rw [hok2] at h; cases h.2.1)]
      rw [hA]
      go_enter Tryd.func25, Tryd.ntmps25
      go_wp2_with fail
      refine (hK _ hT).mono ?_
      rintro e w0 ⟨rfl, hB0⟩
      go_wp2_with fail
      refine (hL _ (hT.below hB0)).mono ?_
      rintro e w1 ⟨rfl, hB1⟩
      have hC1 := hB0.trans (hB1.mono hB0.size)
      have hg := (hE.below hC1).1.1
      go_wp2
      go_region_with fail
      all_goals (try go_wp2)
      all_goals refine bodyPost_ret (v := .tuple #[.string ⟨#[]⟩, errAt aA]) (by simp [results, Tryd.results25, go_sem, Act.put]) rfl ?_
      all_goals exact ⟨_, rfl, .inr (.inl ⟨rfl, rfl⟩), (by first | exact hC1 | exact hC1.drew)⟩
    | true =>
      rw [hok2] at hL
      have h2 := text_fits' hok2
      cases hok3 : (textOf by_).isSome with
      | false =>
        rw [hok3] at hN
        have hA : replAns s old by_ = ([], 1) := by unfold replAns; rw [if_neg (fun h => by rw [hok3] at h; cases h.2.2.2)]
        rw [hA]
        go_enter Tryd.func25, Tryd.ntmps25
        go_wp2_with fail
        refine (hK _ hT).mono ?_
        rintro e w0 ⟨rfl, hB0⟩
        go_wp2_with fail
        refine (hL _ (hT.below hB0)).mono ?_
        rintro e w1 ⟨rfl, hB1⟩
        have hC1 := hB0.trans (hB1.mono hB0.size)
        go_wp2_with fail
        refine (hN _ (hT.below hC1)).mono ?_
        rintro e w2 ⟨rfl, hB2⟩
        have hC2 := hC1.trans (hB2.mono hC1.size)
        have hg := (hE.below hC2).1.1
        go_wp2
        go_region_with fail
        all_goals (try go_wp2)
        all_goals refine bodyPost_ret (v := .tuple #[.string ⟨#[]⟩, errAt aA]) (by simp [results, Tryd.results25, go_sem, Act.put]) rfl ?_
        all_goals exact ⟨_, rfl, .inr (.inl ⟨rfl, rfl⟩), (by first | exact hC2 | exact hC2.drew)⟩
      | true =>
        rw [hok3] at hN
        have h3 := text_fits' hok3
        by_cases h0 : old.size = 0
        · have hA : replAns s old by_ = ([], 1) := by unfold replAns; rw [if_neg (fun h => h.2.2.1 h0)]
          obtain rfl := empty_of h0
          rw [hA]
          go_enter Tryd.func25, Tryd.ntmps25
          go_wp2_with fail
          refine (hK _ hT).mono ?_
          rintro e w0 ⟨rfl, hB0⟩
          go_wp2_with fail
          refine (hL _ (hT.below hB0)).mono ?_
          rintro e w1 ⟨rfl, hB1⟩
          have hC1 := hB0.trans (hB1.mono hB0.size)
          go_wp2_with fail
          refine (hN _ (hT.below hC1)).mono ?_
          rintro e w2 ⟨rfl, hB2⟩
          have hC2 := hC1.trans (hB2.mono hC1.size)
          have hg := (hE.below hC2).1.1
          go_wp2
          go_region_with fail
          all_goals (try go_wp2)
          all_goals refine bodyPost_ret (v := .tuple #[.string ⟨#[]⟩, errAt aA]) (by simp [results, Tryd.results25, go_sem, Act.put]) rfl ?_
          all_goals exact ⟨_, rfl, .inr (.inl ⟨rfl, rfl⟩), (by first | exact hC2 | exact hC2.drew)⟩
        · have hsb := full_of h0
          have hA : replAns s old by_ = fitJoin by_ (splitAll s old) := by unfold replAns; rw [if_pos ⟨hok, hok2, h0, hok3⟩]
          have hlen := jn_split_len s old by_ h0
          have hcm := Lib.countB_mul_le old (by omega) s.size s (Nat.le_refl _)
          have hCt := fun W h => count_at s old W h (by omega) (by omega)
          have hRa := fun W h hl => replaceAll_at s old by_ W h (by omega) (by omega) hl
          rw [hA]
          obtain ⟨J, hJ⟩ : ∃ J, jn by_ (splitAll s old) = J := ⟨_, rfl⟩
          rw [hJ] at hlen hRa
          have hFJ : fitJoin by_ (splitAll s old) = (if 16384 < J.length then ([], 3) else (J, 0)) := by unfold fitJoin; rw [hJ]
          rw [hFJ]
          clear hFJ hA hJ
          obtain ⟨C, hC⟩ : ∃ C, countB s old = C := ⟨_, rfl⟩
          rw [hC] at hlen hcm hCt hRa
          clear hC
          have hCb : C ≤ 16384 := by
            have : C * 1 ≤ C * old.size := Nat.mul_le_mul_left _ (by omega)
            omega
          have hCx : C * by_.size ≤ 16384 * 16384 := Nat.mul_le_mul hCb h3
          have hCo : C * old.size ≤ 16384 * 16384 := Nat.mul_le_mul hCb h2
          have hw1 : wrap64 ((C : Int) * ((by_.size : Int) - (old.size : Int))) = (C : Int) * ((by_.size : Int) - (old.size : Int)) := by
            rw [Int.mul_sub, ← Int.natCast_mul, ← Int.natCast_mul]
            unfold wrap64; omega
          have hw2 : wrap64 ((s.size : Int) + (C : Int) * ((by_.size : Int) - (old.size : Int))) = (J.length : Int) := by
            rw [Int.mul_sub, ← Int.natCast_mul, ← Int.natCast_mul]
            unfold wrap64; omega
          have hJb : J.length ≤ 1073741824 := by omega
          by_cases hbig : (16384 : Int) < (J.length : Int)
          · rw [if_pos (by omega)]
            go_enter Tryd.func25, Tryd.ntmps25
            go_wp2_with fail
            refine (hK _ hT).mono ?_
            rintro e w1 ⟨rfl, hB1⟩
            go_wp2_with fail
            refine (hL _ (hT.below hB1)).mono ?_
            rintro e w2 ⟨rfl, hB2⟩
            have hC2 := hB1.trans (hB2.mono hB1.size)
            go_wp2_with fail
            refine (hN _ (hT.below hC2)).mono ?_
            rintro e w3 ⟨rfl, hB3⟩
            have hC3 := hC2.trans (hB3.mono hC2.size)
            have hg := (hE.below hC3).1.2.2
            go_wp2_with fail
            refine (hCt _ (hM.below hC3)).mono ?_
            rintro e w4 ⟨rfl, rfl⟩
            go_wp2
            go_region_with fail
            all_goals (try go_wp2)
            all_goals refine bodyPost_ret (v := .tuple #[.string ⟨#[]⟩, errAt aL]) (by simp [results, Tryd.results25, go_sem, Act.put]) rfl ?_
            all_goals exact ⟨_, rfl, .inr (.inr (.inr (.inl ⟨rfl, rfl⟩))), (by first | exact hC3 | exact hC3.drew)⟩
          · rw [if_neg (by omega)]
            have hRb := fun W h => hRa W h (by omega)
            obtain ⟨JJ, hJJ⟩ : ∃ JJ : ByteArray, (⟨J.toArray⟩ : ByteArray) = JJ := ⟨_, rfl⟩
            rw [hJJ] at hRb
            show Calls _ _ _ _ fun e w' => ∃ u, e = .returned (.tuple #[.string ⟨J.toArray⟩, u]) ∧ IsErr aA aZ aL u 0 ∧ Below w.heap.size w w'
            rw [hJJ]
            clear hJJ hRa hlen
            go_enter Tryd.func25, Tryd.ntmps25
            go_wp2_with fail
            refine (hK _ hT).mono ?_
            rintro e w1 ⟨rfl, hB1⟩
            go_wp2_with fail
            refine (hL _ (hT.below hB1)).mono ?_
            rintro e w2 ⟨rfl, hB2⟩
            have hC2 := hB1.trans (hB2.mono hB1.size)
            go_wp2_with fail
            refine (hN _ (hT.below hC2)).mono ?_
            rintro e w3 ⟨rfl, hB3⟩
            have hC3 := hC2.trans (hB3.mono hC2.size)
            go_wp2_with fail
            refine (hCt _ (hM.below hC3)).mono ?_
            rintro e w4 ⟨rfl, rfl⟩
            go_wp2_with fail
            refine (hRb _ (hM.below hC3)).mono ?_
            rintro e w5 ⟨rfl, hB5⟩
            go_wp2
            refine bodyPost_ret (v := .tuple #[.string JJ, .nilIface]) (by simp [results, Tryd.results25, go_sem]) rfl ?_
            exact ⟨_, rfl, .inl ⟨rfl, rfl⟩, hC3.trans (hB5.mono hC3.size)⟩
end Go.Proofs.YtiihfaohdgkhaaaDoor
