import Derived.Test.YtdamddfhflhfbaaDoorTimesI
namespace Go.Proofs.YtdamddfhflhfbaaDoor
open Go.RowKit Go.Lib Go.Shelf
set_option linter.unusedVariables false
set_option linter.unusedSimpArgs false

theorem timesAns_len (s : ByteArray) (n : Int) : (timesAns s n).1.length ≤ 16384 := by
  unfold timesAns
  split
  · split
    · simp
    · split
      · simp
      · rw [repeat_len]; omega
  · simp
set_option maxHeartbeats 1000000 in
set_option maxRecDepth 100000 in
theorem textTimes_any (s : ByteArray) (n : Int) (aA aZ aL : Addr) (w : World) (hs : s.size ≤ 16777216) (hn0 : -9223372036854775808 ≤ n) (hn1 : n ≤ 9223372036854775807) (hT : Tabs w) (hE : Errs w aA aZ aL) :
    Calls Tryd.prog 34 #[.string s, .int .i64 n] w fun e w' => e = .returned (.tuple #[.string ⟨(timesAns s n).1.toArray⟩, .int .i64 (timesAns s n).2]) ∧ Below w.heap.size w w' := by
  have hR := repeated_any s n aA aZ aL w hs hn0 hn1 hT hE
  have hl := timesAns_len s n
  obtain ⟨T, hTe⟩ : ∃ T : ByteArray, (⟨(timesAns s n).1.toArray⟩ : ByteArray) = T := ⟨_, rfl⟩
  have hTs : T.size ≤ 16384 := by rw [← hTe]; show (timesAns s n).1.toArray.size ≤ _; simpa using hl
  rw [hTe] at hR ⊢
  obtain ⟨c, hc⟩ : ∃ c, (timesAns s n).2 = c := ⟨_, rfl⟩
  rw [hc] at hR ⊢
  have hC := fun W => clone_any T W (by omega)
  clear hTe hc hl
  go_enter Tryd.func34, Tryd.ntmps34
  go_wp2_with fail
  refine hR.mono ?_
  rintro e w1 ⟨v, rfl, hv, hB1⟩
  have hE1 := hE.below hB1
  have hO := fun W h => codeOf_any aA aZ aL v c W h hv
  go_wp2_with fail
  refine (hC _).mono ?_
  rintro e w2 ⟨rfl, hB2⟩
  go_wp2_with fail
  refine (hO _ (hE1.below hB2)).mono ?_
  rintro e w3 ⟨rfl, hB3⟩
  go_wp2
  refine bodyPost_ret (v := .tuple #[.string T, .int .i64 c]) (by simp [results, Tryd.results34, go_sem]) rfl ?_
  exact ⟨rfl, hB1.trans ((hB2.trans (hB3.mono hB2.size)).mono hB1.size)⟩
set_option maxRecDepth 100000 in
theorem law_texttimes (s : ByteArray) (n : Int) (W : World) (hn0 : -9223372036854775808 ≤ n) (hn1 : n ≤ 9223372036854775807) (hT : Tabs W) (hEx : ∃ aA aZ aL, Errs W aA aZ aL) :
    Calls Tryd.prog 10 #[.string s, .int .i64 n] W fun e w' => e = .returned (.bool true) ∧ Below W.heap.size W w' := by
  obtain ⟨aA, aZ, aL, hE⟩ := hEx
  by_cases hbig : (1048576 : Int) < (s.size : Int)
  · go_enter Tryd.func10, Tryd.ntmps10
    go_wp2
    go_ret
    exact ⟨rfl, Below.refl _ _⟩
  · have hS := textTimesS_any s n W (by omega) hn0 hn1
    have hG := fun w h h2 => textTimes_any s n aA aZ aL w (by omega) hn0 hn1 h h2
    generalize (timesAns s n).1.toArray = A at hS hG
    generalize (timesAns s n).2 = c at hS hG
    go_enter Tryd.func10, Tryd.ntmps10
    go_wp2_with fail
    refine hS.mono ?_
    rintro e w1 ⟨rfl, hB1⟩
    go_wp2_with fail
    refine (hG _ (hT.below hB1) (hE.below hB1)).mono ?_
    rintro e w2 ⟨rfl, hB2⟩
    clear hS hG
    go_wp2
    go_ret
    exact ⟨rfl, hB1.trans (hB2.mono hB1.size)⟩
end Go.Proofs.YtdamddfhflhfbaaDoor
