import Derived.Test.YtiihfaohdgkhaaaDoorReplI
namespace Go.Proofs.YtiihfaohdgkhaaaDoor
open Go.RowKit Go.Lib Go.Shelf
set_option linter.unusedVariables false
set_option linter.unusedSimpArgs false

theorem replAns_len (s old by_ : ByteArray) : (replAns s old by_).1.length ≤ 16384 := by
  unfold replAns
  split
  · unfold fitJoin
    split
    · simp
    · show (jn by_ (splitAll s old)).length ≤ _
      omega
  · simp
set_option maxHeartbeats 1000000 in
set_option maxRecDepth 100000 in
theorem textReplace_any (s old by_ : ByteArray) (aA aZ aL : Addr) (w : World) (hs : s.size ≤ 16777216) (ho : old.size ≤ 16777216) (hb : by_.size ≤ 16777216) (hT : Tabs w) (hE : Errs w aA aZ aL) (hM : MaxL w) :
    Calls Tryd.prog 11 #[.string s, .string old, .string by_] w fun e w' => e = .returned (.tuple #[.string ⟨(replAns s old by_).1.toArray⟩, .int .i64 (replAns s old by_).2]) ∧ Below w.heap.size w w' := by
  have hR := replaced_any s old by_ aA aZ aL w hs ho hb hT hE hM
  have hl := replAns_len s old by_
  obtain ⟨T, hTe⟩ : ∃ T : ByteArray, (⟨(replAns s old by_).1.toArray⟩ : ByteArray) = T := ⟨_, rfl⟩
  have hTs : T.size ≤ 16384 := by rw [← hTe]; show (replAns s old by_).1.toArray.size ≤ _; simpa using hl
  rw [hTe] at hR ⊢
  obtain ⟨c, hc⟩ : ∃ c, (replAns s old by_).2 = c := ⟨_, rfl⟩
  rw [hc] at hR ⊢
  have hC := fun W => clone_any T W (by omega)
  clear hTe hc hl
  go_enter Tryd.func11, Tryd.ntmps11
  go_wp2_with fail
  refine hR.mono ?_
  rintro e w1 ⟨v, rfl, hv, hB1⟩
  have hE1 := hE.below hB1
  have hO := fun W h => codeOf_any aA aZ aL v c W h hv
  go_wp2_with fail
  refine (hC _).mono ?_
  rintro e w2 ⟨rfl, hB2⟩
  go_wp2_with fail
  refine (hO _ (hE1.below hB2)).mono ?_
  rintro e w3 ⟨rfl, hB3⟩
  go_wp2
  refine bodyPost_ret (v := .tuple #[.string T, .int .i64 c]) (by simp [results, Tryd.results11, go_sem]) rfl ?_
  exact ⟨rfl, hB1.trans ((hB2.trans (hB3.mono hB2.size)).mono hB1.size)⟩
end Go.Proofs.YtiihfaohdgkhaaaDoor
