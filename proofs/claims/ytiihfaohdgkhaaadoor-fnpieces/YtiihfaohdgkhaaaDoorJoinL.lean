import Derived.Test.YtiihfaohdgkhaaaDoorJoinI
import Derived.Test.YtiihfaohdgkhaaaDoorHelT
namespace Go.Proofs.YtiihfaohdgkhaaaDoor
open Go.RowKit Go.Lib Go.Shelf
set_option linter.unusedVariables false
set_option linter.unusedSimpArgs false

theorem fitJoin_len (sep : ByteArray) (xs : List ByteArray) : (fitJoin sep xs).1.length ≤ 16384 := by
  unfold fitJoin
  split
  · simp
  · show (jn sep xs).length ≤ _
    omega
theorem joinAns_len (sep : ByteArray) (xs : List ByteArray) : (joinAns sep xs).1.length ≤ 16384 := by
  unfold joinAns
  split
  · exact fitJoin_len sep xs
  · simp
set_option maxHeartbeats 1000000 in
set_option maxRecDepth 100000 in
theorem textJoin_any (sep : ByteArray) (v : Value) (xs : List ByteArray) (aA aZ aL : Addr) (w : World) (hr : Str.Rd w v xs) (hs : sep.size ≤ 16777216) (hx : ∀ x ∈ xs, x.size ≤ 16777216) (hT : Tabs w) (hE : Errs w aA aZ aL) :
    Calls Tryd.prog 9 #[.string sep, v] w fun e w' => e = .returned (.tuple #[.string ⟨(joinAns sep xs).1.toArray⟩, .int .i64 (joinAns sep xs).2]) ∧ Below w.heap.size w w' := by
  have hR := joined_any sep v xs aA aZ aL w hr hs hx hT hE
  have hl := joinAns_len sep xs
  obtain ⟨T, hTe⟩ : ∃ T : ByteArray, (⟨(joinAns sep xs).1.toArray⟩ : ByteArray) = T := ⟨_, rfl⟩
  have hTs : T.size ≤ 16384 := by rw [← hTe]; show (joinAns sep xs).1.toArray.size ≤ _; simpa using hl
  rw [hTe] at hR ⊢
  obtain ⟨c, hc⟩ : ∃ c, (joinAns sep xs).2 = c := ⟨_, rfl⟩
  rw [hc] at hR ⊢
  have hC := fun W => clone_any T W (by omega)
  clear hTe hc hl hx hr
  go_enter Tryd.func9, Tryd.ntmps9
  go_wp2_with fail
  refine hR.mono ?_
  rintro e w1 ⟨v, rfl, hv, hB1⟩
  have hE1 := hE.below hB1
  have hO := fun W h => codeOf_any aA aZ aL v c W h hv
  go_wp2_with fail
  refine (hC _).mono ?_
  rintro e w2 ⟨rfl, hB2⟩
  go_wp2_with fail
  refine (hO _ (hE1.below hB2)).mono ?_
  rintro e w3 ⟨rfl, hB3⟩
  go_wp2
  refine bodyPost_ret (v := .tuple #[.string T, .int .i64 c]) (by simp [results, Tryd.results9, go_sem]) rfl ?_
  exact ⟨rfl, hB1.trans ((hB2.trans (hB3.mono hB2.size)).mono hB1.size)⟩
theorem size_le_tot (xs : List ByteArray) : ∀ x ∈ xs, x.size ≤ tot xs := by
  induction xs with
  | nil => intro x hx; cases hx
  | cons y r ih =>
    intro x hx
    have h3 : tot (y :: r) = y.size + tot r := by simp [tot]
    rcases List.mem_cons.1 hx with rfl | hx
    · omega
    · have := ih x hx; omega
end Go.Proofs.YtiihfaohdgkhaaaDoor
