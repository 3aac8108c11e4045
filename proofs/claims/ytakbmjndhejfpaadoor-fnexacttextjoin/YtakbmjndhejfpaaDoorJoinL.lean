import Derived.Test.YtakbmjndhejfpaaDoorJoinI
import Derived.Test.YtakbmjndhejfpaaDoorHelT
namespace Go.Proofs.YtakbmjndhejfpaaDoor
open Go.RowKit Go.Lib Go.Shelf
set_option linter.unusedVariables false
set_option linter.unusedSimpArgs false

theorem fitJoin_len (sep : ByteArray) (xs : List ByteArray) : (fitJoin sep xs).1.length ≤ 16384 := by
  unfold fitJoin
  split
  · simp
  · show (jn sep xs).length ≤ _
    omega
theorem joinAns_len (sep : ByteArray) (xs : List ByteArray) : (joinAns sep xs).1.length ≤ 16384 := by
  unfold joinAns
  split
  · exact fitJoin_len sep xs
  · simp
set_option maxHeartbeats 1000000 in
set_option maxRecDepth 100000 in
theorem textJoin_any (sep : ByteArray) (v : Value) (xs : List ByteArray) (aA aZ aL : Addr) (w : World) (hr : Str.Rd w v xs) (hs : sep.size ≤ 16777216) (hx : ∀ x ∈ xs, x.size ≤ 16777216) (hT : Tabs w) (hE : Errs w aA aZ aL) :
    Calls Tryd.prog 13 #[.string sep, v] w fun e w' => e = .returned (.tuple #[.string ⟨(joinAns sep xs).1.toArray⟩, .int .i64 (joinAns sep xs).2]) ∧ Below w.heap.size w w' := by
  have hR := joined_any sep v xs aA aZ aL w hr hs hx hT hE
  have hl := joinAns_len sep xs
  obtain ⟨T, hTe⟩ : ∃ T : ByteArray, (⟨(joinAns sep xs).1.toArray⟩ : ByteArray) = T := ⟨_, rfl⟩
  have hTs : T.size ≤ 16384 := by rw [← hTe]; show (joinAns sep xs).1.toArray.size ≤ _; simpa using hl
  rw [hTe] at hR ⊢
  obtain ⟨c, hc⟩ : ∃ c, (joinAns sep xs).2 = c := ⟨_, rfl⟩
  rw [hc] at hR ⊢
  have hC := fun W => clone_any T W (by omega)
  clear hTe hc hl hx hr
  go_enter Tryd.func13, Tryd.ntmps13
  go_wp2_with fail
  refine hR.mono ?_
  rintro e w1 ⟨v, rfl, hv, hB1⟩
  have hE1 := hE.below hB1
  have hO := fun W h => codeOf_any aA aZ aL v c W h hv
  go_wp2_with fail
  refine (hC _).mono ?_
  rintro e w2 ⟨rfl, hB2⟩
  go_wp2_with fail
  refine (hO _ (hE1.below hB2)).mono ?_
  rintro e w3 ⟨rfl, hB3⟩
  go_wp2
  refine bodyPost_ret (v := .tuple #[.string T, .int .i64 c]) (by simp [results, Tryd.results13, go_sem]) rfl ?_
  exact ⟨rfl, hB1.trans ((hB2.trans (hB3.mono hB2.size)).mono hB1.size)⟩
theorem size_le_tot (xs : List ByteArray) : ∀ x ∈ xs, x.size ≤ tot xs := by
  induction xs with
  | nil => intro x hx; cases hx
  | cons y r ih =>
    intro x hx
    have h3 : tot (y :: r) = y.size + tot r := by simp [tot]
    rcases List.mem_cons.1 hx with rfl | hx
    · omega
    · have := ih x hx; omega
set_option maxHeartbeats 1000000 in
set_option maxRecDepth 100000 in
theorem law_textjoin (sep : ByteArray) (a : Option Addr) (cap : Nat) (xs : List ByteArray) (W : World) (hl : xs.length ≤ 9223372036854775807) (hs : ∀ s ∈ xs, s.size ≤ 9223372036854775807) (hr : xs.length ≤ 1048576 → Str.Rd W (.slice a xs.length cap) xs) (hT : Tabs W) (hEx : ∃ aA aZ aL, Errs W aA aZ aL) :
    Calls Tryd.prog 3 #[.string sep, .slice a xs.length cap] W fun e w' => e = .returned (.bool true) ∧ Below W.heap.size W w' := by
  obtain ⟨aA, aZ, aL, hE⟩ := hEx
  by_cases hbig : (1048576 : Int) < (sep.size : Int)
  · go_enter Tryd.func3, Tryd.ntmps3
    go_wp2
    go_ret
    exact ⟨rfl, Below.refl _ _⟩
  · have hZ := szT_any a cap xs W hl hs hr
    go_enter Tryd.func3, Tryd.ntmps3
    go_wp2_with fail
    refine hZ.mono ?_
    rintro e w0 ⟨r, rfl, hr0, hB0⟩
    rcases hr0 with h0 | ⟨h0, h1⟩
    · go_wp2
      go_ret
      exact ⟨rfl, hB0⟩
    · have hRd := hr (by omega)
      have hsz : ∀ x ∈ xs, x.size ≤ 16777216 := fun x hx => by have := size_le_tot xs x hx; omega
      have hS := fun v W h => textJoinS_any sep v xs W h (by omega) hsz
      have hG := fun v W h h2 h3 => textJoin_any sep v xs aA aZ aL W h (by omega) hsz h2 h3
      have hO := fun v W h => toT_any v xs W h
      have hQ := fun v u W h h2 => eqT_any v u xs W h h2
      obtain ⟨AA, hAA⟩ : ∃ AA : ByteArray, (⟨(joinAns sep xs).1.toArray⟩ : ByteArray) = AA := ⟨_, rfl⟩
      obtain ⟨c, hc⟩ : ∃ c, (joinAns sep xs).2 = c := ⟨_, rfl⟩
      rw [hAA, hc] at hS hG
      clear hAA hc hsz hr hs hZ
      go_wp2_with fail
      refine (hO _ _ (hRd.keep hB0)).mono ?_
      rintro e w1 ⟨a1, c1, rfl, o1, hB1⟩
      have hW1 := hB0.trans (hB1.mono hB0.size)
      go_wp2_with fail
      refine (hS _ _ o1.rd).mono ?_
      rintro e w2 ⟨rfl, hB2⟩
      have hW2 := hW1.trans (hB2.mono hW1.size)
      go_wp2_with fail
      refine (hO _ _ (hRd.keep hW2)).mono ?_
      rintro e w3 ⟨a3, c3, rfl, o3, hB3⟩
      have hW3 := hW2.trans (hB3.mono hW2.size)
      go_wp2_with fail
      refine (hG _ _ o3.rd (hT.below hW3) (hE.below hW3)).mono ?_
      rintro e w4 ⟨rfl, hB4⟩
      have hW4 := hW3.trans (hB4.mono hW3.size)
      have o4 := o3.keep hB4
      go_wp2_with fail
      refine (hO _ _ (hRd.keep hW4)).mono ?_
      rintro e w5 ⟨a5, c5, rfl, o5, hB5⟩
      have hW5 := hW4.trans (hB5.mono hW4.size)
      have o6 := o4.keep hB5
      go_wp2_with fail
      refine (hQ _ _ _ o6.rd o5.rd).mono ?_
      rintro e w6 ⟨rfl, hB6⟩
      go_wp2
      go_ret
      exact ⟨rfl, hW5.trans (hB6.mono hW5.size)⟩
end Go.Proofs.YtakbmjndhejfpaaDoor
