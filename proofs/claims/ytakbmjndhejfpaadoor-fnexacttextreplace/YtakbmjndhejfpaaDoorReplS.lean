import Derived.Test.YtakbmjndhejfpaaDoorJoinS
import Derived.Test.YtakbmjndhejfpaaDoorSplS
namespace Go.Proofs.YtakbmjndhejfpaaDoor
open Go.RowKit Go.Lib
set_option linter.unusedVariables false
set_option linter.unusedSimpArgs false

/-- What the two replacings answer. -/
def replAns (s old by_ : ByteArray) : List UInt8 × Int :=
  if (textOf s).isSome = true ∧ (textOf old).isSome = true ∧ old.size ≠ 0 ∧ (textOf by_).isSome = true then fitJoin by_ (splitAll s old) else ([], 1)
theorem empty_of {s : ByteArray} (h : s.size = 0) : s = ⟨#[]⟩ := by
  obtain ⟨⟨l⟩⟩ := s
  cases l with
  | nil => rfl
  | cons a b => cases h
theorem full_of {s : ByteArray} (h : s.size ≠ 0) : s.toList.isEmpty = false := by
  rw [Lib.toList_data]
  cases hl : s.data.toList with
  | nil => exact absurd (by rw [Lib.size_eq, hl]; rfl) h
  | cons _ _ => rfl
theorem split_fits (s sep : ByteArray) : ∀ z ∈ splitAll s sep, z.size ≤ s.size := by
  have : ∀ k s, ∀ z ∈ splitB sep 0 k s, z.size ≤ s.size := by
    intro k
    induction k with
    | zero => intro s z hz; simp [splitB] at hz; rw [hz]; exact Nat.le_refl _
    | succ k ih =>
      intro s z hz
      unfold splitB at hz
      split at hz
      · simp at hz; rw [hz]; exact Nat.le_refl _
      · rcases List.mem_cons.1 hz with rfl | hz
        · rw [ByteArray.size_extract]; omega
        · have := ih _ z hz
          rw [ByteArray.size_extract] at this; omega
  exact this _ _
set_option maxHeartbeats 1000000 in
set_option maxRecDepth 100000 in
theorem textReplaceS_any (s old by_ : ByteArray) (w : World) (hs : s.size ≤ 16777216) (ho : old.size ≤ 16777216) (hb : by_.size ≤ 16777216) :
    Calls Tryd.prog 15 #[.string s, .string old, .string by_] w fun e w' => e = .returned (.tuple #[.string ⟨(replAns s old by_).1.toArray⟩, .int .i64 (replAns s old by_).2]) ∧ Below w.heap.size w w' := by
  have hK := fun W => textOkS_any s W (by omega)
  have hL := fun W => textOkS_any old W (by omega)
  have hM := fun W => textOkS_any by_ W (by omega)
  cases hok : (textOf s).isSome with
  | false =>
    rw [hok] at hK
    have hA : replAns s old by_ = ([], 1) := by unfold replAns; rw [if_neg (fun h => by rw [hok] at h; cases h.1)]
    rw [hA]
    go_enter Tryd.func15, Tryd.ntmps15
    go_wp2_with fail
    refine (hK _).mono ?_
    rintro e w0 ⟨rfl, hB0⟩
    go_wp2
    exact bodyPost_ret (v := .tuple #[.string ⟨#[]⟩, .int .i64 1]) (by simp [results, Tryd.results15, go_sem]) rfl ⟨rfl, hB0⟩
  | true =>
    rw [hok] at hK
    have h1 := text_fits' hok
    cases hok2 : (textOf old).isSome with
    | false =>
      rw [hok2] at hL
      have hA : replAns s old by_ = ([], 1) := by unfold replAns; rw [if_neg (fun h => by rw [hok2] at h; cases h.2.1)]
      rw [hA]
      go_enter Tryd.func15, Tryd.ntmps15
      go_wp2_with fail
      refine (hK _).mono ?_
      rintro e w0 ⟨rfl, hB0⟩
      go_wp2_with fail
      refine (hL _).mono ?_
      rintro e w1 ⟨rfl, hB1⟩
      have hC1 := hB0.trans (hB1.mono hB0.size)
      go_wp2
      exact bodyPost_ret (v := .tuple #[.string ⟨#[]⟩, .int .i64 1]) (by simp [results, Tryd.results15, go_sem]) rfl ⟨rfl, hC1⟩
    | true =>
      rw [hok2] at hL
      have h2 := text_fits' hok2
      by_cases h0 : old.size = 0
      · have hA : replAns s old by_ = ([], 1) := by unfold replAns; rw [if_neg (fun h => h.2.2.1 h0)]
        obtain rfl := empty_of h0
        rw [hA]
        go_enter Tryd.func15, Tryd.ntmps15
        go_wp2_with fail
        refine (hK _).mono ?_
        rintro e w0 ⟨rfl, hB0⟩
        go_wp2_with fail
        refine (hL _).mono ?_
        rintro e w1 ⟨rfl, hB1⟩
        have hC1 := hB0.trans (hB1.mono hB0.size)
        go_wp2
        exact bodyPost_ret (v := .tuple #[.string ⟨#[]⟩, .int .i64 1]) (by simp [results, Tryd.results15, go_sem]) rfl ⟨rfl, hC1⟩
      · have hsb := full_of h0
        cases hok3 : (textOf by_).isSome with
        | false =>
          rw [hok3] at hM
          have hA : replAns s old by_ = ([], 1) := by unfold replAns; rw [if_neg (fun h => by rw [hok3] at h; cases h.2.2.2)]
          rw [hA]
          go_enter Tryd.func15, Tryd.ntmps15
          go_wp2_with fail
          refine (hK _).mono ?_
          rintro e w0 ⟨rfl, hB0⟩
          go_wp2_with fail
          refine (hL _).mono ?_
          rintro e w1 ⟨rfl, hB1⟩
          have hC1 := hB0.trans (hB1.mono hB0.size)
          go_wp2_with fail
          refine (hM _).mono ?_
          rintro e w2 ⟨rfl, hB2⟩
          have hC2 := hC1.trans (hB2.mono hC1.size)
          go_wp2
          exact bodyPost_ret (v := .tuple #[.string ⟨#[]⟩, .int .i64 1]) (by simp [results, Tryd.results15, go_sem]) rfl ⟨rfl, hC2⟩
        | true =>
          rw [hok3] at hM
          have h3 := text_fits' hok3
          have hA : fitJoin by_ (splitAll s old) = replAns s old by_ := by unfold replAns; rw [if_pos ⟨hok, hok2, h0, hok3⟩]
          have hP := fun W => l3Split_any s old W (by omega) (by omega) (by omega)
          have hxx : ∀ x ∈ splitAll s old, x.size ≤ 16384 := fun x hx => Nat.le_trans (split_fits s old x hx) h1
          have hJ := fun v W h => l3Join_any by_ v (splitAll s old) W h h3 hxx
          have HF : Hid (∀ T : List UInt8, ((jn by_ (splitAll s old)).length ≤ 16384 → T = jn by_ (splitAll s old)) → (16384 < (jn by_ (splitAll s old)).length → 16384 < T.length) → (if 16384 < T.length then [] else T) = (replAns s old by_).1 ∧ (if 16384 < T.length then 3 else 0) = (replAns s old by_).2) := by
            intro T hT1 hT2
            rw [← hA]
            exact fit_of hT1 hT2
          generalize splitAll s old = L at hP hJ HF
          generalize replAns s old by_ = A at HF ⊢
          clear hA hxx
          obtain ⟨A1, A2⟩ := A
          go_enter Tryd.func15, Tryd.ntmps15
          go_wp2_with fail
          refine (hK _).mono ?_
          rintro e w1 ⟨rfl, hB1⟩
          go_wp2_with fail
          refine (hL _).mono ?_
          rintro e w2 ⟨rfl, hB2⟩
          have hB3 := hB1.trans (hB2.mono hB1.size)
          go_wp2_with fail
          refine (hM _).mono ?_
          rintro e w3 ⟨rfl, hB4⟩
          have hB5 := hB3.trans (hB4.mono hB3.size)
          go_wp2_with fail
          refine (hP _).mono ?_
          rintro e w4 ⟨a4, c4, rfl, hO4, hB6⟩
          have hB7 := hB5.trans (hB6.mono hB5.size)
          go_wp2_with fail
          refine (hJ _ _ hO4.rd).mono ?_
          rintro e w5 ⟨T, rfl, hTl, hT1, hT2, hB8⟩
          have hB9 := hB7.trans (hB8.mono hB7.size)
          have hF := fun W => l3Fit_any T W hTl
          have hf := HF.out T hT1 hT2
          rw [hf.1, hf.2] at hF
          obtain ⟨TT, hTT⟩ : ∃ TT : ByteArray, (⟨T.toArray⟩ : ByteArray) = TT := ⟨_, rfl⟩
          obtain ⟨F1, hF1⟩ : ∃ F1 : ByteArray, (⟨A1.toArray⟩ : ByteArray) = F1 := ⟨_, rfl⟩
          try simp only at hF
          rw [hTT, hF1] at hF
          simp only [hTT]
          have HG : Hid ((⟨A1.toArray⟩ : ByteArray) = F1) := hF1
          clear hT1 hT2 hTT hF1 hJ HF hf hP hO4
          go_wp2_with fail
          refine (hF _).mono ?_
          rintro e w6 ⟨rfl, rfl⟩
          go_wp2
          refine bodyPost_ret (v := .tuple #[.string F1, .int .i64 A2]) (by simp [results, Tryd.results15, go_sem]) rfl ?_
          rw [← HG.out]
          exact ⟨rfl, hB9⟩
end Go.Proofs.YtakbmjndhejfpaaDoor
