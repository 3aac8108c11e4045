import Derived.Test.YtakbmjndhejfpaaDoorTimesS
import Derived.Test.YtakbmjndhejfpaaDoorCodeC
import Derived.Test.YtakbmjndhejfpaaDoorTOkA
namespace Go.Proofs.YtakbmjndhejfpaaDoor
open Go.RowKit Go.Lib Go.Shelf
set_option linter.unusedVariables false
set_option linter.unusedSimpArgs false

theorem Tryd.extra105 : Builder.Extra Tryd.prog Tryd.laysRepeat_ren := {
  sizeBuilder := by kernel_rfl
  liesBuilder := by kernel_rfl
  t5 := Tryd.underlying5
  a5 := Tryd.isAgg5
  z5 := Tryd.sizeOf5
  v5 := Tryd.zeroValue5
  infoByte := by kernel_rfl
  cellsByte := by kernel_rfl
  sizeByte := by kernel_rfl
  neB5 := by decide }
theorem repeat_any (s : ByteArray) (c : Nat) (w : World) (hc : c ≤ 9223372036854775807) (hlen : s.size * c ≤ 140737488355328) :
    Calls Tryd.prog 79 #[.string s, .int .i64 c] w fun e w' => e = .returned (.string ⟨(Lib.repeatL s.data.toList c).toArray⟩) ∧ Below w.heap.size w w' := Any.strings_Repeat Tryd.laysRepeat Tryd.extra105 s c w hc hlen
set_option maxRecDepth 100000 in
theorem clone_any (s : ByteArray) (w : World) (hlim : s.size ≤ 281474976710656) :
    Calls Tryd.prog 33 #[.string s] w fun e w' => e = .returned (.string s) ∧ Below w.heap.size w w' := by
  have hC : Calls Tryd.prog 61 #[.string s] w _ := Any.stringslite_Clone Tryd.laysClone s w hlim
  go_enter Tryd.func33, Tryd.ntmps33
  go_wp2_with fail
  refine hC.mono ?_
  rintro e w1 ⟨rfl, hB1⟩
  go_wp2
  go_ret
  exact ⟨rfl, hB1⟩
set_option maxRecDepth 100000 in
theorem isNoText_any (s : ByteArray) (w : World) (hm : s.size ≤ 9223372036854775807) (hT : Tabs w) :
    Calls Tryd.prog 58 #[.string s] w fun e w' => e = .returned (.bool (!(textOf s).isSome)) ∧ Below w.heap.size w w' := by
  have hK := textOk_any s w hm hT
  generalize (textOf s).isSome = b at hK ⊢
  go_enter Tryd.func58, Tryd.ntmps58
  go_wp2_with fail
  refine hK.mono ?_
  rintro e w1 ⟨rfl, hB1⟩
  go_wp2
  go_ret
  exact ⟨rfl, hB1⟩
set_option maxHeartbeats 1000000 in
set_option maxRecDepth 100000 in
theorem repeated_any (s : ByteArray) (n : Int) (aA aZ aL : Addr) (w : World) (hs : s.size ≤ 16777216) (hn0 : -9223372036854775808 ≤ n) (hn1 : n ≤ 9223372036854775807) (hT : Tabs w) (hE : Errs w aA aZ aL) :
    Calls Tryd.prog 53 #[.string s, .int .i64 n] w fun e w' => ∃ v, e = .returned (.tuple #[.string ⟨(timesAns s n).1.toArray⟩, v]) ∧ IsErr aA aZ aL v (timesAns s n).2 ∧ Below w.heap.size w w' := by
  have hK := isNoText_any s w (by omega) hT
  cases hok : (textOf s).isSome with
  | false =>
    rw [hok] at hK
    have hA : timesAns s n = ([], 1) := by unfold timesAns; rw [if_neg (by rw [hok]; decide)]
    rw [hA]
    have hg := hE.1.1
    go_enter Tryd.func53, Tryd.ntmps53
    go_wp2_with fail
    refine hK.mono ?_
    rintro e w1 ⟨rfl, hB1⟩
    have hg1 := (hE.below hB1).1.1
    go_wp2
    go_region_with fail
    all_goals (try go_wp2)
    all_goals refine bodyPost_ret (v := .tuple #[.string ⟨#[]⟩, errAt aA]) (by simp [results, Tryd.results53, go_sem, Act.put]) rfl ?_
    all_goals exact ⟨_, rfl, .inr (.inl ⟨rfl, rfl⟩), (by first | exact hB1 | exact hB1.drew)⟩
  | true =>
    rw [hok] at hK
    by_cases h1 : s.size = 0
    · have hA : timesAns s n = ([], 0) := by unfold timesAns; rw [if_pos hok, if_pos (.inl h1)]
      have hse : s = ⟨#[]⟩ := by
        obtain ⟨⟨l⟩⟩ := s
        cases l with
        | nil => rfl
        | cons a b => cases h1
      rw [hA]
      subst hse
      go_enter Tryd.func53, Tryd.ntmps53
      go_wp2_with fail
      refine hK.mono ?_
      rintro e w1 ⟨rfl, hB1⟩
      go_wp2
      refine bodyPost_ret (v := .tuple #[.string ⟨#[]⟩, .nilIface]) (by simp [results, Tryd.results53, go_sem]) rfl ?_
      exact ⟨_, rfl, .inl ⟨rfl, rfl⟩, hB1⟩
    · have hsb : s.toList.isEmpty = false := by
        rw [Lib.toList_data]
        cases hl : s.data.toList with
        | nil => exact absurd (by rw [size_eq, hl]; rfl) h1
        | cons a b => rfl
      by_cases h2 : n < 1
      · have hA : timesAns s n = ([], 0) := by unfold timesAns; rw [if_pos hok, if_pos (.inr h2)]
        rw [hA]
        go_enter Tryd.func53, Tryd.ntmps53
        go_wp2_with fail
        refine hK.mono ?_
        rintro e w1 ⟨rfl, hB1⟩
        go_wp2
        refine bodyPost_ret (v := .tuple #[.string ⟨#[]⟩, .nilIface]) (by simp [results, Tryd.results53, go_sem]) rfl ?_
        exact ⟨_, rfl, .inl ⟨rfl, rfl⟩, hB1⟩
      · obtain ⟨c, hc⟩ : ∃ c : Nat, n = (c : Int) := ⟨n.toNat, by omega⟩
        subst hc
        have hsz := text_fits' hok
        have hnt : ((c : Int)).toNat = c := rfl
        have hdz : (s.size : Int) ≠ 0 := by omega
        have hdv : Int.tdiv 16384 (s.size : Int) = ((16384 / s.size : Nat) : Int) := by
          rw [show (16384 : Int) = ((16384 : Nat) : Int) from rfl, ← Int.ofNat_tdiv]
        have hdl : 16384 / s.size ≤ 16384 := Nat.div_le_self _ _
        have hqq : 16384 / s.size * s.size ≤ 16384 := Nat.div_mul_le_self _ _
        obtain ⟨Q, hQ⟩ : ∃ Q, 16384 / s.size = Q := ⟨_, rfl⟩
        rw [hQ] at hdv hdl hqq
        have hwq : IntKind.i64.wrap (Q : Int) = (Q : Int) := wrap64_id (by omega) (by omega)
        by_cases h3 : (Q : Int) < (c : Int)
        · have hA : timesAns s (c : Int) = ([], 3) := by
            unfold timesAns
            rw [if_pos hok, if_neg (by omega), hnt, if_pos]
            have h4 : 16384 < (Q + 1) * s.size := by
              rw [← hQ]
              have := Nat.div_add_mod 16384 s.size
              have := Nat.mod_lt 16384 (show s.size > 0 by omega)
              rw [Nat.succ_mul, Nat.mul_comm]; omega
            have h5 : (Q + 1) * s.size ≤ c * s.size := Nat.mul_le_mul_right _ (by omega)
            omega
          rw [hA]
          clear hQ hqq
          go_enter Tryd.func53, Tryd.ntmps53
          go_wp2_with fail
          refine hK.mono ?_
          rintro e w1 ⟨rfl, hB1⟩
          have hg1 := (hE.below hB1).1.2.2
          go_wp2
          go_region_with fail
          all_goals (try go_wp2)
          all_goals refine bodyPost_ret (v := .tuple #[.string ⟨#[]⟩, errAt aL]) (by simp [results, Tryd.results53, go_sem, Act.put]) rfl ?_
          all_goals exact ⟨_, rfl, .inr (.inr (.inr (.inl ⟨rfl, rfl⟩))), (by first | exact hB1 | exact hB1.drew)⟩
        · have h5 : c * s.size ≤ Q * s.size := Nat.mul_le_mul_right _ (by omega)
          have hA : timesAns s (c : Int) = (repeatL s.data.toList c, 0) := by
            unfold timesAns
            rw [if_pos hok, if_neg (by omega), hnt, if_neg (by omega)]
          rw [hA]
          have hR := fun W => repeat_any s c W (by omega) (by rw [Nat.mul_comm]; omega)
          clear hQ hqq h5
          go_enter Tryd.func53, Tryd.ntmps53
          go_wp2_with fail
          refine hK.mono ?_
          rintro e w1 ⟨rfl, hB1⟩
          go_wp2_with fail
          refine (hR _).mono ?_
          rintro e w2 ⟨rfl, hB2⟩
          go_wp2
          refine bodyPost_ret (v := .tuple #[.string ⟨(repeatL s.data.toList c).toArray⟩, .nilIface]) (by simp [results, Tryd.results53, go_sem]) rfl ?_
          exact ⟨_, rfl, .inl ⟨rfl, rfl⟩, hB1.trans (hB2.mono hB1.size)⟩
end Go.Proofs.YtakbmjndhejfpaaDoor
