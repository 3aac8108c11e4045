import Derived.Test.YtiihfaohdgkhaaaDoorJoinS
import Derived.Test.YtiihfaohdgkhaaaDoorTimesI
namespace Go.Proofs.YtiihfaohdgkhaaaDoor
open Go.RowKit Go.Lib Go.Shelf
set_option linter.unusedVariables false
set_option linter.unusedSimpArgs false

/-- All of them are texts. -/
def okAll (xs : List ByteArray) : Bool := xs.all fun x => (textOf x).isSome
set_option maxRecDepth 100000 in
theorem indexFunc_any (v : Value) (xs : List ByteArray) (w : World) (hr : Str.Rd w v xs) (hx : ∀ x ∈ xs, x.size ≤ 16777216) (hT : Tabs w) :
    Calls Tryd.prog 43 #[v, .func (.func 31) #[] #[]] w fun e w' => ∃ r : Int, e = .returned (.int .i64 r) ∧ ((0 ≤ r ∧ okAll xs = false) ∨ (r < 0 ∧ okAll xs = true)) ∧ Below w.heap.size w w' := by
  obtain ⟨a, cap, rfl, hl, hn0, hc⟩ := hr
  have HX : Hid (∀ x ∈ xs, x.size ≤ 16777216) := hx
  clear hx
  go_enter Tryd.func43, Tryd.ntmps43
  go_wp2
  go_loopw [5, 8] (fun _ i wr => ∃ k : Nat, k ≤ xs.length ∧ i = .int .i64 k ∧ Hid (okAll (xs.take k) = true) ∧ Below w.heap.size w wr) (fun _ i _ => xs.length - (RowKit.intOf i).toNat)
  case atStart => exact ⟨0, Nat.zero_le _, rfl, rfl, Below.refl _ _⟩
  case round =>
    obtain ⟨k, hk, rfl, HA, hBr⟩ := hrel
    by_cases hlt : k < xs.length
    · obtain ⟨b, off, rfl, hb, hcell⟩ := hc (by omega)
      have hltz : (k : Int) < (xs.length : Int) := by omega
      have hce : wr.cell? ⟨b, off + k, none⟩ = some (.string (xs.getD k Str.Z)) := (hBr.cell (p := ⟨b, off + k, none⟩) hb).trans (hcell k hlt)
      have H1 : Hid (okAll (xs.take (k + 1)) = (textOf (xs.getD k Str.Z)).isSome) := by
        show _ = _
        have h2 := HA.out
        unfold okAll at h2 ⊢
        rw [List.take_add_one, List.getElem?_eq_getElem hlt, List.all_append, h2]
        simp [List.getD, hlt]
      have H2 : Hid ((textOf (xs.getD k Str.Z)).isSome = false → okAll xs = false) := by
        intro h3
        unfold okAll
        rw [List.all_eq_false]
        exact ⟨xs.getD k Str.Z, by simp [List.getD, hlt], by rw [h3]; decide⟩
      have hzs : (xs.getD k Str.Z).size ≤ 16777216 := HX.out _ (by simp [List.getD, hlt])
      generalize xs.getD k Str.Z = z at hce H1 hzs H2
      have hZ := fun W h => isNoText_any z W (by omega) h
      have hTr := hT.below hBr
      generalize (textOf z).isSome = oz at hZ H1 H2
      clear hcell hc HX
      cases oz with
      | false =>
        go_wp2_with fail
        refine (hZ _ hTr).mono ?_
        rintro e w1 ⟨rfl, hB1⟩
        go_wp2
        go_ret
        exact ⟨k, rfl, .inl ⟨by omega, H2.out (by simp)⟩, hBr.trans (hB1.mono hBr.size)⟩
      | true =>
        go_wp2_with fail
        refine (hZ _ hTr).mono ?_
        rintro e w1 ⟨rfl, hB1⟩
        go_wp2
        go_roundw
        case rel => exact ⟨k + 1, by omega, by go_num, H1, hBr.trans (hB1.mono hBr.size)⟩
        case measure => simp [RowKit.intOf]; omega
    · have hltz : ¬ (k : Int) < (xs.length : Int) := by omega
      have H3 : Hid (okAll xs = true) := by
        show _ = _
        have h2 := HA.out
        rw [List.take_of_length_le (by omega)] at h2
        exact h2
      go_wp2
      go_ret
      exact ⟨-1, rfl, .inr ⟨by omega, H3.out⟩, hBr⟩
set_option maxRecDepth 100000 in
theorem containsFunc_any (v : Value) (xs : List ByteArray) (w : World) (hr : Str.Rd w v xs) (hx : ∀ x ∈ xs, x.size ≤ 16777216) (hT : Tabs w) :
    Calls Tryd.prog 32 #[v, .func (.func 31) #[] #[]] w fun e w' => e = .returned (.bool (!okAll xs)) ∧ Below w.heap.size w w' := by
  have hI := indexFunc_any v xs w hr hx hT
  generalize okAll xs = o at hI
  go_enter Tryd.func32, Tryd.ntmps32
  go_wp2_with fail
  refine hI.mono ?_
  rintro e w1 ⟨r, rfl, hr2, hB1⟩
  rcases hr2 with ⟨h0, rfl⟩ | ⟨h0, rfl⟩
  · go_wp2
    go_ret
    exact ⟨rfl, hB1⟩
  · have h1 : ¬ 0 ≤ r := by omega
    go_wp2
    go_ret
    refine ⟨?_, hB1⟩
    show Ending.returned (.bool (decide (0 ≤ r))) = _
    rw [decide_eq_false (by omega)]; rfl
theorem Tryd.extra156 : Builder.Extra Tryd.prog Tryd.laysJoin_ren := {
  sizeBuilder := by kernel_rfl
  liesBuilder := by kernel_rfl
  t5 := Tryd.underlying5
  a5 := Tryd.isAgg5
  z5 := Tryd.sizeOf5
  v5 := Tryd.zeroValue5
  infoByte := by kernel_rfl
  cellsByte := by kernel_rfl
  sizeByte := by kernel_rfl
  neB5 := by decide }
theorem join_at (sep : ByteArray) (v : Value) (xs : List ByteArray) (w : World) (hr : Str.Rd w v xs) (hlen : (jn sep xs).length ≤ 140737488355328) :
    Calls Tryd.prog 33 #[v, .string sep] w fun e w' => e = .returned (.string ⟨(jn sep xs).toArray⟩) ∧ Below w.heap.size w w' := by
  obtain ⟨a, cap, rfl, hl, hn0, hc⟩ := hr
  by_cases h0 : xs.length = 0
  · have hx : xs = [] := List.length_eq_zero_iff.1 h0
    subst hx
    have h := Any.strings_Join_none Tryd.laysJoin Tryd.extra156 a cap sep w
    exact h.mono fun e w' ⟨h1, h2⟩ => ⟨h1, h2 ▸ Below.refl _ _⟩
  · obtain ⟨b, off, rfl, hb, hcell⟩ := hc (by omega)
    refine Any.strings_Join Tryd.laysJoin Tryd.extra156 b off cap xs sep w (fun j x hj => ?_) hb (by omega) hn0.1 hlen
    have hj' : j < xs.length := by
      rcases Nat.lt_or_ge j xs.length with h | h
      · exact h
      · rw [List.getElem?_eq_none h] at hj; cases hj
    rw [hcell j hj']
    simp [List.getD, hj]
set_option maxHeartbeats 1000000 in
set_option maxRecDepth 100000 in
theorem joined_any (sep : ByteArray) (v : Value) (xs : List ByteArray) (aA aZ aL : Addr) (w : World) (hr : Str.Rd w v xs) (hs : sep.size ≤ 16777216) (hx : ∀ x ∈ xs, x.size ≤ 16777216) (hT : Tabs w) (hE : Errs w aA aZ aL) :
    Calls Tryd.prog 19 #[.string sep, v] w fun e w' => ∃ u, e = .returned (.tuple #[.string ⟨(joinAns sep xs).1.toArray⟩, u]) ∧ IsErr aA aZ aL u (joinAns sep xs).2 ∧ Below w.heap.size w w' := by
  have hK := isNoText_any sep w (by omega) hT
  have hC := fun W h h2 => containsFunc_any v xs W h hx h2
  cases hok : (textOf sep).isSome with
  | false =>
    rw [hok] at hK
    have hA : joinAns sep xs = ([], 1) := by unfold joinAns; rw [if_neg (fun h => by rw [hok] at h; cases h.1)]
    rw [hA]
    go_enter Tryd.func19, Tryd.ntmps19
    go_wp2_with fail
    refine hK.mono ?_
    rintro e w1 ⟨rfl, hB1⟩
    have hg1 := (hE.below hB1).1.1
    go_wp2
    go_region_with fail
    all_goals (try go_wp2)
    all_goals refine bodyPost_ret (v := .tuple #[.string ⟨#[]⟩, errAt aA]) (by simp [results, Tryd.results19, go_sem, Act.put]) rfl ?_
    all_goals exact ⟨_, rfl, .inr (.inl ⟨rfl, rfl⟩), (by first | exact hB1 | exact hB1.drew)⟩
  | true =>
    rw [hok] at hK
    cases hok2 : okAll xs with
    | false =>
      rw [hok2] at hC
      have hA : joinAns sep xs = ([], 1) := by unfold joinAns; rw [if_neg (fun h => by have := h.2; unfold okAll at hok2; rw [hok2] at this; cases this)]
      rw [hA]
      go_enter Tryd.func19, Tryd.ntmps19
      go_wp2_with fail
      refine hK.mono ?_
      rintro e w1 ⟨rfl, hB1⟩
      go_wp2_with fail
      refine (hC _ (hr.keep hB1) (hT.below hB1)).mono ?_
      rintro e w2 ⟨rfl, hB2⟩
      have hB3 := hB1.trans (hB2.mono hB1.size)
      have hg1 := (hE.below hB3).1.1
      go_wp2
      go_region_with fail
      all_goals (try go_wp2)
      all_goals refine bodyPost_ret (v := .tuple #[.string ⟨#[]⟩, errAt aA]) (by simp [results, Tryd.results19, go_sem, Act.put]) rfl ?_
      all_goals exact ⟨_, rfl, .inr (.inl ⟨rfl, rfl⟩), (by first | exact hB3 | exact hB3.drew)⟩
    | true =>
      rw [hok2] at hC
      have hA : joinAns sep xs = fitJoin sep xs := by unfold joinAns; rw [if_pos ⟨hok, hok2⟩]; rfl
      rw [hA]
      have hss := text_fits' hok
      have hxx : ∀ x ∈ xs, x.size ≤ 16384 := fun x hx => text_fits' (List.all_eq_true.1 hok2 x hx)
      have hr0 := hr
      obtain ⟨a, cap, rfl, hl, hn0, hcc⟩ := hr
      have HR : Hid (Str.Rd w (.slice a xs.length cap) xs) := hr0
      obtain ⟨S0, hS0⟩ : ∃ S0 : Nat, sep.size * (xs.length - 1) = S0 := ⟨_, rfl⟩
      have hS0b : S0 ≤ 274877906944 := by
        rw [← hS0]
        calc sep.size * (xs.length - 1) ≤ 16384 * 16777216 := Nat.mul_le_mul hss (by omega)
          _ = 274877906944 := rfl
      have hw0 : wrap64 ((sep.size : Int) * max ((xs.length : Int) - 1) 0) = (S0 : Int) := by
        have h1 : max ((xs.length : Int) - 1) 0 = ((xs.length - 1 : Nat) : Int) := by omega
        rw [h1, ← Int.natCast_mul, hS0]
        unfold wrap64; omega
      have HS : Hid ((jn sep xs).length = S0 + tot xs) := by
        show _ = _
        unfold jn
        rw [join_len_any, List.length_map, ← size_eq, hS0]
        congr 1
        unfold lens tot
        rw [List.map_map]
        congr 1
      have HX : Hid (∀ x ∈ xs, x.size ≤ 16384) := hxx
      have HTt : Hid (∀ k, tot (xs.take k) ≤ 16384 * xs.length) := by
        intro k
        have hgen : ∀ ys : List ByteArray, (∀ x ∈ ys, x.size ≤ 16384) → tot ys ≤ 16384 * ys.length := by
          intro ys
          induction ys with
          | nil => intro _; simp [tot]
          | cons y r ih =>
            intro h
            have h1 := ih (fun x hx => h x (List.mem_cons_of_mem _ hx))
            have h2 := h y (List.mem_cons_self ..)
            have h3 : tot (y :: r) = y.size + tot r := by simp [tot]
            rw [h3, List.length_cons]; omega
        exact Nat.le_trans (tot_take_le xs k) (hgen xs hxx)
      clear hA hr0 hxx hS0 hx hs
      go_enter Tryd.func19, Tryd.ntmps19
      go_wp2_with fail
      refine hK.mono ?_
      rintro e w1 ⟨rfl, hB1⟩
      go_wp2_with fail
      refine (hC _ (HR.out.keep hB1) (hT.below hB1)).mono ?_
      rintro e w2 ⟨rfl, hB2⟩
      have hB3 := hB1.trans (hB2.mono hB1.size)
      go_wp2
      go_loopw [6, 8, 25] (fun q _ i wr => ∃ (k m : Nat), k ≤ xs.length ∧ m = S0 + tot (xs.take k) ∧ q = .int .i64 m ∧ i = .int .i64 k ∧ Below w.heap.size w wr) (fun _ _ i _ => xs.length - (RowKit.intOf i).toNat)
      case atStart => exact ⟨0, S0, Nat.zero_le _, by simp [tot], by rw [hw0], rfl, hB3⟩
      case round =>
        obtain ⟨k, m, hk, hm, rfl, rfl, hBr⟩ := hrel
        have HM : Hid (m = S0 + tot (xs.take k)) := hm
        have hmb : m ≤ 549755813888 := by
          have := HTt.out k
          omega
        clear hm
        have hwr := hBr.size
        by_cases hlt : k < xs.length
        · obtain ⟨b, off, rfl, hb, hcell⟩ := hcc (by omega)
          have hltz : (k : Int) < (xs.length : Int) := by omega
          have hce : wr.cell? ⟨b, off + k, none⟩ = some (.string (xs.getD k Str.Z)) := (hBr.cell (p := ⟨b, off + k, none⟩) hb).trans (hcell k hlt)
          have H1 : Hid (tot (xs.take (k + 1)) = tot (xs.take k) + (xs.getD k Str.Z).size) := tot_take_succ xs k hlt
          have hzs : (xs.getD k Str.Z).size ≤ 16384 := HX.out _ (by simp [List.getD, hlt])
          generalize xs.getD k Str.Z = z at hce H1 hzs
          have hw1 : IntKind.i64.wrap ((m : Int) + (z.size : Int)) = ((m + z.size : Nat) : Int) := by
            simp [IntKind.wrap, IntKind.bits, IntKind.signed]; omega
          clear hcell hcc HX HTt HS HR hK hC
          go_wp2
          go_roundw
          case rel => exact ⟨k + 1, m + z.size, by omega, by have := HM.out; have := H1.out; omega, by go_num, by go_num, hBr⟩
          case measure => simp [RowKit.intOf]; omega
        · have hltz : ¬ (k : Int) < (xs.length : Int) := by omega
          have hk' : k = xs.length := by omega
          subst hk'
          have HJ : Hid ((jn sep xs).length = m) := by
            show _ = _
            have h1 := HM.out
            rw [List.take_of_length_le (Nat.le_refl _)] at h1
            rw [HS.out, h1]
          have hEr := hE.below hBr
          by_cases hbig : (16384 : Int) < (m : Int)
          · have hF : fitJoin sep xs = ([], 3) := by
              unfold fitJoin
              rw [if_pos (by rw [HJ.out]; omega)]
            have HF : Hid (fitJoin sep xs = ([], 3)) := hF
            have hg3 := hEr.1.2.2
            clear hcc HX HTt HS HR hK hC HJ HM hF
            go_wp2
            go_region_with fail
            all_goals (try go_wp2)
            all_goals refine bodyPost_ret (v := .tuple #[.string ⟨#[]⟩, errAt aL]) (by simp [results, Tryd.results19, go_sem, Act.put]) rfl ?_
            all_goals rw [HF.out]
            all_goals exact ⟨_, rfl, .inr (.inr (.inr (.inl ⟨rfl, rfl⟩))), (by first | exact hBr | exact hBr.drew)⟩
          · have HF : Hid (fitJoin sep xs = (jn sep xs, 0)) := by
              show _ = _
              unfold fitJoin
              rw [if_neg (by rw [HJ.out]; omega)]
            have hJn := fun W h => join_at sep (.slice a xs.length cap) xs W h (by have := HJ.out; omega)
            have hRr := HR.out.keep hBr
            obtain ⟨J, hJ⟩ : ∃ J : ByteArray, (⟨(jn sep xs).toArray⟩ : ByteArray) = J := ⟨_, rfl⟩
            rw [hJ] at hJn
            have HJ2 : Hid ((⟨(jn sep xs).toArray⟩ : ByteArray) = J) := hJ
            clear hcc HX HTt HS HR hK hC HJ HM hJ
            go_wp2_with fail
            refine (hJn _ hRr).mono ?_
            rintro e w5 ⟨rfl, hB5⟩
            go_wp2
            refine bodyPost_ret (v := .tuple #[.string J, .nilIface]) (by simp [results, Tryd.results19, go_sem]) rfl ?_
            rw [HF.out, HJ2.out]
            exact ⟨_, rfl, .inl ⟨rfl, rfl⟩, hBr.trans (hB5.mono hwr)⟩
end Go.Proofs.YtiihfaohdgkhaaaDoor
