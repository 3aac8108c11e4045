import Derived.Test.YtakbmjndhejfpaaDoorJoinH
import Derived.Test.YtakbmjndhejfpaaDoorJoinP
import Derived.Test.YtakbmjndhejfpaaDoorTimesS
import Derived.Laws.BytesArg
namespace Go.Proofs.YtakbmjndhejfpaaDoor
open Go.RowKit Go.Lib
set_option linter.unusedVariables false
set_option linter.unusedSimpArgs false

theorem bytes_backO (w : World) (B : Nat) (a : Option Addr) (co : Nat) (L : List UInt8) (n : Nat) (hn : n = L.length) (h : U8.Own w B (.slice a n co) (bz L)) :
    (convert 57 9 (.slice a n co)).run Tryd.prog w = .ok (.string ⟨L.toArray⟩) w := by
  rcases h.shape with ⟨hv, h0⟩ | ⟨g, cap, hv, _⟩
  · have hL : L = [] := by cases L with
      | nil => rfl
      | cons x r => simp [bz] at h0
    subst hL
    simp only [Value.slice.injEq] at hv
    obtain ⟨rfl, _, _⟩ := hv
    exact run_convert_bytes_nil (P := Tryd.prog) (w := w) 57 5 Tryd.underlying57 Tryd.underlying5 n co 9 Tryd.underlying9
  · simp only [Value.slice.injEq] at hv
    obtain ⟨rfl, _, _⟩ := hv
    exact bytes_back w B g co L n hn h
/-- The texts joined. -/
def jn (sep : ByteArray) (xs : List ByteArray) : List UInt8 := Lib.join (xs.map fun x => x.data.toList) sep.data.toList
theorem jn_take (sep : ByteArray) (xs : List ByteArray) (k : Nat) : (jn sep (xs.take k)).length ≤ (jn sep xs).length := by
  unfold jn; rw [List.map_take]; exact join_take_len _ _ _
theorem jn_first (sep : ByteArray) (xs : List ByteArray) (h : 0 < xs.length) : jn sep (xs.take 1) = (xs.getD 0 Str.Z).data.toList := by
  cases xs with
  | nil => simp at h
  | cons x r => simp [jn, join_one, List.getD]
theorem jn_next (sep : ByteArray) (xs : List ByteArray) (k : Nat) (hk : 0 < k) (h : k < xs.length) : jn sep (xs.take (k + 1)) = jn sep (xs.take k) ++ sep.data.toList ++ (xs.getD k Str.Z).data.toList := by
  unfold jn
  rw [List.take_add_one, List.getElem?_eq_getElem h, List.map_append]
  simp only [Option.toList, List.map_cons, List.map_nil]
  rw [join_snoc _ _ _ (by cases xs with | nil => simp at h | cons x r => cases k with | zero => omega | succ k => simp)]
  simp [List.getD, h]
set_option maxHeartbeats 2000000 in
set_option maxRecDepth 100000 in
theorem l3Join_any (sep : ByteArray) (v : Value) (xs : List ByteArray) (w : World) (hr : Str.Rd w v xs) (hs : sep.size ≤ 16384) (hx : ∀ x ∈ xs, x.size ≤ 16384) :
    Calls Tryd.prog 31 #[.string sep, v] w fun e w' => ∃ T : List UInt8, e = .returned (.string ⟨T.toArray⟩) ∧ T.length ≤ 65536 ∧ ((jn sep xs).length ≤ 16384 → T = jn sep xs) ∧ (16384 < (jn sep xs).length → 16384 < T.length) ∧ Below w.heap.size w w' := by
  obtain ⟨a, cap, rfl, hl, hn0, hc⟩ := hr
  have HX : Hid (∀ x ∈ xs, x.size ≤ 16384) := hx
  clear hx
  go_enter Tryd.func31, Tryd.ntmps31
  go_wp2
  go_loopw [5, 6] (fun o i wr => ∃ (k m co : Nat) (ao : Option Addr), k ≤ xs.length ∧ i = .int .i64 k ∧ m = (jn sep (xs.take k)).length ∧ m ≤ 16384 ∧ o = .slice ao m co ∧ U8.Own wr w.heap.size (.slice ao m co) (bz (jn sep (xs.take k))) ∧ Below w.heap.size w wr) (fun _ i _ => xs.length - (RowKit.intOf i).toNat)
  case atStart => exact ⟨0, 0, 0, some ⟨w.heap.size, 0, none⟩, Nat.zero_le _, rfl, rfl, by omega, rfl, U8.Own.empty w, (Below.refl _ _).alloc (Nat.le_refl _) _⟩
  case round =>
    obtain ⟨k, m, co, ao, hk, rfl, hm, hm1, rfl, hOw, hBr⟩ := hrel
    have HM : Hid (m = (jn sep (xs.take k)).length) := hm
    clear hm
    by_cases hlt : k < xs.length
    · obtain ⟨b, off, rfl, hb, hcell⟩ := hc (by omega)
      have hwr := hBr.size
      by_cases hk0 : k = 0
      · subst hk0
        have H1 : Hid (jn sep (xs.take (0 + 1)) = (xs.getD 0 Str.Z).data.toList) := jn_first sep xs hlt
        have hzs : (xs.getD 0 Str.Z).size ≤ 16384 := HX.out _ (by simp [List.getD, hlt])
        have hce : wr.cell? ⟨b, off, none⟩ = some (.string (xs.getD 0 Str.Z)) := (hBr.cell (p := ⟨b, off + 0, none⟩) hb).trans (hcell 0 hlt)
        generalize xs.getD 0 Str.Z = z at H1 hzs hce
        have hm0 : m = 0 := HM.out
        subst hm0
        rw [show jn sep (xs.take 0) = [] from rfl] at hOw
        obtain ⟨cp, w1, hcv, hRd, hBc, hOk⟩ := bytes_of z wr (by omega)
        have hOw2 := hOk _ _ _ hOw
        have hl1 : (bz [] ++ bz z.data.toList).length = z.size := by rw [List.length_append, bz_len, bz_len, ← size_eq]; simp
        have hl2 : (bz []).length + (bz z.data.toList).length = z.size := by rw [← hl1, List.length_append]
        have hws := hBc.size
        have hnb : ¬ (16384 : Int) < (z.size : Int) := by omega
        clear hcell hc HM HX hOk hOw hn0
        go_wp2_with (at_builtin; refine U8.wpList_append_rd rfl _ _ 57 rfl Tryd.underlying57 w.heap.size _ _ _ _ rfl rfl hOw2 hRd (by rw [hl2]; omega) (by omega) ?_; rw [hl1]; intro a1 c1 w2 hO1 hB1)
        go_roundw
        case rel =>
          refine ⟨0 + 1, z.size, c1, a1, by omega, by go_num, ?_, by omega, rfl, ?_, (hBr.trans (hBc.mono hwr)).trans hB1⟩
          · rw [H1.out, ← size_eq]
          · rw [H1.out]; exact hO1
        case measure => simp [RowKit.intOf]; omega
      · have H1 : Hid (jn sep (xs.take (k + 1)) = jn sep (xs.take k) ++ sep.data.toList ++ (xs.getD k Str.Z).data.toList) := jn_next sep xs k (by omega) hlt
        have H2 : Hid ((jn sep (xs.take (k + 1))).length ≤ (jn sep xs).length) := jn_take sep xs (k + 1)
        have hzs : (xs.getD k Str.Z).size ≤ 16384 := HX.out _ (by simp [List.getD, hlt])
        have hce : w.cell? ⟨b, off + k, none⟩ = some (.string (xs.getD k Str.Z)) := hcell k hlt
        generalize xs.getD k Str.Z = z at H1 hzs hce
        generalize jn sep (xs.take k) = P at hOw HM H1
        have hPl : P.length = m := HM.out.symm
        have hkp : (0 : Int) < (k : Int) := by omega
        obtain ⟨R, hR⟩ : ∃ R, P ++ sep.data.toList ++ z.data.toList = R := ⟨_, rfl⟩
        rw [hR] at H1
        obtain ⟨M1, hM1⟩ : ∃ M1, m + sep.size = M1 := ⟨_, rfl⟩
        obtain ⟨M2, hM2⟩ : ∃ M2, M1 + z.size = M2 := ⟨_, rfl⟩
        obtain ⟨cp, w1, hcv, hRd, hBc, hOk⟩ := bytes_of sep wr (by omega)
        have hOw2 := hOk _ _ _ hOw
        have hl1 : (bz P ++ bz sep.data.toList).length = M1 := by rw [List.length_append, bz_len, bz_len, ← size_eq, hPl, hM1]
        have hl2 : (bz P).length + (bz sep.data.toList).length = M1 := by rw [← hl1, List.length_append]
        have hl3 : ((bz P ++ bz sep.data.toList) ++ bz z.data.toList).length = M2 := by rw [List.length_append, hl1, bz_len, ← size_eq, hM2]
        have hl4 : (bz P ++ bz sep.data.toList).length + (bz z.data.toList).length = M2 := by rw [hl1, bz_len, ← size_eq, hM2]
        have HE : Hid ((bz P ++ bz sep.data.toList) ++ bz z.data.toList = bz R) := by
          show _ = _
          rw [← hR, bz_append, bz_append]
        have H3 : Hid (R.length = M2) := by
          show _ = _
          rw [← hR, List.length_append, List.length_append, hPl, ← size_eq, ← size_eq, hM1, hM2]
        have hM2b : M2 ≤ 65536 := by omega
        have hM1b : M1 ≤ 65536 := by omega
        have hws := hBc.size
        clear hcell hc HM HX hOk hOw hn0 hPl hM1 hM2 hR
        by_cases hbig : (16384 : Int) < (M2 : Int)
        · go_wp2_with (first
            | (at_builtin; refine U8.wpList_append_rd rfl _ _ 57 rfl Tryd.underlying57 w.heap.size _ _ _ _ rfl rfl hOx hRdx (by rw [hl4]; omega) (by omega) ?_; rw [hl3]; intro a2 c2 w4 hO2 hB2; rw [HE.out] at hO2; have hcv3 := bytes_backO w4 w.heap.size a2 c2 _ _ H3.out.symm hO2)
            | (at_builtin; refine U8.wpList_append_rd rfl _ _ 57 rfl Tryd.underlying57 w.heap.size _ _ _ _ rfl rfl hOw2 hRd (by rw [hl2]; omega) (by omega) ?_; rw [hl1]; intro a1 c1 w2 hO1 hB1; have hB12 : Below w.heap.size w w2 := (hBr.trans (hBc.mono hwr)).trans hB1; have hce2 : w2.cell? ⟨b, off + k, none⟩ = some (.string z) := (hB12.cell (p := ⟨b, off + k, none⟩) hb).trans hce; obtain ⟨cpx, w3, hcvx, hRdx, hBcx, hOkx⟩ := bytes_of z w2 (by omega); have hOx := hOkx _ _ _ hO1; have hwx := hBcx.size; have hw2 := hB12.size))
          go_ret
          have h3 := H3.out
          have h1 := H1.out
          have h2 := H2.out
          rw [h1, h3] at h2
          exact ⟨_, rfl, by rw [h3]; omega, fun h => by omega, fun _ => by rw [h3]; omega, (hB12.trans (hBcx.mono hw2)).trans hB2⟩
        · go_wp2_with (first
            | (at_builtin; refine U8.wpList_append_rd rfl _ _ 57 rfl Tryd.underlying57 w.heap.size _ _ _ _ rfl rfl hOx hRdx (by rw [hl4]; omega) (by omega) ?_; rw [hl3]; intro a2 c2 w4 hO2 hB2; rw [HE.out] at hO2)
            | (at_builtin; refine U8.wpList_append_rd rfl _ _ 57 rfl Tryd.underlying57 w.heap.size _ _ _ _ rfl rfl hOw2 hRd (by rw [hl2]; omega) (by omega) ?_; rw [hl1]; intro a1 c1 w2 hO1 hB1; have hB12 : Below w.heap.size w w2 := (hBr.trans (hBc.mono hwr)).trans hB1; have hce2 : w2.cell? ⟨b, off + k, none⟩ = some (.string z) := (hB12.cell (p := ⟨b, off + k, none⟩) hb).trans hce; obtain ⟨cpx, w3, hcvx, hRdx, hBcx, hOkx⟩ := bytes_of z w2 (by omega); have hOx := hOkx _ _ _ hO1; have hwx := hBcx.size; have hw2 := hB12.size))
          go_roundw
          case rel =>
            refine ⟨k + 1, M2, c2, a2, by omega, by go_num, ?_, by omega, rfl, ?_, (hB12.trans (hBcx.mono hw2)).trans hB2⟩
            · rw [H1.out, H3.out]
            · rw [H1.out]; exact hO2
          case measure => simp [RowKit.intOf]; omega
    · have hk' : k = xs.length := by omega
      subst hk'
      have hcv := bytes_backO wr w.heap.size ao co (jn sep (xs.take xs.length)) m HM.out hOw
      rw [List.take_of_length_le (Nat.le_refl _)] at hcv HM
      obtain ⟨J, hJ⟩ : ∃ J, jn sep xs = J := ⟨_, rfl⟩
      rw [hJ] at hcv HM
      have HJ : Hid (jn sep xs = J) := hJ
      clear hOw hc HX hJ
      go_wp2
      go_ret
      have hT := HM.out
      exact ⟨J, rfl, by omega, fun _ => HJ.out.symm, fun h => by rw [HJ.out] at h; omega, hBr⟩
set_option maxRecDepth 100000 in
theorem l3Fit_any (T : List UInt8) (w : World) (hT : T.length ≤ 65536) :
    Calls Tryd.prog 30 #[.string ⟨T.toArray⟩] w fun e w' => e = .returned (.tuple #[.string ⟨(if 16384 < T.length then [] else T : List UInt8).toArray⟩, .int .i64 (if 16384 < T.length then 3 else 0)]) ∧ w' = w := by
  obtain ⟨S, hS⟩ : ∃ S : ByteArray, (⟨T.toArray⟩ : ByteArray) = S := ⟨_, rfl⟩
  have hsz : S.size = T.length := by rw [← hS]; show T.toArray.size = _; simp
  rw [hS]
  by_cases h : (16384 : Int) < (S.size : Int)
  · rw [if_pos (by omega), if_pos (by omega)]
    go_enter Tryd.func30, Tryd.ntmps30
    go_wp2
    exact bodyPost_ret (v := .tuple #[.string ⟨#[]⟩, .int .i64 3]) (by simp [results, Tryd.results30, go_sem]) rfl ⟨rfl, rfl⟩
  · rw [if_neg (by omega), if_neg (by omega), hS]
    clear hS
    go_enter Tryd.func30, Tryd.ntmps30
    go_wp2
    exact bodyPost_ret (v := .tuple #[.string S, .int .i64 0]) (by simp [results, Tryd.results30, go_sem]) rfl ⟨rfl, rfl⟩
/-- What the two joins answer. -/
def joinAns (sep : ByteArray) (xs : List ByteArray) : List UInt8 × Int :=
  if (textOf sep).isSome = true ∧ (xs.all fun x => (textOf x).isSome) = true then (if 16384 < (jn sep xs).length then ([], 3) else (jn sep xs, 0)) else ([], 1)
/-- Joined and brought to its size. -/
def fitJoin (sep : ByteArray) (xs : List ByteArray) : List UInt8 × Int := if 16384 < (jn sep xs).length then ([], 3) else (jn sep xs, 0)
theorem fit_of {sep : ByteArray} {xs : List ByteArray} {T : List UInt8} (h1 : (jn sep xs).length ≤ 16384 → T = jn sep xs) (h2 : 16384 < (jn sep xs).length → 16384 < T.length) : (if 16384 < T.length then [] else T) = (fitJoin sep xs).1 ∧ (if 16384 < T.length then 3 else 0) = (fitJoin sep xs).2 := by
  unfold fitJoin
  by_cases h : 16384 < (jn sep xs).length
  · rw [if_pos (h2 h), if_pos (h2 h), if_pos h]; exact ⟨rfl, rfl⟩
  · have := h1 (by omega)
    subst this
    rw [if_neg h, if_neg h, if_neg h]; exact ⟨rfl, rfl⟩
set_option maxHeartbeats 1000000 in
set_option maxRecDepth 100000 in
theorem textJoinS_any (sep : ByteArray) (v : Value) (xs : List ByteArray) (w : World) (hr : Str.Rd w v xs) (hs : sep.size ≤ 16777216) (hx : ∀ x ∈ xs, x.size ≤ 16777216) :
    Calls Tryd.prog 11 #[.string sep, v] w fun e w' => e = .returned (.tuple #[.string ⟨(joinAns sep xs).1.toArray⟩, .int .i64 (joinAns sep xs).2]) ∧ Below w.heap.size w w' := by
  have hr0 := hr
  obtain ⟨a, cap, rfl, hl, hn0, hc⟩ := hr
  have HR : Hid (Str.Rd w (.slice a xs.length cap) xs) := hr0
  clear hr0
  have hK := textOkS_any sep w (by omega)
  have HX : Hid (∀ x ∈ xs, x.size ≤ 16777216) := hx
  clear hx
  obtain ⟨o0, ho0⟩ : ∃ o, (textOf sep).isSome = o := ⟨_, rfl⟩
  have HO : Hid ((textOf sep).isSome = o0) := ho0
  rw [ho0] at hK
  clear ho0
  obtain ⟨A, hA0⟩ : ∃ A, joinAns sep xs = A := ⟨_, rfl⟩
  have HA : Hid (joinAns sep xs = A) := hA0
  rw [hA0]
  clear hA0
  go_enter Tryd.func11, Tryd.ntmps11
  go_wp2_with fail
  refine hK.mono ?_
  rintro e w0 ⟨rfl, hB0⟩
  clear hK
  go_wp2
  go_loopw [6, 7] (fun o i wr => ∃ (k : Nat) (ok : Bool), k ≤ xs.length ∧ i = .int .i64 k ∧ o = .bool ok ∧ (ok = (o0 && ((xs.take k).all fun x => (textOf x).isSome))) ∧ Below w.heap.size w wr) (fun _ i _ => xs.length - (RowKit.intOf i).toNat)
  case atStart => exact ⟨0, o0, Nat.zero_le _, rfl, rfl, by simp, hB0⟩
  case round =>
    obtain ⟨k, ok, hk, rfl, rfl, hok, hBr⟩ := hrel
    have HK : Hid (ok = (o0 && ((xs.take k).all fun x => (textOf x).isSome))) := hok
    clear hok
    have hwr := hBr.size
    by_cases hgo : k < xs.length ∧ ok = true
    · obtain ⟨hlt, rfl⟩ := hgo
      obtain ⟨b, off, rfl, hb, hcell⟩ := hc (by omega)
      have hce : wr.cell? ⟨b, off + k, none⟩ = some (.string (xs.getD k Str.Z)) := (hBr.cell (p := ⟨b, off + k, none⟩) hb).trans (hcell k hlt)
      have H1 : Hid ((o0 && ((xs.take (k + 1)).all fun x => (textOf x).isSome)) = (textOf (xs.getD k Str.Z)).isSome) := by
        show _ = _
        rw [List.take_add_one, List.getElem?_eq_getElem hlt, List.all_append, ← Bool.and_assoc, ← HK.out]
        simp [List.getD, hlt]
      have hzs : (xs.getD k Str.Z).size ≤ 16777216 := HX.out _ (by simp [List.getD, hlt])
      generalize xs.getD k Str.Z = z at hce H1 hzs
      have hZ := fun W => textOkS_any z W (by omega)
      generalize (textOf z).isSome = oz at hZ H1
      clear hcell hc HX HR HO
      go_wp2_with fail
      refine (hZ _).mono ?_
      rintro e w1 ⟨rfl, hB1⟩
      go_wp2
      go_roundw
      case rel => exact ⟨k + 1, oz, by omega, by go_num, rfl, H1.out.symm, hBr.trans (hB1.mono hwr)⟩
      case measure => simp [RowKit.intOf]; omega
    · have H2 : Hid ((o0 && (xs.all fun x => (textOf x).isSome)) = ok) := by
        show _ = _
        by_cases hlt : k < xs.length
        · have : ok = false := by cases ok with
            | false => rfl
            | true => exact absurd ⟨hlt, rfl⟩ hgo
          subst this
          cases hoo : o0 with
          | false => simp
          | true =>
            have h3 := HK.out
            rw [hoo, Bool.true_and] at h3
            rw [Bool.true_and]
            have h4 : xs.all (fun x => (textOf x).isSome) = ((xs.take k).all (fun x => (textOf x).isSome) && (xs.drop k).all (fun x => (textOf x).isSome)) := by
              rw [← List.all_append, List.take_append_drop]
            rw [h4, ← h3, Bool.false_and]
        · rw [HK.out, List.take_of_length_le (by omega)]
      cases hok : ok with
      | false =>
        rw [hok] at H2
        have hA : A = ([], 1) := by
          rw [← HA.out]
          unfold joinAns
          rw [if_neg]
          rintro ⟨h5, h6⟩
          have h7 := H2.out
          rw [← HO.out, h5, h6] at h7
          cases h7
        subst hA
        clear HX HR HO HK H2 hgo hc hok HA
        by_cases hlt : (k : Int) < (xs.length : Int)
        · go_wp2
          exact bodyPost_ret (v := .tuple #[.string ⟨#[]⟩, .int .i64 1]) (by simp [results, Tryd.results11, go_sem]) rfl ⟨rfl, hBr⟩
        · go_wp2
          exact bodyPost_ret (v := .tuple #[.string ⟨#[]⟩, .int .i64 1]) (by simp [results, Tryd.results11, go_sem]) rfl ⟨rfl, hBr⟩
      | true =>
        have hlt : ¬ (k : Int) < (xs.length : Int) := fun h => hgo ⟨by omega, hok⟩
        rw [hok] at H2
        have h7 : o0 = true ∧ (xs.all fun x => (textOf x).isSome) = true := by simpa using H2.out
        have hA : fitJoin sep xs = A := by
          rw [← HA.out]
          unfold joinAns
          rw [if_pos ⟨HO.out.trans h7.1, h7.2⟩]
          rfl
        have hss : sep.size ≤ 16384 := text_fits' (HO.out.trans h7.1)
        have hxx : ∀ x ∈ xs, x.size ≤ 16384 := fun x hx => text_fits' (List.all_eq_true.1 h7.2 x hx)
        have hJ := fun W h => l3Join_any sep (.slice a xs.length cap) xs W h hss hxx
        have hRr := HR.out.keep hBr
        clear HX HR HO HK H2 hgo hc hok h7 hxx HA
        go_wp2_with fail
        refine (hJ _ hRr).mono ?_
        rintro e w1 ⟨T, rfl, hTl, hT1, hT2, hB1⟩
        have hF := fun W => l3Fit_any T W hTl
        rw [(fit_of hT1 hT2).1, (fit_of hT1 hT2).2, hA] at hF
        clear hA
        obtain ⟨A1, A2⟩ := A
        simp only at hF
        obtain ⟨TT, hTT⟩ : ∃ TT : ByteArray, (⟨T.toArray⟩ : ByteArray) = TT := ⟨_, rfl⟩
        obtain ⟨F1, hF1⟩ : ∃ F1 : ByteArray, (⟨A1.toArray⟩ : ByteArray) = F1 := ⟨_, rfl⟩
        rw [hTT, hF1] at hF
        simp only [hTT]
        have HF : Hid ((⟨A1.toArray⟩ : ByteArray) = F1) := hF1
        clear hT1 hT2 hTT hF1 hJ
        go_wp2_with fail
        refine (hF _).mono ?_
        rintro e w2 ⟨rfl, rfl⟩
        go_wp2
        refine bodyPost_ret (v := .tuple #[.string F1, .int .i64 A2]) (by simp [results, Tryd.results11, go_sem]) rfl ?_
        rw [← HF.out]
        exact ⟨rfl, hBr.trans (hB1.mono hwr)⟩
end Go.Proofs.YtakbmjndhejfpaaDoor
