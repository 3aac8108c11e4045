import Derived.Test.YtjoddjejobdcoaaKpJ
namespace Go.Proofs.Ytjoddjejobdcoaa
open Go.RowKit Go.Maps
set_option linter.unusedVariables false
set_option linter.unusedSimpArgs false

set_option maxRecDepth 100000 in
set_option maxHeartbeats 2000000 in
theorem law_dictkept (a : Option Addr) (n c : Nat) (bs : List Int) (w : World) (hn : n ≤ 9223372036854775807) (h : n ≤ 1048576 → Src w a n c bs) :
    Calls Try.prog 10 #[.slice a n c] w fun e w' => e = .returned (.bool true) ∧ Below w.heap.size w w' := by
  go_enter Try.func10, Try.ntmps10
  go_wp2_with fail
  refine (big_any w a n c).mono ?_
  rintro e w1 ⟨rfl, rfl⟩
  by_cases hb : (1048576 : Int) < (n : Int)
  · rw [decide_eq_true hb]
    go_wp2
    go_ret
    exact ⟨rfl, Below.refl _ _⟩
  rw [decide_eq_false hb]
  have hs := h (by omega)
  have hnb : n ≤ 1048576 := by omega
  clear h hb
  go_wp2_with fail
  refine (drawDictPut_any _ a n c bs hs).mono ?_
  rintro e w2 ⟨v, d, hh, kk, rfl, hO, hG, hhb, hkb, V2⟩
  obtain ⟨a1, n1, c1, a2, n2, c2, e0⟩ := hO.rd.form
  subst e0
  have bA : Below w2.heap.size w2 (w2.alloc (.cells #[.slice a1 n1 c1, .slice a2 n2 c2, .int .i64 d.l] 25)) := (Below.refl _ w2).alloc (Nat.le_refl _) _
  have R3 := hO.rd.keep bA
  have bD := Box3.new w2 (.slice a1 n1 c1) (.slice a2 n2 c2) (.int .i64 d.l) 25
  have V3 := V2.trans (bA.mono V2.size)
  have hlb := hG.lb
  obtain ⟨-, q0, q1, q2⟩ := id bD
  simp only
  go_wp2_with fail
  generalize hWa : w2.alloc (.cells #[.slice a1 n1 c1, .slice a2 n2 c2, .int .i64 d.l] 25) = w3 at *
  obtain ⟨D0, hD0⟩ : ∃ D0, w2.heap.size = D0 := ⟨_, rfl⟩
  rw [hD0] at bD q0 q1 q2
  try rw [hD0]
  clear hWa bA hO V2 hs
  have hnv : (n : Int) < 9223372036854775808 := by omega
  refine (putI_any _ d hh kk n _ R3 (by omega) (by omega) hhb.1 hhb.2 (by omega) hnv).mono ?_
  rintro e w4 ⟨u, rfl, hO4, hB4⟩
  generalize hPA : putA d hh kk n = PA at hO4 ⊢
  have HPA : Hid (putA d hh kk n = PA) := hPA
  clear hPA
  obtain ⟨d', okp⟩ := PA
  simp only at hO4
  have bD4 := bD.keep hB4
  have R4 := R3.keep hB4
  have V4 := V3.trans (hB4.mono V3.size)
  obtain ⟨a3, n3, c3, a4, n4, c4, e0⟩ := hO4.rd.form
  subst e0
  have bA : Below w4.heap.size w4 (w4.alloc (.cells #[.slice a3 n3 c3, .slice a4 n4 c4, .int .i64 d'.l] 25)) := (Below.refl _ w4).alloc (Nat.le_refl _) _
  have bE := Box3.new w4 (.slice a3 n3 c3) (.slice a4 n4 c4) (.int .i64 d'.l) 25
  have RE := hO4.rd.keep bA
  have bD5 := bD4.keep bA
  have R5 := R4.keep bA
  have V5 := V4.trans (bA.mono V4.size)
  clear q0 q1 q2 bD R3 hB4 bD4 R4 V3
  obtain ⟨-, q0, q1, q2⟩ := id bD5
  obtain ⟨-, r0, r1, r2⟩ := id bE
  simp only
  go_wp2_with fail
  generalize hWa : w4.alloc (.cells #[.slice a3 n3 c3, .slice a4 n4 c4, .int .i64 d'.l] 25) = w5 at *
  obtain ⟨E0, hE0⟩ : ∃ E0, w4.heap.size = E0 := ⟨_, rfl⟩
  rw [hE0] at bE r0 r1 r2
  try rw [hE0]
  clear hWa bA V4 hO4
  refine (okS_any _ d _ R5 (by omega)).mono ?_
  rintro e w6 ⟨rfl, hB6⟩
  have bD6 := bD5.keep hB6
  have bE6 := bE.keep hB6
  have R6 := R5.keep hB6
  have RE6 := RE.keep hB6
  have V6 := V5.trans (hB6.mono V5.size)
  clear q0 q1 q2 r0 r1 r2 bD5 bE R5 RE V5 hB6
  obtain ⟨-, q0, q1, q2⟩ := id bD6
  obtain ⟨-, r0, r1, r2⟩ := id bE6
  by_cases hok : OkD d
  · rw [okD_true hok]
    have hp := put_true hok hG.el hh kk n
    have hx : shE.ok ⟨hh, kk, n, false⟩ := ⟨hhb, hkb, ⟨by show _ ≤ (n : Int); omega, hnv⟩⟩
    have HP1 : Hid (putD d hh kk n = (d', okp)) := by
      have := HPA.out
      unfold putA at this
      rw [if_pos hok] at this
      exact this
    obtain rfl : okp = true := by rw [HP1.out] at hp; exact hp
    have hok' : OkD d' := by have := hok.put hG.eok hh kk n hhb.1 hhb.2; rw [HP1.out] at this; exact this
    have heok' : ∀ e ∈ d'.e, shE.ok e := by have := putD_ok hG.eok hh kk n hx; rw [HP1.out] at this; exact this
    have hfd := put_found hok hG.eok hh kk n hx hp
    rw [HP1.out] at hfd
    simp only at hfd
    obtain ⟨ix, hix, hf1, hf2⟩ := hfd
    obtain ⟨hc1, hc2⟩ := put_cut_oth hok hG.eok hh kk n hx hp
    rw [HP1.out] at hc1 hc2
    simp only at hc1 hc2
    have hgone := cut_gone hok' heok' hh kk hhb.1 hhb.2 hc1
    have hokf := hok'.cut hh kk hhb.1 hhb.2
    have HHP : Hid (OkD d') := hok'
    have hlb' := hok'.lb
    have hf0 : (fnd d' hh kk).2 ≥ 1 := by unfold fnd; simp only; omega
    have HC1 : Hid ((cutD d' hh kk).2 = true) := hc1
    have HC2 : Hid (liv (cutD d' hh kk).1.e = oth d.e hh kk) := hc2
    have HGN : Hid ((fnd (cutD d' hh kk).1 hh kk).1 = -1) := hgone
    have HOF : Hid (OkD (cutD d' hh kk).1) := hokf
    have HHx : Hid (shE.ok ⟨hh, kk, n, false⟩) := hx
    have hlbf : -9223372036854775808 ≤ (cutD d' hh kk).1.l ∧ (cutD d' hh kk).1.l < 9223372036854775808 := hokf.lb
    clear hc1 hc2 hgone hokf hp hx
    go_wp2_with fail
    refine (okS_any _ d' _ RE6 hlb').mono ?_
    rintro e w7 ⟨rfl, hB7⟩
    rw [okD_true hok']
    have bD7 := bD6.keep hB7
    have bE7 := bE6.keep hB7
    have R7 := R6.keep hB7
    have RE7 := RE6.keep hB7
    have V7 := V6.trans (hB7.mono V6.size)
    clear q0 q1 q2 r0 r1 r2 bD6 bE6 R6 RE6 V6 hB7
    obtain ⟨-, q0, q1, q2⟩ := id bD7
    obtain ⟨-, r0, r1, r2⟩ := id bE7
    go_wp2_with fail
    refine (okI_any _ d' _ RE7 hlb').mono ?_
    rintro e w8 ⟨rfl, hB8⟩
    rw [okD_true hok']
    have bD8 := bD7.keep hB8
    have bE8 := bE7.keep hB8
    have R8 := R7.keep hB8
    have RE8 := RE7.keep hB8
    have V8 := V7.trans (hB8.mono V7.size)
    clear q0 q1 q2 r0 r1 r2 bD7 bE7 R7 RE7 V7 hB8
    obtain ⟨-, q0, q1, q2⟩ := id bD8
    obtain ⟨-, r0, r1, r2⟩ := id bE8
    go_wp2_with fail
    refine (findI_any _ d' hh kk _ RE8 hlb' hhb.1 hhb.2).mono ?_
    rintro e w9 ⟨rfl, hB9⟩
    simp only [fdA, if_pos hok']
    rw [hf1]
    have bD9 := bD8.keep hB9
    have bE9 := bE8.keep hB9
    have R9 := R8.keep hB9
    have RE9 := RE8.keep hB9
    have V9 := V8.trans (hB9.mono V8.size)
    clear q0 q1 q2 r0 r1 r2 bD8 bE8 R8 RE8 V8 hB9
    obtain ⟨-, q0, q1, q2⟩ := id bD9
    obtain ⟨-, r0, r1, r2⟩ := id bE9
    have hRE := RE9
    obtain ⟨vs, ve, ev, hS9, hE9⟩ := hRE
    simp [dv] at ev
    obtain ⟨rfl, rfl⟩ := ev
    obtain ⟨eb, eoff, rfl, heb, hec⟩ := hE9.at0 hix
    obtain ⟨_, _, ee, hel9, _⟩ := hE9
    simp only [Value.slice.injEq] at ee
    have hn4 : Hid (n4 = d'.e.length) := ee.2.1
    have tv : w9.cell? ⟨eb, eoff + ix * 4 + 2, none⟩ = some (.int .i64 n) := by
      have := hec ix hix 2 (by decide)
      rw [hf2] at this
      exact this
    have hixi : (ix : Int) < (n4 : Int) := by have := hn4.out; omega
    have hfl : 1 ≤ (fnd d' hh kk).2 := by omega
    have HIX : Hid (ix < d'.e.length) := hix
    clear hec ee hf0 hf1 hf2 hel9 hS9 hix hlb hn hnb hnv
    generalize (fnd d' hh kk).2 = LK at *
    obtain ⟨lk, rfl⟩ : ∃ lk : Nat, LK = (lk : Int) + 1 := ⟨(LK - 1).toNat, by omega⟩
    have hfl2 : ¬ ((lk : Int) + 1 < 1) := by omega
    clear hfl
    have HOK' : Hid (OkD d') := hok'
    have HOKd : Hid (OkD d) := hok
    have HEOK : Hid (∀ e ∈ d'.e, shE.ok e) := heok'
    have HLB : Hid (-9223372036854775808 ≤ d'.l ∧ d'.l < 9223372036854775808) := hlb'
    have HLF : Hid (-9223372036854775808 ≤ (cutD d' hh kk).1.l ∧ (cutD d' hh kk).1.l < 9223372036854775808) := hlbf
    have HHB : Hid (0 ≤ hh ∧ hh < 18446744073709551616) := hhb
    have HKB : Hid (-9223372036854775808 ≤ kk ∧ kk < 9223372036854775808) := hkb
    clear hok' hok heok' hlb' hlbf hhb hkb
    generalize hVN : (n : Int) = VN at *
    clear hVN
    go_wp2_with fail
    refine (cutI_any _ d' hh kk _ RE9 HLB.out HHB.out.1 HHB.out.2).mono ?_
    rintro e w10 ⟨u, rfl, hO10, hB10⟩
    simp only [cutA, if_pos HOK'.out] at hO10 ⊢
    rw [HC1.out]
    generalize (cutD d' hh kk).1 = df at HC2 HGN HOF HLF hO10 ⊢
    have bD10 := bD9.keep hB10
    have R10 := R9.keep hB10
    have V10 := V9.trans (hB10.mono V9.size)
    obtain ⟨a5, n5, c5, a6, n6, c6, e0⟩ := hO10.rd.form
    subst e0
    have bA : Below w10.heap.size w10 (w10.alloc (.cells #[.slice a5 n5 c5, .slice a6 n6 c6, .int .i64 df.l] 25)) := (Below.refl _ w10).alloc (Nat.le_refl _) _
    have bF := Box3.new w10 (.slice a5 n5 c5) (.slice a6 n6 c6) (.int .i64 df.l) 25
    have RF := hO10.rd.keep bA
    have bD11 := bD10.keep bA
    have R11 := R10.keep bA
    have V11 := V10.trans (bA.mono V10.size)
    clear q0 q1 q2 r0 r1 r2 tv bD9 bE9 R9 RE9 V9 hB10 bD10 R10 V10 hO10
    obtain ⟨-, q0, q1, q2⟩ := id bD11
    obtain ⟨-, r0, r1, r2⟩ := id bF
    try simp only
    go_wp2_with fail
    generalize hWa : w10.alloc (.cells #[.slice a5 n5 c5, .slice a6 n6 c6, .int .i64 df.l] 25) = w11 at *
    obtain ⟨F0, hF0⟩ : ∃ F0, w10.heap.size = F0 := ⟨_, rfl⟩
    rw [hF0] at bF r0 r1 r2
    try rw [hF0]
    clear hWa bA
    refine (findI_any _ df hh kk _ RF HLF.out HHB.out.1 HHB.out.2).mono ?_
    rintro e w12 ⟨rfl, hB12⟩
    simp only [fdA, if_pos HOF.out]
    rw [HGN.out]
    have bD12 := bD11.keep hB12
    have bF12 := bF.keep hB12
    have R12 := R11.keep hB12
    have RF12 := RF.keep hB12
    have V12 := V11.trans (hB12.mono V11.size)
    clear q0 q1 q2 r0 r1 r2 bD11 bF R11 RF V11 hB12
    obtain ⟨-, q0, q1, q2⟩ := id bD12
    obtain ⟨-, r0, r1, r2⟩ := id bF12
    go_wp2_with fail
    refine (okS_any _ df _ RF12 HLF.out).mono ?_
    rintro e w13 ⟨rfl, hB13⟩
    rw [okD_true HOF.out]
    have bD := bD12.keep hB13
    have bF := bF12.keep hB13
    have RD := R12.keep hB13
    have RF := RF12.keep hB13
    have V13 := V12.trans (hB13.mono V12.size)
    clear q0 q1 q2 r0 r1 r2 bD12 bF12 R12 RF12 V12 hB13
    obtain ⟨-, q0, q1, q2⟩ := id bD
    obtain ⟨-, r0, r1, r2⟩ := id bF
    obtain ⟨vsD, veD, evD, _, hED⟩ := RD
    simp [dv] at evD
    obtain ⟨rfl, rfl⟩ := evD
    obtain ⟨vsF, veF, evF, _, hEF⟩ := RF
    simp [dv] at evF
    obtain ⟨rfl, rfl⟩ := evF
    obtain ⟨_, _, eeD⟩ := hED.form
    obtain ⟨_, _, eeF⟩ := hEF.form
    simp only [Value.slice.injEq] at eeD eeF
    have HN2 : Hid (n2 = d.e.length) := eeD.2.1
    have HN6 : Hid (n6 = df.e.length) := eeF.2.1
    have hmD : n2 ≤ 16777216 := by rw [HN2.out]; obtain ⟨_, _, _, hm, _⟩ := hED; exact hm
    have hmF : n6 ≤ 16777216 := by rw [HN6.out]; obtain ⟨_, _, _, hm, _⟩ := hEF; exact hm
    have hsmD : n2 ≤ 200 := by rw [HN2.out]; exact hG.el
    have HG : Hid (Gd d) := hG
    clear eeD eeF hG hixi hfl2
    have hOr0 := Own.empty' w13 w13.heap.size rfl w13.heap.size (Nat.le_refl _)
    have bV : Below w13.heap.size w13 (w13.alloc (.cells #[] 2)) := (Below.refl _ _).alloc (Nat.le_refl _) _
    go_wp2
    go_loopw [15, 16] (fun v i wr => ∃ k : Nat, k ≤ n2 ∧ i = .int .i64 k ∧ Own wr w13.heap.size v (kvs (oth (d.e.take k) hh kk)) ∧ Below w13.heap.size w13 wr) (fun _ i _ => n2 - (RowKit.intOf i).toNat)
    case atStart => exact ⟨0, Nat.zero_le _, rfl, by simpa [kvs, oth] using hOr0, bV⟩
    case round =>
      obtain ⟨k, hk, rfl, hOr, hBr⟩ := hrel
      clear hOr0 bV q0 q1 q2 r0 r1 r2
      obtain ⟨-, q0, q1, q2⟩ := id (bD.keep hBr)
      obtain ⟨va, vc, hv⟩ := hOr.form
      subst hv
      by_cases hlt : k < n2
      · have hkd : k < d.e.length := by rw [← HN2.out]; exact hlt
        obtain ⟨eb, eo, rfl, heb, hec⟩ := hED.at0 hkd
        obtain ⟨t0, t1, t2, t3⟩ := RdE.at (fun k hk j hj => (hBr.cell (p := ⟨eb, _, none⟩) heb).trans (hec k hk j hj)) k hkd
        have hok := HG.out.eok d.e[k] (List.getElem_mem hkd)
        have HT1 : Hid (d.e[k].g = false → ¬ (d.e[k].h = hh ∧ d.e[k].k = kk) → kvs (oth (d.e.take (k + 1)) hh kk) = kvs (oth (d.e.take k) hh kk) ++ [d.e[k].k, d.e[k].v]) := fun h1 h2 => by
          rw [List.take_succ_eq_append_getElem hkd, oth, List.filter_append, ← oth]
          have : List.filter (fun e : En => !e.g && !(e.h == hh && e.k == kk)) [d.e[k]] = [d.e[k]] := by
            rw [List.filter_cons_of_pos]
            · rfl
            · simp only [h1]; simp; exact Classical.or_iff_not_imp_left.mpr (fun h3 h4 => h2 ⟨Classical.not_not.mp h3, h4⟩)
          rw [this, kvs_snoc]
        have HT2 : Hid ((d.e[k].g = true ∨ (d.e[k].h = hh ∧ d.e[k].k = kk)) → kvs (oth (d.e.take (k + 1)) hh kk) = kvs (oth (d.e.take k) hh kk)) := fun h1 => by
          rw [List.take_succ_eq_append_getElem hkd, oth, List.filter_append, ← oth]
          have : List.filter (fun e : En => !e.g && !(e.h == hh && e.k == kk)) [d.e[k]] = [] := by
            rw [List.filter_cons_of_neg]
            · rfl
            · rcases h1 with h1 | ⟨h1, h2⟩
              · simp [h1]
              · simp [h1, h2]
          rw [this, List.append_nil]
        have hlk : (kvs (oth (d.e.take k) hh kk)).length ≤ 400 := by
          rw [kvs_len]
          have : (oth (d.e.take k) hh kk).length ≤ (d.e.take k).length := List.length_filter_le _ _
          rw [List.length_take] at this
          omega
        clear hec hED
        generalize kvs (oth (d.e.take k) hh kk) = KO at *
        generalize d.e[k] = E at *
        obtain ⟨Eh, Ek, Ev, Eg⟩ := E
        simp only at t0 t1 t2 t3 HT1 HT2
        obtain ⟨ok1, ok2, ok3⟩ := hok
        simp only at ok1 ok2 ok3
        have hz13 := hBr.size
        have bX : Below w13.heap.size w13 (wr.alloc (.cells #[.int .u64 Eh, .int .i64 Ek, .int .i64 Ev, .bool Eg] 63)) := hBr.alloc hz13 _
        by_cases hin : Eg = true ∨ (Eh = hh ∧ Ek = kk)
        · have HE : Hid (kvs (oth (d.e.take (k + 1)) hh kk) = KO) := HT2.out hin
          clear HT1 HT2
          have hin2 : Eg = true ∨ (Eg = false ∧ Eh = hh ∧ Ek = kk) := by
            cases Eg
            · rcases hin with h | h
              · cases h
              · exact .inr ⟨rfl, h⟩
            · exact .inl rfl
          clear hin
          rcases hin2 with rfl | ⟨rfl, rfl, rfl⟩
          · go_wp2
            go_roundw
            case rel => exact ⟨k + 1, by omega, by go_num, by rw [HE.out]; exact hOr.alloc _, bX⟩
            case measure => simp [RowKit.intOf]; omega
          · go_wp2
            go_roundw
            case rel => exact ⟨k + 1, by omega, by go_num, by rw [HE.out]; exact hOr.alloc _, bX⟩
            case measure => simp [RowKit.intOf]; omega
        · obtain rfl : Eg = false := by
            cases Eg
            · rfl
            · exact absurd (.inl rfl) hin
          have hnn : ¬ (Eh = hh ∧ Ek = kk) := fun h => hin (.inr h)
          have HE : Hid (kvs (oth (d.e.take (k + 1)) hh kk) = KO ++ [Ek, Ev]) := HT1.out rfl hnn
          clear HT1 HT2 hin
          by_cases hhe : Eh = hh
          · have hke : (Ek == kk) = false := by simp; exact fun h => hnn ⟨hhe, h⟩
            subst hhe
            clear hnn
            go_wp2_with (at_builtin; refine wpList_append_rd rfl _ _ 22 rfl Try.underlying22 w13.heap.size _ _ KO [Ek, Ev] rfl rfl ((hOr.alloc _).alloc _) (Rd.two _ _ (by simp) ok2.1 ok2.2 ok3.1 ok3.2) (by simp; omega) (by simp; omega) ?_; intro a' c' w14 hO14 hB14)
            go_roundw
            case rel => exact ⟨k + 1, by omega, by go_num, by rw [HE.out]; simpa using hO14, (bX.alloc bX.size _).trans (hB14.mono (Nat.le_refl _))⟩
            case measure => simp [RowKit.intOf]; omega
          · have hhe' : (Eh == hh) = false := by simpa using hhe
            clear hnn hhe
            go_wp2_with (at_builtin; refine wpList_append_rd rfl _ _ 22 rfl Try.underlying22 w13.heap.size _ _ KO [Ek, Ev] rfl rfl ((hOr.alloc _).alloc _) (Rd.two _ _ (by simp) ok2.1 ok2.2 ok3.1 ok3.2) (by simp; omega) (by simp; omega) ?_; intro a' c' w14 hO14 hB14)
            go_roundw
            case rel => exact ⟨k + 1, by omega, by go_num, by rw [HE.out]; simpa using hO14, (bX.alloc bX.size _).trans (hB14.mono (Nat.le_refl _))⟩
            case measure => simp [RowKit.intOf]; omega
      · obtain rfl : k = n2 := by omega
        have hOr1 : Own wr w13.heap.size (.slice va (kvs (oth (d.e.take k) hh kk)).length vc) (kvs (oth d.e hh kk)) := by
          have e : d.e.take k = d.e := List.take_of_length_le (by rw [← HN2.out]; exact Nat.le_refl _)
          rw [e] at hOr ⊢; exact hOr
        generalize (kvs (oth (d.e.take k) hh kk)).length = LN at *
        have V14 := V13.trans (hBr.mono V13.size)
        have bF14 := bF.keep hBr
        have hEF14 := hEF.keep hBr
        obtain ⟨-, r0, r1, r2⟩ := id bF14
        have hsmF : n6 ≤ 43690 := by
          rw [HN6.out]
          obtain ⟨⟨m, _, hm, hms⟩, he, _⟩ := HOF.out
          have h2 : (2 : Nat) ^ m ≤ 2 ^ 16 := Nat.pow_le_pow_right (by decide) hm
          omega
        have hOl0 := Own.empty' wr wr.heap.size rfl wr.heap.size (Nat.le_refl _)
        have bV : Below wr.heap.size wr (wr.alloc (.cells #[] 2)) := (Below.refl _ _).alloc (Nat.le_refl _) _
        generalize hwr : wr = w14 at *
        clear hwr
        go_wp2
        go_loopw [18, 19] (fun v i wr => ∃ k : Nat, k ≤ n6 ∧ i = .int .i64 k ∧ Own wr w14.heap.size v (kvs (liv (df.e.take k))) ∧ Below w14.heap.size w14 wr) (fun _ i _ => n6 - (RowKit.intOf i).toNat)
        case atStart => exact ⟨0, Nat.zero_le _, rfl, by simpa [kvs, liv] using hOl0, bV⟩
        case round =>
          obtain ⟨j, hj, rfl, hOl, hBl⟩ := hrel
          clear hOl0 bV q0 q1 q2 r0 r1 r2
          obtain ⟨-, r0, r1, r2⟩ := id (bF14.keep hBl)
          obtain ⟨la, lc, hv⟩ := hOl.form
          subst hv
          by_cases hlt : j < n6
          · have hkd : j < df.e.length := by rw [← HN6.out]; exact hlt
            obtain ⟨eb, eo, rfl, heb, hec⟩ := hEF14.at0 hkd
            obtain ⟨t0, t1, t2, t3⟩ := RdE.at (fun k hk j hj => (hBl.cell (p := ⟨eb, _, none⟩) heb).trans (hec k hk j hj)) j hkd
            have hok : shE.ok df.e[j] := by obtain ⟨_, _, _, _, hz, _⟩ := hEF14; exact hz _ (List.getElem_mem hkd)
            have HT1 : Hid (df.e[j].g = false → kvs (liv (df.e.take (j + 1))) = kvs (liv (df.e.take j)) ++ [df.e[j].k, df.e[j].v]) := fun h1 => by
              rw [List.take_succ_eq_append_getElem hkd, liv, List.filter_append, ← liv]
              have : List.filter (fun e : En => !e.g) [df.e[j]] = [df.e[j]] := by
                rw [List.filter_cons_of_pos]
                · rfl
                · simp [h1]
              rw [this, kvs_snoc]
            have HT2 : Hid (df.e[j].g = true → kvs (liv (df.e.take (j + 1))) = kvs (liv (df.e.take j))) := fun h1 => by
              rw [List.take_succ_eq_append_getElem hkd, liv, List.filter_append, ← liv]
              have : List.filter (fun e : En => !e.g) [df.e[j]] = [] := by
                rw [List.filter_cons_of_neg]
                · rfl
                · simp [h1]
              rw [this, List.append_nil]
            have hlk : (kvs (liv (df.e.take j))).length ≤ 87380 := by
              rw [kvs_len]
              have : (liv (df.e.take j)).length ≤ (df.e.take j).length := List.length_filter_le _ _
              rw [List.length_take] at this
              omega
            clear hec hEF hEF14
            generalize kvs (liv (df.e.take j)) = KO at *
            generalize df.e[j] = E at *
            obtain ⟨Eh, Ek, Ev, Eg⟩ := E
            simp only at t0 t1 t2 t3 HT1 HT2
            obtain ⟨ok1, ok2, ok3⟩ := hok
            simp only at ok1 ok2 ok3
            have hz14 := hBl.size
            cases Eg
            · have HE : Hid (kvs (liv (df.e.take (j + 1))) = KO ++ [Ek, Ev]) := HT1.out rfl
              clear HT1 HT2
              have hFlt := bF14.1
              have hneF : some F0 ≠ (Value.slice la KO.length lc).ownBlock := fun e => by have := (hOl.lt _ e.symm).1; omega
              have hneE : some eb ≠ (Value.slice la KO.length lc).ownBlock := fun e => by have := (hOl.lt _ e.symm).1; omega
              have ne1 := World.new_ne wr _ r1
              have ne2 := World.new_ne wr _ t1
              have ne3 := World.new_ne wr _ t2
              have hjn : (j : Int) < (n6 : Int) := by omega
              go_wp2_with fail
              go_region_held3 (fun W => W.cell? ⟨F0, 1, none⟩ = some (.slice (some ⟨eb, eo, none⟩) n6 c6) ∧ W.cell? ⟨eb, eo + j * 4 + 1, none⟩ = some (.int .i64 Ek) ∧ W.cell? ⟨eb, eo + j * 4 + 2, none⟩ = some (.int .i64 Ev)) (go_keep) (first | (refine step_append_rd rfl (.tmp 163) (.tmp 176) 22 rfl Try.underlying22 w14.heap.size _ _ KO [Ek, Ev] rfl rfl (by first | exact (hOl.alloc _).drew | exact (hOl.drew).alloc _) (by first | exact (Rd.two _ _ (by simp) ok2.1 ok2.2 ok3.1 ok3.2).drew | exact Rd.two _ _ (by simp) ok2.1 ok2.2 ok3.1 ok3.2) (by simp; omega) (by first | (simp; omega) | omega) ?_; intro a' c' w15 hO15 hg15; have y1 := hg15.cell (cell_al _ r1) hneF; have y2 := hg15.cell (cell_al _ t1) hneE; have y3 := hg15.cell (cell_al _ t2) hneE))
              have bL : Below w14.heap.size w14 w15 := by
                first
                  | exact ((hBl.alloc hz14 _).drew).grown hg15 (by simp; omega) (fun k hk => (hOl.lt k hk).1)
                  | exact ((hBl.drew).alloc hz14 _).grown hg15 (by simp; omega) (fun k hk => (hOl.lt k hk).1)
              clear y1 y2 y3
              go_wp2
              go_roundw
              case rel => exact ⟨j + 1, by omega, by go_num, by rw [HE.out]; simpa using hO15, bL⟩
              case measure => simp [RowKit.intOf]; omega
            · have HE : Hid (kvs (liv (df.e.take (j + 1))) = KO) := HT2.out rfl
              clear HT1 HT2
              go_wp2
              go_roundw
              case rel => exact ⟨j + 1, by omega, by go_num, by rw [HE.out]; exact hOl, hBl⟩
              case measure => simp [RowKit.intOf]; omega
          · obtain rfl : j = n6 := by omega
            have hOl1 : Own wr w14.heap.size (.slice la (kvs (liv (df.e.take j))).length lc) (kvs (oth d.e hh kk)) := by
              have e : df.e.take j = df.e := List.take_of_length_le (by rw [← HN6.out]; exact Nat.le_refl _)
              rw [e, HC2.out] at hOl ⊢; exact hOl
            generalize (kvs (liv (df.e.take j))).length = LM at *
            have R1 := hOr1.rd.keep hBl
            have R2 := hOl1.rd
            have V15 := V14.trans (hBl.mono V14.size)
            go_wp2_with fail
            refine (sameInts_any _ _ _ _ R1 R2).mono ?_
            rintro e w16 ⟨rfl, hB16⟩
            go_wp2
            go_ret
            exact ⟨rfl, V15.trans (hB16.mono V15.size)⟩
  · rw [okD_false hok]
    obtain ⟨rfl, rfl⟩ : d' = noD ∧ okp = false := by
      have := HPA.out
      unfold putA at this
      rw [if_neg hok] at this
      simp only [Prod.mk.injEq] at this
      exact ⟨this.1.symm, this.2.symm⟩
    obtain rfl : n3 = 0 := by
      obtain ⟨vs, ve, ev, ⟨aa, cc, e1, _⟩, _⟩ := RE6
      simp [dv] at ev
      obtain ⟨rfl, _⟩ := ev
      simp [noD] at e1
      exact e1.2.1
    have hN := Dr.new.ok
    go_wp2_with fail
    refine (newI_any w6).mono ?_
    rintro e w7 ⟨v7, rfl, hO7, hB7⟩
    obtain ⟨a5, n5, c5, a6, n6, c6, e0⟩ := hO7.rd.form
    subst e0
    simp only
    go_wp2_with fail
    refine (okI_any _ ⟨tabOf 8 [], [], 0⟩ _ hO7.rd ⟨by decide, by decide⟩).mono ?_
    rintro e w8 ⟨rfl, hB8⟩
    rw [okD_true hN]
    have V8 := (V6.trans (hB7.mono V6.size))
    go_wp2
    go_ret
    exact ⟨rfl, V8.trans (hB8.mono V8.size)⟩
end Go.Proofs.Ytjoddjejobdcoaa
