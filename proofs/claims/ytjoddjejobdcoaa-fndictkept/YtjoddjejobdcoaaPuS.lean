import Derived.Test.YtjoddjejobdcoaaPvI
import Derived.Test.YtjoddjejobdcoaaCuS
namespace Go.Proofs.Ytjoddjejobdcoaa
open Go.RowKit Go.Maps
set_option linter.unusedVariables false
set_option linter.unusedSimpArgs false

set_option maxRecDepth 100000 in
set_option maxHeartbeats 1000000 in
theorem l7Put_any (v : Value) (d : Dt) (h k x : Int) (w : World) (hr : RdD w v d) (hok : OkD d) (hh0 : 0 ≤ h) (hh1 : h < 18446744073709551616) (hkb : -9223372036854775808 ≤ k ∧ k < 9223372036854775808) (hxb : -9223372036854775808 ≤ x ∧ x < 9223372036854775808) :
    Calls Try.prog 53 #[v, .int .u64 h, .int .i64 k, .int .i64 x] w fun e w' => ∃ u, e = .returned (.tuple #[u, .bool (putD d h k x).2]) ∧ OwnD w' w.heap.size u (putD d h k x).1 ∧ Below w.heap.size w w' := by
  obtain ⟨m, hm3, hm, ht, hl, hs, hroom⟩ := hok.tab
  have hsz := sz_le hm
  have hv := fnd_val hok h k hh0 hh1
  have hlv : d.l = livN d.e := hok.2.2.2.1
  have hll : livN d.e ≤ 43690 := Nat.le_trans (List.countP_le_length) (by omega)
  obtain ⟨a1, n1, c1, a2, n2, c2, e0⟩ := hr.form
  subst e0
  have HC := fun W r => copy_any (.agg #[.slice a1 n1 c1, .slice a2 n2 c2, .int .i64 d.l]) d W r
  have HF := fun V W r => l7Find_tab V d h k m W r hm ht hl hh0 hh1
  generalize hZ : putD d h k x = Z
  simp only [putD] at hZ
  generalize hFn : fnd d h k = F at hv hZ HF
  obtain ⟨F0, F1⟩ := F
  simp only at hv hZ HF
  have bW := Below.three (w := w) (.slice a1 n1 c1) (.slice a2 n2 c2) (.int .i64 d.l) 25
  have bX := Box3.new w (.slice a1 n1 c1) (.slice a2 n2 c2) (.int .i64 d.l) 25
  have bW2 := bW.alloc bW.size (.cells #[.slice none 0 0, .slice none 0 0, .int .i64 0] 25)
  have bR0 := Box3.new (w.alloc (.cells #[.slice a1 n1 c1, .slice a2 n2 c2, .int .i64 d.l] 25)) (.slice none 0 0) (.slice none 0 0) (.int .i64 0) 25
  have fR0 : ∀ o, ((w.alloc (.cells #[.slice a1 n1 c1, .slice a2 n2 c2, .int .i64 d.l] 25)).alloc (.cells #[.slice none 0 0, .slice none 0 0, .int .i64 0] 25)).frozen? ⟨w.heap.size + 1, o, none⟩ = false := fun o => World.frozen?_alloc_at _ _ _ _ (by simp)
  have fX0 : ∀ o, ((w.alloc (.cells #[.slice a1 n1 c1, .slice a2 n2 c2, .int .i64 d.l] 25)).alloc (.cells #[.slice none 0 0, .slice none 0 0, .int .i64 0] 25)).frozen? ⟨w.heap.size, o, none⟩ = false := fun o => by
    rw [World.frozen?_alloc_past _ _ _ (by simp)]; exact World.frozen?_alloc_at _ _ _ _ rfl
  simp only [World.size_alloc] at bR0
  have bX0 := bX.alloc (.cells #[.slice none 0 0, .slice none 0 0, .int .i64 0] 25)
  have HLV : Hid (d.l = livN d.e) := hlv
  have HZ : Hid _ := hZ
  have HT : Hid (d.s = tabOf (2 ^ m) d.e) := ht
  have HS : Hid (d.s.length = 2 ^ m) := hs
  clear hlv ht hs hFn hZ
  obtain ⟨-, k0, k1, k2⟩ := id bX
  go_enter Try.func53, Try.ntmps53
  go_wp2_with fail
  refine (HC _ (hr.keep bW2)).mono ?_
  rintro e w1 ⟨u, rfl, hO1, hB1⟩
  simp only [World.size_alloc] at hO1
  obtain ⟨us, ue, e1, oS, oE, hne⟩ := id hO1
  obtain ⟨sa, sc, rfl⟩ := oS.form
  obtain ⟨ea, ec, rfl⟩ := oE.form
  subst e1
  unfold dv
  have bX1 := bX0.keep hB1
  have bR1 := bR0.keep hB1
  have hxz := bX0.1
  have hrz := bR0.1
  have fX1 : ∀ o, w1.frozen? ⟨w.heap.size, o, none⟩ = false := fun o => (hB1.frozen (p := ⟨w.heap.size, o, none⟩) hxz).trans (fX0 o)
  have fR1 : ∀ o, w1.frozen? ⟨w.heap.size + 1, o, none⟩ = false := fun o => (hB1.frozen (p := ⟨w.heap.size + 1, o, none⟩) hrz).trans (fR0 o)
  have V1 := bW2.trans (hB1.mono bW2.size)
  clear k0 k1 k2
  obtain ⟨-, k0, k1, k2⟩ := id bX1
  have f0 := fX1 0
  have f1 := fX1 1
  have f2 := fX1 2
  go_wp2_with fail
  have hlo : ∀ o, (⟨w.heap.size, o, none⟩ : Addr).block < w.heap.size + 1 + 1 := fun o => by show w.heap.size < _; omega
  have hO2 := ((hO1.setBelow (hlo 0) (.slice sa d.s.length sc)).setBelow (hlo 1) (.slice ea d.e.length ec)).setBelow (hlo 2) (.int .i64 d.l)
  have bX2 := ((bX1.p0 (.slice sa d.s.length sc)).p1 (.slice ea d.e.length ec)).p2 (.int .i64 d.l)
  have bR2 := ((bR1.far (c := w.heap.size) (o := 0) (by omega) (.slice sa d.s.length sc)).far (c := w.heap.size) (o := 1) (by omega) (.slice ea d.e.length ec)).far (c := w.heap.size) (o := 2) (by omega) (.int .i64 d.l)
  have hz1 := V1.size
  have V2 := below_set (o := 2) (below_set (o := 1) (below_set (o := 0) V1 hz1 (Nat.le_refl _) (.slice sa d.s.length sc)) (by simpa [World.setCell] using hz1) (Nat.le_refl _) (.slice ea d.e.length ec)) (by simpa [World.setCell] using hz1) (Nat.le_refl _) (.int .i64 d.l)
  have fX2 : ∀ o, (((w1.setCell ⟨w.heap.size, 0, none⟩ (.slice sa d.s.length sc)).setCell ⟨w.heap.size, 1, none⟩ (.slice ea d.e.length ec)).setCell ⟨w.heap.size, 2, none⟩ (.int .i64 d.l)).frozen? ⟨w.heap.size, o, none⟩ = false := fun o => by
    rw [World.frozen?_setCell, World.frozen?_setCell, World.frozen?_setCell]; exact fX1 o
  have fR2 : ∀ o, (((w1.setCell ⟨w.heap.size, 0, none⟩ (.slice sa d.s.length sc)).setCell ⟨w.heap.size, 1, none⟩ (.slice ea d.e.length ec)).setCell ⟨w.heap.size, 2, none⟩ (.int .i64 d.l)).frozen? ⟨w.heap.size + 1, o, none⟩ = false := fun o => by
    rw [World.frozen?_setCell, World.frozen?_setCell, World.frozen?_setCell]; exact fR1 o
  clear k0 k1 k2 f0 f1 f2
  generalize ((w1.setCell ⟨w.heap.size, 0, none⟩ (.slice sa d.s.length sc)).setCell ⟨w.heap.size, 1, none⟩ (.slice ea d.e.length ec)).setCell ⟨w.heap.size, 2, none⟩ (.int .i64 d.l) = W2 at *
  clear hO1 oS oE bX1 bR1 V1 hB1 fX1 fR1 bX0 bR0 fX0 fR0 hz1
  obtain ⟨us, ue, e1, oS, oE, -⟩ := id hO2
  simp only [dv, Value.agg.injEq, List.toArray_eq_iff, Array.mk.injEq, List.cons.injEq, and_true] at e1
  obtain ⟨rfl, rfl⟩ := e1
  refine (HF _ _ hO2.rd).mono ?_
  rintro e w3 ⟨rfl, hB3⟩
  have hO3 := hO2.keep hB3
  have oS3 := oS.keep hB3
  have oE3 := oE.keep hB3
  have bX3 := bX2.keep hB3
  have bR3 := bR2.keep hB3
  have fX3 : ∀ o, w3.frozen? ⟨w.heap.size, o, none⟩ = false := fun o => (hB3.frozen (p := ⟨w.heap.size, o, none⟩) bX2.1).trans (fX2 o)
  have fR3 : ∀ o, w3.frozen? ⟨w.heap.size + 1, o, none⟩ = false := fun o => (hB3.frozen (p := ⟨w.heap.size + 1, o, none⟩) bR2.1).trans (fR2 o)
  have V3 := V2.trans (hB3.mono V2.size)
  clear hO2 oS oE bX2 bR2 fX2 fR2 V2 hB3 W2 HF HC
  obtain ⟨-, k0, k1, k2⟩ := id bX3
  obtain ⟨-, r0, r1, r2⟩ := id bR3
  have f0 := fR3 0
  have f1 := fR3 1
  have f2 := fR3 2
  have g2 := fX3 2
  have hz3 := V3.size
  rcases hv with rfl | ⟨hF0, hlt, hg, hhh, hkk⟩
  · have hZ := HZ.out
    rw [if_neg (by omega)] at hZ
    clear HZ
    have hZH : Hid _ := hZ
    clear hZ
    have hl16 : d.s.length ≤ 16777216 := oS3.2.1
    have he16 : d.e.length ≤ 16777216 := oE3.2.1
    go_upto_if 43 with fail
    go_cut [12, 13] from 14 (fun n lst wc => ∃ (M : Nat) (es : List En) (a : Option Addr) (c : Nat), n = .int .i64 (2 ^ M : Nat) ∧ lst = .slice a es.length c ∧ M ≤ 16 ∧ es.length + 1 < 2 ^ M ∧ OwnE 63 wc (w.heap.size + 1 + 1) (.slice a es.length c) es ∧ Box3 wc w.heap.size (.slice sa d.s.length sc) (.slice ea d.e.length ec) (.int .i64 d.l) ∧ Box3 wc (w.heap.size + 1) (.slice none 0 0) (.slice none 0 0) (.int .i64 0) ∧ (∀ o, wc.frozen? ⟨w.heap.size + 1, o, none⟩ = false) ∧ Below w.heap.size w wc ∧ Z = (⟨tabOf (2 ^ M) (es ++ [⟨h, k, x, false⟩]), es ++ [⟨h, k, x, false⟩], d.l + 1⟩, true))
    case first =>
      by_cases hr : d.e.length < d.s.length * 2 / 3
      · have hr' : decide ((d.s.length : Int) * 2 / 3 ≤ (d.e.length : Int)) = false := by simp; omega
        have hZ := hZH.out
        rw [if_pos hr] at hZ
        go_wp2_with fail
        go_meet
        case rel =>
          have h8 : 2 ^ 3 ≤ 2 ^ m := Nat.pow_le_pow_right (by decide) hm3
          have hs := HS.out
          exact ⟨m, d.e, ea, ec, by rw [hs], rfl, hm, by omega, oE3, bX3, bR3, fR3, V3, by rw [← hZ, addD, hs]⟩
      · have hr' : decide ((d.s.length : Int) * 2 / 3 ≤ (d.e.length : Int)) = true := by simp; omega
        have hZ := hZH.out
        rw [if_neg hr] at hZ
        have hZ3 : Hid _ := hZ
        clear hZ
        obtain ⟨M, hM17, hNM⟩ := NM.ex (livN d.e) hll
        have hrn : rnD d = if 16 < M then (d, false) else (⟨tabOf (2 ^ M) (liv d.e), liv d.e, d.l⟩, true) := by unfold rnD; rw [nsm_eq hNM]
        have hllen := liv_len d.e
        have hRN : Hid _ := hrn
        clear hrn
        have k2l := k2
        rw [HLV.out] at k2l
        generalize hLn : livN d.e = l at *
        have hLH : Hid (livN d.e = l) := hLn
        clear hLn k2
        go_wp2_with fail
        go_loopw [12] (fun s wr => ∃ j : Nat, 3 ≤ j ∧ j ≤ M ∧ s = .int .i64 (2 ^ j : Nat) ∧ wr = w3) (fun s _ => 131073 - (intOf s).toNat)
        case atStart => exact ⟨3, by omega, hNM.1, rfl, rfl⟩
        case round =>
          obtain ⟨j, h3, hjM, rfl, hw⟩ := hrel
          have hw' := hw.symm
          subst hw'
          have hj17 : 2 ^ j ≤ 131072 := by have := Nat.pow_le_pow_right (n := 2) (by decide) (Nat.le_trans hjM hM17); simpa using this
          rcases Nat.lt_or_ge j M with hlt | hge
          · have hle := hNM.2.2 j h3 hlt
            have hs := Nat.pow_succ 2 j
            have hp2 := Nat.two_pow_pos j
            generalize hK : 2 ^ j = K at *
            have hKl : (K : Int) ≤ 3 * (l : Int) := by omega
            go_wp2_with fail
            go_roundw
            case rel => exact ⟨j + 1, by omega, by omega, by rw [hs]; go_num, by trivial⟩
            case measure => simp [intOf]; omega
          · obtain rfl : j = M := by omega
            have hgt := hNM.2.1
            by_cases h16 : 16 < j
            · obtain rfl : j = 17 := by omega
              have hrn := hRN.out
              rw [if_pos (by decide)] at hrn
              have hZ := hZ3.out
              rw [hrn, if_neg (by simp)] at hZ
              subst hZ
              have hdl : d.l = (l : Int) := HLV.out
              have hgt' : ¬ ((131072 : Int) ≤ 3 * (l : Int)) := by omega
              have q0 := bR3.p0 (.slice sa d.s.length sc)
              have q1 := q0.p1 (.slice ea d.e.length ec)
              have q2 := q1.p2 (.int .i64 (l : Int))
              clear hRN hZ3 hZH HLV hLH
              go_wp2_with fail
              refine bodyPost_ret (v := .tuple #[.agg #[.slice sa d.s.length sc, .slice ea d.e.length ec, .int .i64 (l : Int)], .bool false]) (by simp [results, Try.results53, go_sem, q0.2.1, q1.2.2.1, q2.2.2.2]) rfl ⟨_, rfl, ?_, ?_⟩
              · have hl1 : ∀ o, (⟨w.heap.size + 1, o, none⟩ : Addr).block < w.heap.size + 1 + 1 := fun o => by show w.heap.size + 1 < _; omega
                rw [← hdl]
                exact (((hO3.setBelow (hl1 0) _).setBelow (hl1 1) _).setBelow (hl1 2) _).mono (by omega)
              · exact below_set (below_set (below_set V3 hz3 (by omega) _) (by simpa [World.setCell] using hz3) (by omega) _) (by simpa [World.setCell] using hz3) (by omega) _
            · have hle := sz_le (show j ≤ 16 by omega)
              have h8 : 2 ^ 3 ≤ 2 ^ j := Nat.pow_le_pow_right (by decide) h3
              have hrn := hRN.out
              rw [if_neg h16] at hrn
              have hZ := hZ3.out
              rw [hrn, if_pos (by simp)] at hZ
              have hZ4 : Hid _ := hZ
              clear hRN hZ3 hZH hrn hZ hNM
              have hK0 : Hid (2 ^ j = 2 ^ j) := rfl
              generalize hK : 2 ^ j = K at *
              have hKH : Hid (2 ^ j = K) := hK
              have hgt' : ¬ ((K : Int) ≤ 3 * (l : Int)) := by omega
              have hle' : ¬ ((65536 : Int) < (K : Int)) := by omega
              clear hK hK0
              obtain ⟨a9, c9, e9, hl9, hz9, hn9, hc9⟩ := oE3.rd
              simp only [Value.slice.injEq, true_and] at e9
              obtain ⟨rfl, rfl⟩ := e9
              have hE0 := OwnG.empty shE 63 w3 w3.heap.size rfl w3.heap.size (Nat.le_refl _)
              have hB0 : Below w3.heap.size w3 (w3.alloc (.cells #[] 63)) := (Below.refl _ _).alloc (Nat.le_refl _) _
              go_wp2_with fail
              go_loopw [13, 14] (fun lst i wr => ∃ (q : Nat) (a : Option Addr) (c : Nat), q ≤ d.e.length ∧ i = .int .i64 q ∧ lst = .slice a (liv (d.e.take q)).length c ∧ OwnE 63 wr w3.heap.size (.slice a (liv (d.e.take q)).length c) (liv (d.e.take q)) ∧ Below w3.heap.size w3 wr) (fun _ i _ => d.e.length - (intOf i).toNat)
              case atStart => exact ⟨0, _, _, Nat.zero_le _, rfl, rfl, by simpa [liv] using hE0, hB0⟩
              case round =>
                obtain ⟨q, a, c, hq, rfl, rfl, oQ, hBq⟩ := hrel
                clear k0 k1 k2l r0 r1 r2 f0 f1 f2 g2 hE0 hB0
                obtain ⟨-, k0, k1, k2⟩ := id (bX3.keep hBq)
                by_cases hql : q < d.e.length
                · obtain ⟨b9, off9, rfl, hb9, hcell9⟩ := hc9 (by omega)
                  obtain ⟨d0, d1, d2, d3⟩ := RdE.at (fun k hk j hj => (hBq.cell (p := ⟨b9, _, none⟩) hb9).trans (hcell9 k hk j hj)) q hql
                  have hEok := hz9 d.e[q] (List.getElem_mem hql)
                  have hlv2 : liv (d.e.take (q + 1)) = liv (d.e.take q) ++ (if d.e[q].g then [] else [d.e[q]]) := by
                    rw [List.take_succ_eq_append_getElem hql, liv, liv, List.filter_append]
                    cases h : d.e[q].g <;> simp [h]
                  have hlq : (liv (d.e.take q)).length ≤ 16777216 - 1 := by
                    have h1 : (liv (d.e.take q)).length ≤ (d.e.take q).length := List.length_filter_le _ _
                    have h2 : (d.e.take q).length ≤ q := by simp; omega
                    omega
                  generalize d.e[q] = E at *
                  obtain ⟨Eh, Ek, Ev, Eg⟩ := E
                  simp only at d0 d1 d2 d3 hlv2
                  have hlvH : Hid _ := hlv2
                  clear hlv2 hcell9 hc9
                  generalize hXS : liv (d.e.take q) = XS at *
                  have hXH : Hid (liv (d.e.take q) = XS) := hXS
                  clear hXS
                  have hloQ := oQ.lt
                  cases Eg
                  · go_wp2_with (at_builtin; refine wpList_append_one (S := shE) Try.info63 rfl (by omega) rfl _ _ 23 rfl Try.underlying23 w3.heap.size _ XS ⟨Eh, Ek, Ev, false⟩ hEok wr.heap.size 1 rfl rfl (oQ.alloc _) (en_new _ ⟨Eh, Ek, Ev, false⟩ _ _ rfl) (by omega) (by have := hBq.size; simp; omega) ?_; intro a' c' w' hO' hg'; have hga := gb_trans (World.grownBy_alloc wr (.cells #[.int .u64 Eh, .int .i64 Ek, .int .i64 Ev, .bool false] 63) (Value.slice a XS.length c).ownBlock) hg')
                    go_roundw
                    case rel =>
                      have e1 : liv (d.e.take (q + 1)) = XS ++ [⟨Eh, Ek, Ev, false⟩] := by rw [hlvH.out]; simp
                      refine ⟨q + 1, a', c', by omega, by go_num, by rw [e1]; simp, by rw [e1]; exact hO', hBq.grown hga hBq.size (fun k hk => by have := hloQ k hk; omega)⟩
                    case measure => simp [intOf]; omega
                  · go_wp2_with fail
                    go_roundw
                    case rel =>
                      have e1 : liv (d.e.take (q + 1)) = XS := by rw [hlvH.out]; simp
                      exact ⟨q + 1, a, c, by omega, by go_num, by rw [e1], by rw [e1]; exact oQ, hBq⟩
                    case measure => simp [intOf]; omega
                · obtain rfl : q = d.e.length := by omega
                  rw [List.take_length] at oQ
                  go_wp2_with fail
                  go_meet
                  case rel =>
                    have hK1 := hKH.out
                    have hzq : w.heap.size + 1 + 1 ≤ w3.heap.size := by have := bR3.1; omega
                    refine ⟨j, liv d.e, a, c, by rw [hK1], by rw [List.take_length], by omega, by omega, oQ.mono hzq, bX3.keep hBq, bR3.keep hBq, fun o => (hBq.frozen (p := ⟨w.heap.size + 1, o, none⟩) bR3.1).trans (fR3 o), V3.trans (hBq.mono V3.size), ?_⟩
                    rw [← hZ4.out, addD]
                    have ht : (tabOf (2 ^ j) (liv d.e)).length = 2 ^ j := tabK_length _ _ _
                    simp only [hK1] at ht ⊢
                    rw [ht]
    case rest =>
      obtain ⟨M, es, a, c, rfl, rfl, hM16, hesl, oL, bXc, bRc, fRc, Vc, rfl⟩ := hcut
      have hokN : shE.ok ⟨h, k, x, false⟩ := ⟨⟨hh0, hh1⟩, hkb, hxb⟩
      have hNle := sz_le hM16
      have HTab := fun V W r l => l7Table_any V (es ++ [⟨h, k, x, false⟩]) M W r hM16 l
      have hdl : -1 ≤ d.l ∧ d.l ≤ 43690 := by have := HLV.out; omega
      clear hZH HLV HT HS hok hO3 oS3 oE3 bX3 bR3 fX3 fR3 V3 k0 k1 k2 r0 r1 r2 f0 f1 f2 g2 hz3 bX bW bW2 hxz hrz hlo hr
      generalize hN : 2 ^ M = N at *
      have hNH : Hid (2 ^ M = N) := hN
      clear hN
      have hloL := oL.lt
      have hX0 := bXc.1
      have hR0 := bRc.1
      have hnX : some w.heap.size ≠ (Value.slice a es.length c).ownBlock := fun e => by have := hloL _ e.symm; omega
      have hnR : some (w.heap.size + 1) ≠ (Value.slice a es.length c).ownBlock := fun e => by have := hloL _ e.symm; omega
      generalize hL : d.l = L at *
      have HLd : Hid (d.l = L) := hL
      clear hL
      go_wp2_with (at_builtin; refine wpList_append_one (S := shE) Try.info63 rfl (by omega) rfl _ _ 23 rfl Try.underlying23 (w.heap.size + 1 + 1) _ es ⟨h, k, x, false⟩ hokN wc.heap.size 1 rfl rfl (oL.alloc _) (en_new _ ⟨h, k, x, false⟩ _ _ rfl) (by omega) (by simp; omega) ?_; intro a' c' w' hO' hg'; have hga := gb_trans (World.grownBy_alloc wc (.cells #[.int .u64 h, .int .i64 k, .int .i64 x, .bool false] 63) (Value.slice a es.length c).ownBlock) hg'; have bX7 := bXc.but hga hnX; have bR7 := bRc.but hga hnR; have f7 : ∀ o, w'.frozen? ⟨w.heap.size + 1, o, none⟩ = false := (fun o => (World.frozen?_of_block (hga.block (w.heap.size + 1) hR0 hnR)).trans (fRc o)); have V7 : Below w.heap.size w w' := Vc.grown hga Vc.size (fun k hk => by have := hloL k hk; omega); obtain ⟨-, y0, y1, y2⟩ := id bX7)
      rw [show (es ++ [(⟨h, k, x, false⟩ : En)]).length = es.length + 1 by simp] at hO'
      have hwL : IntKind.i64.wrap (L + 1) = L + 1 := by first | (rw [IntKind.wrap_i64]; omega) | exact IntWalk.i64_in _ (by omega)
      have hX7 := bX7.1
      have hR7 := bR7.1
      go_region_held3 (fun W => W.cell? ⟨w.heap.size, 2, none⟩ = some (.int .i64 L)) (go_keep) (first | (go_at_call 39; refine (HTab _ _ hO'.rd.drew (by simp; omega)).mono ?_; rintro e w8 ⟨aT, cT, rfl, oT, hB8⟩; have bR8 := bR7.drew.keep hB8; have y3 := keepc hB8 y2; have f8 : ∀ o, w8.frozen? ⟨w.heap.size + 1, o, none⟩ = false := (fun o => (hB8.frozen (p := ⟨w.heap.size + 1, o, none⟩) hR7).trans (f7 o)); obtain ⟨-, r0, r1, r2⟩ := id bR8; have f0 := f8 0; have f1 := f8 1; have f2 := f8 2))
      have oE8 := hO'.drew.keep hB8
      have V8 := V7.drew.trans (hB8.mono V7.size)
      have hz8 := V8.size
      have oT8 := oT.mono (B' := w.heap.size + 1 + 1) (by show _ ≤ w'.heap.size; omega)
      have q0 := bR8.p0 (.slice aT N cT)
      have q1 := q0.p1 (.slice a' (es.length + 1) c')
      have q2 := q1.p2 (.int .i64 (L + 1))
      clear hwL
      go_wp2_with fail
      have hwL : IntKind.i64.wrap (L + 1) = L + 1 := by first | (rw [IntKind.wrap_i64]; omega) | exact IntWalk.i64_in _ (by omega)
      try rw [hwL]
      refine bodyPost_ret (v := .tuple #[.agg #[.slice aT N cT, .slice a' (es.length + 1) c', .int .i64 (L + 1)], .bool true]) (by simp [results, Try.results53, go_sem, q0.2.1, q1.2.2.1, q2.2.2.2]) rfl ⟨_, rfl, ?_, ?_⟩
      · have hl1 : ∀ o, (⟨w.heap.size + 1, o, none⟩ : Addr).block < w.heap.size + 1 + 1 := fun o => by show w.heap.size + 1 < _; omega
        have hO8 : OwnD w8 (w.heap.size + 1 + 1) (.agg #[.slice aT N cT, .slice a' (es.length + 1) c', .int .i64 (L + 1)]) ⟨tabOf N (es ++ [⟨h, k, x, false⟩]), es ++ [⟨h, k, x, false⟩], L + 1⟩ := ⟨_, _, rfl, oT8, oE8, apart oT8 oE8 (by decide)⟩
        rw [hNH.out, HLd.out]
        exact (((hO8.setBelow (hl1 0) _).setBelow (hl1 1) _).setBelow (hl1 2) _).mono (by omega)
      · exact below_set (below_set (below_set V8 hz8 (by omega) _) (by simpa [World.setCell] using hz8) (by omega) _) (by simpa [World.setCell] using hz8) (by omega) _
  · have hZ := HZ.out
    rw [if_pos hF0] at hZ
    subst hZ
    clear HZ
    obtain ⟨P, rfl⟩ : ∃ P : Nat, F0 = (P : Int) := ⟨F0.toNat, by omega⟩
    simp only [Int.toNat_natCast] at hlt hg hhh hkk ⊢
    rcases oE3.shape with ⟨-, he⟩ | ⟨gb, cap, he, hgb, hgs, hcap⟩
    · rw [he] at hlt; simp at hlt
    simp only [Value.slice.injEq, true_and] at he
    obtain ⟨rfl, rfl⟩ := he
    obtain ⟨c0, c1', c2', c3⟩ := RdE.at (off := 0) (fun k hk j hj => by rw [Nat.zero_add]; exact oE3.cell k hk j hj) P hlt
    simp only [Nat.zero_add] at c0 c1' c2' c3
    have z2 := oE3.frozen (P * 4 + 2)
    have hE : d.e[P] = ⟨h, k, d.e[P].v, false⟩ := by rw [← hg, ← hhh, ← hkk]
    have oE4 : OwnE 63 (w3.setCell ⟨gb, P * 4 + 2, none⟩ (.int .i64 x)) (w.heap.size + 1 + 1) (.slice (some ⟨gb, 0, none⟩) d.e.length ec) (d.e.set P ⟨h, k, x, false⟩) := oE3.put P hlt 2 (by decide) (.int .i64 x) ⟨h, k, x, false⟩ ⟨⟨hh0, hh1⟩, hkb, hxb⟩ (by rw [hE]; rfl)
    have oS4 := oS3.but (gb_set w3 gb (P * 4 + 2) (.int .i64 x)) hne
    have hgg : w.heap.size ≠ gb := by omega
    have hgg1 : w.heap.size + 1 ≠ gb := by omega
    clear hg hhh hkk hll HLV hok hE
    generalize hL : d.l = L at *
    have bX4 := bX3.far (c := gb) (o := P * 4 + 2) (by omega) (.int .i64 x)
    have bR4 := bR3.far (c := gb) (o := P * 4 + 2) (by omega) (.int .i64 x)
    have fX4 : ∀ o, (w3.setCell ⟨gb, P * 4 + 2, none⟩ (.int .i64 x)).frozen? ⟨w.heap.size, o, none⟩ = false := fun o => (World.frozen?_setCell _ _ _ _).trans (fX3 o)
    have fR4 : ∀ o, (w3.setCell ⟨gb, P * 4 + 2, none⟩ (.int .i64 x)).frozen? ⟨w.heap.size + 1, o, none⟩ = false := fun o => (World.frozen?_setCell _ _ _ _).trans (fR3 o)
    have V4 := below_set (o := P * 4 + 2) V3 hz3 (show w.heap.size ≤ gb by omega) (.int .i64 x)
    go_upto_region 5 with fail
    clear k0 k1 k2 r0 r1 r2 f0 f1 f2 g2 c0 c1' c2' c3 z2 oE3 oS3 bX3 bR3 hO3 V3 fX3 fR3
    generalize (w3.setCell ⟨gb, P * 4 + 2, none⟩ (.int .i64 x)) = W4 at *
    have hz4 := V4.size
    obtain ⟨-, k0, k1, k2⟩ := id bX4
    obtain ⟨-, r0, r1, r2⟩ := id bR4
    have f0 := fR4 0
    have f1 := fR4 1
    have f2 := fR4 2
    have q0 := bR4.p0 (.slice sa d.s.length sc)
    have q1 := q0.p1 (.slice (some ⟨gb, 0, none⟩) d.e.length ec)
    have q2 := q1.p2 (.int .i64 L)
    go_wp2_with fail
    refine bodyPost_ret (v := .tuple #[.agg #[.slice sa d.s.length sc, .slice (some ⟨gb, 0, none⟩) d.e.length ec, .int .i64 L], .bool true]) (by simp [results, Try.results53, go_sem, q0.2.1, q1.2.2.1, q2.2.2.2]) rfl ⟨_, rfl, ?_, ?_⟩
    · have hl1 : ∀ o, (⟨w.heap.size + 1, o, none⟩ : Addr).block < w.heap.size + 1 + 1 := fun o => by show w.heap.size + 1 < _; omega
      have hO4 : OwnD W4 (w.heap.size + 1 + 1) (.agg #[.slice sa d.s.length sc, .slice (some ⟨gb, 0, none⟩) d.e.length ec, .int .i64 L]) ⟨d.s, d.e.set P ⟨h, k, x, false⟩, L⟩ := ⟨_, _, rfl, oS4, oE4, hne⟩
      exact (((hO4.setBelow (hl1 0) _).setBelow (hl1 1) _).setBelow (hl1 2) _).mono (by omega)
    · exact below_set (below_set (below_set V4 hz4 (by omega) _) (by simpa [World.setCell] using hz4) (by omega) _) (by simpa [World.setCell] using hz4) (by omega) _
set_option maxRecDepth 100000 in
theorem putS_any (v : Value) (d : Dt) (h k x : Int) (w : World) (hr : RdD w v d) (hb : -9223372036854775808 ≤ d.l ∧ d.l < 9223372036854775808) (hkb : -9223372036854775808 ≤ k ∧ k ≤ 9223372036854775807) (hh0 : 0 ≤ h) (hh1 : h < 18446744073709551616) (hx0 : -9223372036854775808 ≤ x) (hx1 : x < 9223372036854775808) :
    Calls Try.prog 22 #[v, .int .u64 h, .int .i64 k, .int .i64 x] w fun e w' => ∃ u, e = .returned (.tuple #[u, .bool (putA d h k x).2]) ∧ OwnD w' w.heap.size u (putA d h k x).1 ∧ Below w.heap.size w w' := by
  obtain ⟨a1, n1, c1, a2, n2, c2, e0⟩ := hr.form
  subst e0
  have bW := Below.three (w := w) (.slice a1 n1 c1) (.slice a2 n2 c2) (.int .i64 d.l) 25
  have bX := Box3.new w (.slice a1 n1 c1) (.slice a2 n2 c2) (.int .i64 d.l) 25
  have HO := fun W r => okS_any (.agg #[.slice a1 n1 c1, .slice a2 n2 c2, .int .i64 d.l]) d W r hb
  have bW2 := bW.alloc bW.size (.cells #[.slice none 0 0, .slice none 0 0, .int .i64 0] 25)
  have bX0 := bX.alloc (.cells #[.slice none 0 0, .slice none 0 0, .int .i64 0] 25)
  have bR0 := Box3.new (w.alloc (.cells #[.slice a1 n1 c1, .slice a2 n2 c2, .int .i64 d.l] 25)) (.slice none 0 0) (.slice none 0 0) (.int .i64 0) 25
  have fR0 : ∀ o, ((w.alloc (.cells #[.slice a1 n1 c1, .slice a2 n2 c2, .int .i64 d.l] 25)).alloc (.cells #[.slice none 0 0, .slice none 0 0, .int .i64 0] 25)).frozen? ⟨w.heap.size + 1, o, none⟩ = false := fun o => World.frozen?_alloc_at _ _ _ _ (by simp)
  simp only [World.size_alloc] at bR0
  obtain ⟨-, k0, k1, k2⟩ := id bX
  by_cases hok : OkD d
  · simp only [putA, if_pos hok]
    simp only [okD_true hok] at HO
    have HC := fun W r => l7Put_any (.agg #[.slice a1 n1 c1, .slice a2 n2 c2, .int .i64 d.l]) d h k x W r hok hh0 hh1 ⟨hkb.1, by omega⟩ ⟨hx0, hx1⟩
    generalize putD d h k x = Z at HC ⊢
    obtain ⟨Zd, Zb⟩ := Z
    simp only at HC ⊢
    clear hok
    go_enter Try.func22, Try.ntmps22
    go_wp2_with fail
    refine (HO _ (hr.keep bW2)).mono ?_
    rintro e w1 ⟨rfl, hB1⟩
    have V1 := bW2.trans (hB1.mono bW2.size)
    have bR1 := bR0.keep hB1
    have bX1 := bX0.keep hB1
    have fR1 : ∀ o, w1.frozen? ⟨w.heap.size + 1, o, none⟩ = false := fun o => (hB1.frozen (p := ⟨w.heap.size + 1, o, none⟩) bR0.1).trans (fR0 o)
    clear k0 k1 k2
    obtain ⟨-, k0, k1, k2⟩ := id bX1
    go_wp2_with fail
    refine (HC _ (hr.keep V1)).mono ?_
    rintro e w3 ⟨u, rfl, hO3, hB3⟩
    obtain ⟨b1, m1, p1, b2, m2, p2, e1⟩ := hO3.rd.form
    subst e1
    have V3 := V1.trans (hB3.mono V1.size)
    have bR3 := bR1.keep hB3
    have fR3 : ∀ o, w3.frozen? ⟨w.heap.size + 1, o, none⟩ = false := fun o => (hB3.frozen (p := ⟨w.heap.size + 1, o, none⟩) bR1.1).trans (fR1 o)
    have hr1 := bR1.1
    clear k0 k1 k2
    obtain ⟨-, r0, r1, r2⟩ := id bR3
    have f0 := fR3 0
    have f1 := fR3 1
    have f2 := fR3 2
    have q0 := bR3.p0 (.slice b1 m1 p1)
    have q1 := q0.p1 (.slice b2 m2 p2)
    have q2 := q1.p2 (.int .i64 Zd.l)
    go_wp2_with fail
    have hz := V3.size
    refine bodyPost_ret (v := .tuple #[.agg #[.slice b1 m1 p1, .slice b2 m2 p2, .int .i64 Zd.l], .bool Zb]) (by simp [results, Try.results22, go_sem, q0.2.1, q1.2.2.1, q2.2.2.2]) rfl ⟨_, rfl, ?_, ?_⟩
    · exact (((hO3.setBelow hr1 _).setBelow hr1 _).setBelow hr1 _).mono V1.size
    · exact below_set (below_set (below_set V3 hz (by omega) _) (by simpa [World.setCell] using hz) (by omega) _) (by simpa [World.setCell] using hz) (by omega) _
  · simp only [putA, if_neg hok]
    simp only [okD_false hok] at HO
    go_enter Try.func22, Try.ntmps22
    go_wp2_with fail
    refine (HO _ (hr.keep bW2)).mono ?_
    rintro e w1 ⟨rfl, hB1⟩
    have V1 := bW2.trans (hB1.mono bW2.size)
    have bR3 := bR0.keep hB1
    have fR3 : ∀ o, w1.frozen? ⟨w.heap.size + 1, o, none⟩ = false := fun o => (hB1.frozen (p := ⟨w.heap.size + 1, o, none⟩) bR0.1).trans (fR0 o)
    obtain ⟨-, r0, r1, r2⟩ := id bR3
    have f0 := fR3 0
    have f1 := fR3 1
    have f2 := fR3 2
    have q0 := bR3.p0 (.slice none 0 0)
    have q1 := q0.p1 (.slice none 0 0)
    have q2 := q1.p2 (.int .i64 0)
    go_wp2
    have hz := V1.size
    refine bodyPost_ret (v := .tuple #[.agg #[.slice none 0 0, .slice none 0 0, .int .i64 0], .bool false]) (by simp [results, Try.results22, go_sem, q0.2.1, q1.2.2.1, q2.2.2.2]) rfl ⟨_, rfl, OwnD.nil _ _, ?_⟩
    exact below_set (below_set (below_set V1 hz (by omega) _) (by simpa [World.setCell] using hz) (by omega) _) (by simpa [World.setCell] using hz) (by omega) _
end Go.Proofs.Ytjoddjejobdcoaa
