import Derived.Test.YtfcoffllelgakaaDoorRdT
import Derived.Deep.Cut
import Derived.Deep.CutRange
namespace Go.Proofs.YtfcoffllelgakaaDoor
open Go.RowKit
set_option linter.unusedVariables false
set_option linter.unusedSimpArgs false

theorem norm_lim (n : Nat) : Norm (lim n) := lim_norm n
theorem len_bl {n k : Nat} (h : (lim n).length ≤ k) : bl n ≤ 32 * k := by
  have h1 := val_lt (lim_limbs n)
  rw [val_lim, R_pow] at h1
  have h2 : 2 ^ (32 * (lim n).length) ≤ 2 ^ (32 * k) := Nat.pow_le_pow_right (by decide) (by omega)
  have := bl_le (n := n) (k := 32 * k) (by omega)
  omega
theorem len_shl {n k m : Nat} (h : (lim n).length ≤ k) (hm : m ≤ 200032) : (lim (n * 2 ^ m)).length ≤ k + 6251 := by
  have h1 := val_lt (lim_limbs n)
  rw [val_lim, R_pow] at h1
  refine lim_length_le ?_
  rw [R_pow]
  have h2 : n * 2 ^ m < 2 ^ (32 * (lim n).length) * 2 ^ m := Nat.mul_lt_mul_of_pos_right h1 (Nat.pow_pos (by decide))
  rw [← Nat.pow_add] at h2
  exact Nat.lt_of_lt_of_le h2 (Nat.pow_le_pow_right (by decide) (by omega))
set_option maxRecDepth 100000 in
set_option maxHeartbeats 1500000 in
theorem round_any (neg : Bool) (v u : Value) (N D : Nat) (w : World) (hx : Rd w v (lim N)) (hy : Rd w u (lim D)) (hlx : (lim N).length ≤ 2000) (hly : (lim D).length ≤ 2000) (hD : 0 < D) :
    Calls Tryd.prog 24 #[.bool neg, v, u] w fun e w' => e = .returned (.int .u64 (rndV neg N D)) ∧ Below w.heap.size w w' := by
  have bN := bl_nonneg N
  have bD := bl_nonneg D
  have bN2 := len_bl hlx
  have bD2 := len_bl hly
  have hSt := fun (x : Nat) W (h : x < 18446744073709551616) => set_any neg x W h
  have HBN := bitsMag_any v (lim N) w hx
  have HBD := bitsMag_any u (lim D) w hy
  rw [show bitsN (lim N) = bl N from rfl] at HBN
  rw [show bitsN (lim D) = bl D from rfl] at HBD
  obtain ⟨a, cap, rfl, _, _, _, _⟩ := id hx
  obtain ⟨a', cap', rfl, _, _, _, _⟩ := id hy
  by_cases h0 : N = 0
  · have hV : rndV neg N D = setN neg 0 := by unfold rndV; rw [if_pos h0]
    rw [hV]
    have hs0 := fun W => hSt 0 W (by decide)
    generalize setN neg 0 = z at hs0 ⊢
    clear hV HBN HBD hx hy hSt bN bN2 hlx
    subst h0
    simp only [lim_zero, List.length_nil]
    go_enter Tryd.func24, Tryd.ntmps24
    go_wp2_with fail
    refine (hs0 _).mono ?_
    rintro e w1 ⟨rfl, rfl⟩
    go_wp2
    go_ret
    exact ⟨rfl, Below.refl _ _⟩
  · have hN : 0 < N := by omega
    have hl0 : ¬ (lim N).length = 0 := fun e => by
      have := lim_eq_nil.1 (List.length_eq_zero_iff.1 e)
      omega
    have hEr := rE0_ge N D
    have hEb : rE0 N D ≤ 200000 := by unfold rE0; split <;> omega
    have hE0 : (bl N - bl D - 53 < -1074 ∧ rE0 N D = -1074) ∨ (¬ bl N - bl D - 53 < -1074 ∧ rE0 N D = bl N - bl D - 53) := by unfold rE0; split <;> simp_all
    have HV0 : Hid (rE N D = if 53 < bl (qE N D (rE0 N D)) then rE0 N D + 1 else rE0 N D) := rfl
    have HEnd := q_end hN hD
    generalize hN0 : bl N = BN at HBN bN bN2 hE0
    generalize hD0 : bl D = BD at HBD bD bD2 hE0
    go_enter Tryd.func24, Tryd.ntmps24
    go_wp2_with fail
    refine HBN.mono ?_
    rintro e w1 ⟨rfl, hw1⟩
    rw [hw1]
    clear hw1 w1 HBN
    go_wp2_with fail
    refine HBD.mono ?_
    rintro e w1 ⟨rfl, hw1⟩
    rw [hw1]
    clear hw1 w1 HBD
    have hmain : ∃ E0 : Int, rE0 N D = E0 := ⟨_, rfl⟩
    obtain ⟨E0, hE00⟩ := hmain
    rw [hE00] at hEr hEb hE0 HV0
    have HE00 : Hid (rE0 N D = E0) := hE00
    clear hE00 hN0 hD0
    go_upto_if 27 with fail
    go_cut [7] from 15 (fun e wx => e = .int .i64 E0 ∧ wx = w)
    case first =>
      rcases hE0 with ⟨g1, g2⟩ | ⟨g1, g2⟩
      · go_wp2_with fail
        go_meet
        case rel => exact ⟨by rw [g2], rfl⟩
      · go_wp2_with fail
        go_meet
        case rel => exact ⟨by rw [g2], rfl⟩
    case rest =>
      obtain ⟨rfl, hwc⟩ := hcut
      rw [hwc]
      clear hwc wc hE0
      go_wp2_with fail
      go_loopw [7, 8, 9, 10, 11, 12, 13, 14] (fun e _ _ _ _ _ _ _ wr => ∃ E : Int, e = .int .i64 E ∧ (E = E0 ∨ (E = E0 + 1 ∧ 53 < bl (qE N D E0))) ∧ Below w.heap.size w wr) (fun e _ _ _ _ _ _ _ _ => (E0 + 1 - RowKit.intOf e).toNat)
      case atStart => exact ⟨E0, rfl, .inl rfl, Below.refl _ _⟩
      case round =>
        obtain ⟨E, rfl, hE, hB⟩ := hrel
        have Elo : -1074 ≤ E := by rcases hE with h | ⟨h, _⟩ <;> omega
        have Ehi : E ≤ 200001 := by rcases hE with h | ⟨h, _⟩ <;> omega
        have hxr := hx.keep hB
        have hyr := hy.keep hB
        have HEb : Hid (-1074 ≤ E ∧ E ≤ 200001) := ⟨Elo, Ehi⟩
        have HSn := fun (k : Nat) (hk : k ≤ 200001) => shlMag_any _ (lim N) k wr hxr (by omega) (by omega)
        have HSd := fun (k : Nat) (hk : k ≤ 200001) => shlMag_any _ (lim D) k wr hyr (by omega) (by omega)
        simp only [val_lim] at HSn HSd
        go_upto_if 31 with fail
        go_cut [8, 9] from 28 to 117 (fun n d wx => ∃ an cn ad cd, n = .slice an (lim (nE N E)).length cn ∧ d = .slice ad (lim (dE D E)).length cd ∧ Rd wx (.slice an (lim (nE N E)).length cn) (lim (nE N E)) ∧ Rd wx (.slice ad (lim (dE D E)).length cd) (lim (dE D E)) ∧ Below w.heap.size w wx)
        case first =>
          by_cases hneg : E < 0
          · obtain ⟨k, hk⟩ : ∃ k : Nat, -E = (k : Int) := ⟨(-E).toNat, by omega⟩
            have hkw : IntKind.i64.wrap (-E) = (k : Int) := by rw [IntKind.wrap_i64]; omega
            have hn1 : nE N E = N * 2 ^ k := by unfold nE; rw [if_pos hneg, show (-E).toNat = k from by omega]
            have hd1 : dE D E = D := by unfold dE; rw [if_pos hneg]
            have HC := HSn k (by omega)
            rw [← hn1] at HC
            have hyr' : Rd wr (.slice a' (lim (dE D E)).length cap') (lim (dE D E)) := by rw [hd1]; exact hyr
            have HD1 : Hid (dE D E = D) := hd1
            clear hn1 hd1 HSn HSd
            go_wp2_with fail
            refine HC.mono ?_
            rintro e w3 ⟨a3, c3, rfl, O3, b3⟩
            clear HC
            go_wp2_with fail
            go_meet
            case rel => exact ⟨a3, c3, a', cap', rfl, by rw [HD1.out], O3.rd, hyr'.keep b3, hB.trans (b3.mono hB.size)⟩
          · obtain ⟨k, hk⟩ : ∃ k : Nat, E = (k : Int) := ⟨E.toNat, by omega⟩
            have hn1 : nE N E = N := by unfold nE; rw [if_neg hneg]
            have hd1 : dE D E = D * 2 ^ k := by unfold dE; rw [if_neg hneg, show E.toNat = k from by omega]
            have HC := HSd k (by omega)
            rw [← hd1, ← hk] at HC
            have hxr' : Rd wr (.slice a (lim (nE N E)).length cap) (lim (nE N E)) := by rw [hn1]; exact hxr
            have HN1 : Hid (nE N E = N) := hn1
            clear hn1 hd1 HSn HSd hk
            go_wp2_with fail
            refine HC.mono ?_
            rintro e w3 ⟨a3, c3, rfl, O3, b3⟩
            clear HC
            go_wp2_with fail
            go_meet
            case rel => exact ⟨a, cap, a3, c3, by rw [HN1.out], rfl, hxr'.keep b3, O3.rd, hB.trans (b3.mono hB.size)⟩
        case rest =>
          obtain ⟨an, cn, ad, cd, rfl, rfl, hn, hd, hBc⟩ := hcut
          clear hxr hyr HSn HSd hB
          have lnn : (lim (nE N E)).length ≤ 8251 := by
            unfold nE; split
            · exact len_shl hlx (by omega)
            · omega
          have ldd : (lim (dE D E)).length ≤ 8252 := by
            unfold dE; split
            · omega
            · have := len_shl (m := E.toNat) hly (by omega); omega
          have hdp := dE_pos hD E
          have HDv := divMag_any _ _ (lim (nE N E)) (lim (dE D E)) wc hn hd (lim_norm _) (lim_norm _) (by omega) (by omega) (by rw [val_lim]; exact hdp)
          rw [val_lim, val_lim] at HDv
          have hQd : qE N D E = nE N E / dE D E := rfl
          rw [← hQd] at HDv
          clear hQd
          obtain ⟨Q, hQ⟩ : ∃ Q, qE N D E = Q := ⟨_, rfl⟩
          obtain ⟨R, hR⟩ : ∃ R, nE N E % dE D E = R := ⟨_, rfl⟩
          obtain ⟨DD, hDD⟩ : ∃ DD, dE D E = DD := ⟨_, rfl⟩
          have HQR : Hid (qE N D E = Q ∧ nE N E % dE D E = R ∧ dE D E = DD) := ⟨hQ, hR, hDD⟩
          rw [hQ, hR] at HDv
          rw [hDD] at HDv hd hdp ldd
          have hRlt : R < DD := by rw [← hR, hDD]; exact Nat.mod_lt _ hdp
          have HDv2 := HDv
          clear hQ hR HDv
          rw [hDD]
          clear hDD
          go_wp2_with fail
          refine HDv2.mono ?_
          rintro e w4 ⟨a4, c4, a5, c5, rfl, O4, O5, b4⟩
          have hd4 := hd.keep b4
          have V4 := hBc.trans (b4.mono hBc.size)
          have HBQ := bitsMag_any _ (lim Q) w4 O4.rd
          rw [show bitsN (lim Q) = bl Q from rfl] at HBQ
          have bQ := bl_nonneg Q
          clear HDv2 hn hd hBc b4
          obtain ⟨B, hBB⟩ : ∃ B, bl Q = B := ⟨_, rfl⟩
          have HBB : Hid (bl Q = B) := hBB
          rw [hBB] at HBQ bQ
          clear hBB
          go_wp2_with fail
          refine HBQ.mono ?_
          rintro e w5 ⟨rfl, hw5⟩
          rw [hw5]
          clear hw5 w5
          by_cases hb : 53 < B
          · have hEE : E = E0 := by
              rcases hE with h | ⟨h1, h2⟩
              · exact h
              · exfalso
                have h3 := HV0.out
                rw [if_pos h2, ← h1] at h3
                have h4 := HEnd.1
                rw [h3, HQR.out.1, HBB.out] at h4
                omega
            have hgrow : 53 < bl (qE N D E0) := by rw [← hEE, HQR.out.1, HBB.out]; exact hb
            clear HBQ
            go_wp2_with fail
            go_roundw
            case rel => exact ⟨E + 1, by go_num, .inr ⟨by omega, hgrow⟩, V4⟩
            case measure => simp [RowKit.intOf]; omega
          · have hEE : rE N D = E := by
              have h3 := HV0.out
              rcases hE with h | ⟨h1, h2⟩
              · rw [h3, if_neg]
                · exact h.symm
                · rw [← h, HQR.out.1, HBB.out]; exact hb
              · rw [h3, if_pos h2, h1]
            have hend := HEnd.2
            rw [hEE, HQR.out.1, HBB.out] at hend
            have HR : Hid (rQ N D = Q ∧ rR N D = R ∧ rE N D = E ∧ dE D (rE N D) = DD) := ⟨by unfold rQ; rw [hEE]; exact HQR.out.1, by unfold rR; rw [hEE]; exact HQR.out.2.1, hEE, by rw [hEE]; exact HQR.out.2.2⟩
            clear HV0 HE00 HEnd HQR hE hEE
            have hcs : (B = 53 ∧ ¬ B < 53) ∨ (B < 53 ∧ ¬ -1074 < E) := by
              rcases (by omega : B = 53 ∨ B < 53) with h | h
              · exact .inl ⟨h, by omega⟩
              · have h5 : ¬ -1074 < E := fun h6 => hend ⟨h, h6⟩
                exact .inr ⟨h, h5⟩
            clear hend
            have lRR : (lim R).length ≤ (lim DD).length := lim_length_le (by
              have h7 := val_lt (lim_limbs DD)
              rw [val_lim] at h7
              omega)
            have HSr := shlMag_any _ (lim R) 1 w4 O5.rd (by omega) (by omega)
            rw [val_lim, show R * 2 ^ 1 = R * 2 from by rw [Nat.pow_one]] at HSr
            have HCm := fun (W : World) (x : Value) (h1 : Rd W x (lim (R * 2))) (h2 : Rd W (.slice ad (lim DD).length cd) (lim DD)) => cmpS_any x _ (lim (R * 2)) (lim DD) W h1 h2 (lim_norm _) (lim_norm _)
            simp only [val_lim] at HCm
            have HBt := fun (W : World) (h : Rd W (.slice a4 (lim Q).length c4) (lim Q)) => bitMag_any _ (lim Q) 0 W h (by omega)
            simp only [val_lim, Nat.pow_zero, Nat.div_one] at HBt
            go_wp2_with fail
            refine HBQ.mono ?_
            rintro e w5 ⟨rfl, hw5⟩
            rw [hw5]
            clear hw5 w5 HBQ
            rcases hcs with ⟨hc1, hc2⟩ | ⟨hc1, hc2⟩
            all_goals
              go_wp2_with fail
              refine HSr.mono ?_
              rintro e w6 ⟨a6, c6, rfl, O6, b6⟩
              have HC6 := HCm w6 _ O6.rd (hd4.keep b6)
              have RQ6 := O4.rd.keep b6
              have V6 := V4.trans (b6.mono V4.size)
              clear HSr HCm O6 b6 O4 O5 hd4 V4
              obtain ⟨cz, hcz⟩ : ∃ cz, cmpN (R * 2) DD = cz := ⟨_, rfl⟩
              rw [hcz] at HC6
              go_wp2_with fail
              refine HC6.mono ?_
              rintro e w7 ⟨rfl, b7⟩
              have RQ7 := RQ6.keep b7
              have V7 := V6.trans (b7.mono V6.size)
              have HB7 := HBt w7 RQ7
              clear HC6 RQ6 V6 b7 HBt
              have hUp : rUp N D = (decide (DD < R * 2) || (decide (R * 2 = DD) && decide (Q % 2 = 1))) := by
                unfold rUp
                rw [HR.out.2.2.2, HR.out.2.1, HR.out.1]
              have HUP : Hid (rUp N D = (decide (DD < R * 2) || (decide (R * 2 = DD) && decide (Q % 2 = 1)))) := hUp
              clear hUp
              go_upto_region 17 with fail
              go_cut [73] from 28 to 117 (fun s73 wx => s73 = .bool (rUp N D) ∧ wx = w7)
              case first =>
                rcases Nat.lt_trichotomy (R * 2) DD with h | h | h
                · obtain rfl : cz = -1 := by rw [← hcz, cmpN_lt h]
                  have hu : rUp N D = false := by rw [HUP.out, decide_eq_false (by omega), decide_eq_false (by omega)]; rfl
                  go_wp2_with fail
                  go_meet
                  case rel => exact ⟨by rw [hu], rfl⟩
                · obtain rfl : cz = 0 := by rw [← hcz, h, cmpN_eq]
                  rcases (by omega : Q % 2 = 0 ∨ Q % 2 = 1) with h2 | h2
                  · have hu : rUp N D = false := by rw [HUP.out, decide_eq_false (by omega), decide_eq_false (by omega : ¬ Q % 2 = 1)]; simp
                    rw [h2] at HB7
                    go_wp2_with fail
                    refine HB7.mono ?_
                    rintro e w8 ⟨rfl, hw8⟩
                    rw [hw8]
                    clear hw8 w8
                    go_wp2_with fail
                    go_meet
                    case rel => exact ⟨by rw [hu], rfl⟩
                  · have hu : rUp N D = true := by rw [HUP.out, decide_eq_true h, decide_eq_true h2]; simp
                    rw [h2] at HB7
                    go_wp2_with fail
                    refine HB7.mono ?_
                    rintro e w8 ⟨rfl, hw8⟩
                    rw [hw8]
                    clear hw8 w8
                    go_wp2_with fail
                    go_meet
                    case rel => exact ⟨by rw [hu], rfl⟩
                · obtain rfl : cz = 1 := by rw [← hcz, cmpN_gt h]
                  have hu : rUp N D = true := by rw [HUP.out, decide_eq_true h]; rfl
                  go_wp2_with fail
                  go_meet
                  case rel => exact ⟨by rw [hu], rfl⟩
              case rest =>
                obtain ⟨rfl, hw8⟩ := hcut
                rw [hw8]
                clear hw8 HB7 HUP
                have HBg : Hid (bl Q = B ∧ ¬ 53 < B) := ⟨HBB.out, by omega⟩
                obtain ⟨up, hup⟩ : ∃ up, rUp N D = up := ⟨_, rfl⟩
                rw [hup]
                have HUp : Hid (rUp N D = up) := hup
                clear hup
                go_upto_if 73 with fail
                go_cut [7, 10] from 28 to 117 (fun e q wx => ∃ aq cq, e = .int .i64 (rE2 N D) ∧ q = .slice aq (lim (rQ2 N D)).length cq ∧ Rd wx (.slice aq (lim (rQ2 N D)).length cq) (lim (rQ2 N D)) ∧ Below w.heap.size w wx)
                case first =>
                  cases up
                  · have h1 : rQ1 N D = Q := by unfold rQ1; rw [HUp.out, if_neg (by decide), HR.out.1]
                    have h2 : ¬ 53 < bl (rQ1 N D) := by rw [h1, HBg.out.1]; exact HBg.out.2
                    have q2 : rQ2 N D = Q := by unfold rQ2; rw [if_neg h2, h1]
                    have e2 : rE2 N D = E := by unfold rE2; rw [if_neg h2, HR.out.2.2.1]
                    have HQ2 : Hid (rQ2 N D = Q ∧ rE2 N D = E) := ⟨q2, e2⟩
                    clear h1 h2 q2 e2
                    go_wp2_with fail
                    go_meet
                    case rel => exact ⟨a4, c4, by rw [HQ2.out.2], by rw [HQ2.out.1], by rw [HQ2.out.1]; exact RQ7, V7⟩
                  · have h1 : rQ1 N D = Q + 1 := by unfold rQ1; rw [HUp.out, if_pos rfl, HR.out.1]
                    have H1 : Hid (rQ1 N D = Q + 1) := h1
                    have al : Below w7.heap.size w7 (w7.alloc (.cells #[.int .u32 1] 48)) := (Below.refl _ _).alloc (Nat.le_refl _) _
                    have hQl : (lim Q).length ≤ 2 := lim_length_le (k := 2) (by
                      have h3 := bl_lt_of (n := Q) (k := 53) (by rw [HBg.out.1]; have := HBg.out.2; omega)
                      omega)
                    have HAd := addMag_any _ _ (lim Q) [1] _ (RQ7.keep al) (Rd.one w7 w7.heap.size rfl 48 (by omega) (by omega)) (by omega) (by simp)
                    rw [val_lim, show val [1] = 1 from by decide] at HAd
                    clear h1
                    go_wp2_with fail
                    refine HAd.mono ?_
                    rintro e w8 ⟨a8, c8, rfl, O8, b8⟩
                    have V8 := (V7.trans (al.mono V7.size)).trans (b8.mono (V7.trans (al.mono V7.size)).size)
                    have HB8 := bitsMag_any _ (lim (Q + 1)) w8 O8.rd
                    rw [show bitsN (lim (Q + 1)) = bl (Q + 1) from rfl] at HB8
                    obtain ⟨B1, hB1⟩ : ∃ B1, bl (Q + 1) = B1 := ⟨_, rfl⟩
                    have HB1 : Hid (bl (Q + 1) = B1) := hB1
                    rw [hB1] at HB8
                    clear hB1 HAd al b8 V7 RQ7 hQl
                    go_wp2_with fail
                    refine HB8.mono ?_
                    rintro e w9 ⟨rfl, hw9⟩
                    rw [hw9]
                    clear hw9 w9 HB8
                    by_cases hb1 : 53 < B1
                    · have h2 : 53 < bl (rQ1 N D) := by rw [H1.out, HB1.out]; exact hb1
                      have h3 : Q + 1 = 2 ^ 53 := by rw [← H1.out]; exact rQ1_53 hN hD h2
                      have q2 : rQ2 N D = 2 ^ 52 := by unfold rQ2; rw [if_pos h2]
                      have e2 : rE2 N D = E + 1 := by unfold rE2; rw [if_pos h2, HR.out.2.2.1]
                      have HQ2 : Hid (rQ2 N D = 2 ^ 52 ∧ rE2 N D = E + 1) := ⟨q2, e2⟩
                      have hr8 : Rd w8 (.slice a8 (lim (Q + 1)).length c8) [0, 2097152] := by
                        have h4 := O8.rd
                        rw [h3, lim53] at h4
                        rw [h3, lim53]
                        exact h4
                      have HSh := shr53_any _ w8 hr8
                      clear h2 h3 q2 e2 hr8
                      go_wp2_with fail
                      refine HSh.mono ?_
                      rintro e w10 ⟨a10, c10, rfl, O10, b10⟩
                      clear HSh
                      go_wp2_with fail
                      go_meet
                      case rel => exact ⟨a10, c10, by first | (rw [HQ2.out.2]; done) | (rw [HQ2.out.2]; go_num), by rw [HQ2.out.1], by rw [HQ2.out.1]; exact O10.rd, V8.trans (b10.mono V8.size)⟩
                    · have h2 : ¬ 53 < bl (rQ1 N D) := by rw [H1.out, HB1.out]; exact hb1
                      have q2 : rQ2 N D = Q + 1 := by unfold rQ2; rw [if_neg h2, H1.out]
                      have e2 : rE2 N D = E := by unfold rE2; rw [if_neg h2, HR.out.2.2.1]
                      have HQ2 : Hid (rQ2 N D = Q + 1 ∧ rE2 N D = E) := ⟨q2, e2⟩
                      clear h2 q2 e2
                      go_wp2_with fail
                      go_meet
                      case rel => exact ⟨a8, c8, by rw [HQ2.out.2], by rw [HQ2.out.1], by rw [HQ2.out.1]; exact O8.rd, V8⟩
                case rest =>
                  obtain ⟨aq, cq, rfl, rfl, RQ, VB⟩ := hcut
                  have q53 := rQ2_lt hN hD
                  have E2lo := rE2_ge N D
                  have E2hi : rE2 N D ≤ 200002 := by
                    have h1 := HR.out.2.2.1
                    unfold rE2
                    rw [h1]
                    split <;> omega
                  have HV : Hid (rndV neg N D = if 971 < rE2 N D then setN neg 9218868437227405312 else if rQ2 N D < 4503599627370496 then setN neg (rQ2 N D) else setN neg (((rE2 N D + 1075).toNat * 4503599627370496) ||| (rQ2 N D - 4503599627370496))) := by
                    show rndV neg N D = _
                    unfold rndV
                    rw [if_neg (by omega)]
                  clear HR HBg HUp hcz
                  obtain ⟨V, hV⟩ : ∃ V, rndV neg N D = V := ⟨_, rfl⟩
                  have HVV : Hid (rndV neg N D = V) := hV
                  clear hV
                  generalize rQ2 N D = Q2 at *
                  generalize rE2 N D = E2 at *
                  have ll : (lim Q2).length ≤ 2 := lim_length_le (k := 2) (by omega)
                  obtain ⟨L2, hL2⟩ : ∃ L2, lim Q2 = L2 := ⟨_, rfl⟩
                  have hv2 : val L2 = Q2 := by rw [← hL2, val_lim]
                  have hz2 : Limbs L2 := by rw [← hL2]; exact lim_limbs Q2
                  rw [hL2] at RQ ll ⊢
                  clear hL2
                  obtain ⟨aq', cq', heq, _, _, _, hcq⟩ := RQ
                  obtain ⟨rfl, -, rfl⟩ : aq' = aq ∧ True ∧ cq' = cq := by simp at heq; exact ⟨heq.1.symm, trivial, heq.2.symm⟩
                  clear heq
                  go_wp2_with fail
                  go_loopw [13, 14] (fun u i wr2 => ∃ k : Nat, k ≤ L2.length ∧ i = .int .i64 ((k : Int) - 1) ∧ u = .int .u64 (val (L2.drop k) : Nat) ∧ wr2 = wc) (fun _ i _ => (RowKit.intOf i + 1).toNat)
                  case atStart => exact ⟨L2.length, Nat.le_refl _, by go_num, by rw [List.drop_length]; rfl, rfl⟩
                  case round =>
                    obtain ⟨k, hk, rfl, rfl, hwr⟩ := hrel
                    rw [hwr]
                    clear hwr
                    cases k with
                    | zero =>
                      rw [List.drop_zero, hv2]
                      clear hcq hz2 hv2
                      by_cases h971 : 971 < E2
                      · have hVv : V = setN neg 9218868437227405312 := by rw [← HVV.out, HV.out, if_pos h971]
                        have hSi : ∀ W, Calls Tryd.prog 51 #[.bool neg, .int .u64 9218868437227405312] W fun e w' => e = .returned (.int .u64 (V : Nat)) ∧ w' = W := fun W => by
                          rw [hVv]
                          exact hSt 9218868437227405312 W (by decide)
                        clear hSt hVv
                        go_wp2_with fail
                        refine (hSi _).mono ?_
                        rintro e w9 ⟨rfl, hw9⟩
                        rw [hw9]
                        clear hw9 w9
                        go_wp2
                        go_ret
                        exact ⟨by rw [HVV.out]; rfl, VB⟩
                      · by_cases hq : Q2 < 4503599627370496
                        · have hVv : V = setN neg Q2 := by rw [← HVV.out, HV.out, if_neg h971, if_pos hq]
                          have hSi := fun W => hSt Q2 W (by omega)
                          rw [← hVv] at hSi
                          have hqz : (Q2 : Int) < 4503599627370496 := by omega
                          clear hSt hVv
                          go_wp2_with fail
                          refine (hSi _).mono ?_
                          rintro e w9 ⟨rfl, hw9⟩
                          rw [hw9]
                          clear hw9 w9
                          go_wp2
                          go_ret
                          exact ⟨by rw [HVV.out]; rfl, VB⟩
                        · have hqz : ¬ (Q2 : Int) < 4503599627370496 := by omega
                          obtain ⟨T, hT⟩ : ∃ T : Nat, E2 + 1074 + 1 = (T : Int) := ⟨(E2 + 1075).toNat, by omega⟩
                          obtain ⟨Y, hY⟩ : ∃ Y : Nat, (Q2 : Int) - 4503599627370496 = (Y : Int) := ⟨Q2 - 4503599627370496, by omega⟩
                          have hVv : V = setN neg (T * 4503599627370496 ||| Y) := by
                            rw [← HVV.out, HV.out, if_neg h971, if_neg hq, show (E2 + 1075).toNat = T from by omega, show Q2 - 4503599627370496 = Y from by omega]
                          have hTz : (T : Int) < 2047 := by omega
                          have hor := u64_or_nat (T * 4503599627370496) Y (by omega) (by omega)
                          rw [show ((T * 4503599627370496 : Nat) : Int) = (T : Int) * 4503599627370496 from by omega] at hor
                          have hlt : T * 4503599627370496 ||| Y < 18446744073709551616 := Nat.or_lt_two_pow (n := 64) (by omega) (by omega)
                          obtain ⟨Z, hZ⟩ : ∃ Z, T * 4503599627370496 ||| Y = Z := ⟨_, rfl⟩
                          rw [hZ] at hVv hor hlt
                          have hSi := fun W => hSt Z W hlt
                          rw [← hVv] at hSi
                          have hwT : IntKind.u64.wrap (T : Int) = (T : Int) := by rw [IntKind.wrap_u64]; omega
                          have hwS : IntKind.u64.wrap ((T : Int) * 4503599627370496) = (T : Int) * 4503599627370496 := by rw [IntKind.wrap_u64]; omega
                          clear hSt hVv hZ hlt
                          go_wp2_with fail
                          refine (hSi _).mono ?_
                          rintro e w9 ⟨rfl, hw9⟩
                          rw [hw9]
                          clear hw9 w9
                          go_wp2
                          go_ret
                          exact ⟨by rw [HVV.out]; rfl, VB⟩
                    | succ j =>
                      obtain ⟨b, off, rfl, hbw, hcell⟩ := hcq (by omega)
                      have hce := hcell j (by omega)
                      have hg := hz2.get j
                      obtain ⟨y, hy2⟩ : ∃ y : Nat, L2.getD j 0 = (y : Int) := ⟨(L2.getD j 0).toNat, by omega⟩
                      have hx2 : val (L2.drop (j + 1)) < 4294967296 := by
                        have h1 := val_lt (zs := L2.drop (j + 1)) (hz2.drop _)
                        have h2 : (L2.drop (j + 1)).length ≤ 1 := by rw [List.length_drop]; omega
                        exact Nat.lt_of_lt_of_le h1 (Nat.le_trans (Nat.pow_le_pow_right (by decide) h2) (by decide))
                      have hval : val (L2.drop j) = val (L2.drop (j + 1)) * 4294967296 + y := by
                        rw [List.drop_eq_getElem_cons (by omega : j < L2.length)]
                        show L2[j].toNat + 4294967296 * val (L2.drop (j + 1)) = _
                        have h3 : L2.getD j 0 = L2[j] := by rw [List.getD_eq_getElem?_getD, List.getElem?_eq_getElem (by omega)]; rfl
                        rw [h3] at hy2
                        rw [hy2]
                        omega
                      rw [hy2] at hce hg
                      have hor := or_join2 (val (L2.drop (j + 1))) y hx2 (by omega)
                      rw [← hval] at hor
                      have HJ : Hid (j < L2.length) := (by omega : j < L2.length)
                      generalize val (L2.drop (j + 1)) = X at hx2 hor ⊢
                      obtain ⟨Z, hZ⟩ : ∃ Z, val (L2.drop j) = Z := ⟨_, rfl⟩
                      have HZ : Hid (val (L2.drop j) = Z) := hZ
                      rw [hZ] at hor
                      clear hZ hval hcell hcq hy2
                      have hxz : (X : Int) < 4294967296 := by omega
                      have hjz : (j : Int) < (L2.length : Int) := by have := HJ.out; omega
                      go_wp2_with fail
                      exact ⟨⟨j, by have := HJ.out; omega, rfl, by rw [HZ.out], trivial⟩, by simp [RowKit.intOf]⟩
end Go.Proofs.YtfcoffllelgakaaDoor
