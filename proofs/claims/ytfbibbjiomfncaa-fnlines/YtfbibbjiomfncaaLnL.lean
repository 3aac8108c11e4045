import Derived.Test.YtfbibbjiomfncaaLnW
import Derived.Test.YtfbibbjiomfncaaFtB
import Derived.Test.YtfbibbjiomfncaaDaL
namespace Go.Proofs.Ytfbibbjiomfncaa
open Go.RowKit Go.Lib
set_option linter.unusedVariables false
set_option linter.unusedSimpArgs false

set_option maxRecDepth 100000 in
set_option maxHeartbeats 4000000 in
theorem law_lines (a : Option Addr) (n c : Nat) (bs : List Int) (w : World) (hn : n ≤ 9223372036854775807) (h : n ≤ 1048576 → Src w a n c bs) :
    Calls Try.prog 8 #[.slice a n c] w fun e w' => e = .returned (.bool true) ∧ Below w.heap.size w w' := by
  go_enter Try.func8, Try.ntmps8
  go_wp2_with fail
  refine (big_any w a n c).mono ?_
  rintro e w1 ⟨rfl, rfl⟩
  by_cases hb : (1048576 : Int) < (n : Int)
  · rw [decide_eq_true hb]
    go_wp2
    go_ret
    exact ⟨rfl, Below.refl _ _⟩
  rw [decide_eq_false hb]
  have hs := h (by omega)
  clear h hb
  go_wp2_with fail
  refine (drawM_any _ a n c bs hs).mono ?_
  rintro e w2 ⟨u, cs, rfl, hC, hcl, V2⟩
  obtain ⟨va, vc, ev⟩ := hC.form
  subst ev
  clear hs
  go_wp2_with fail
  refine (fitsI_any _ cs _ hC).mono ?_
  rintro e w3 ⟨fu, rfl, hF3, hB3⟩
  have V3 := V2.trans (hB3.mono V2.size)
  have C3 := hC.keep hB3
  have F3 := hF3.rd
  obtain ⟨fa, fc, ef⟩ := F3.form
  subst ef
  clear hF3
  go_wp2_with fail
  refine (mroI_any _ cs _ C3).mono ?_
  rintro e w4 ⟨gI, nI, cI, rfl, ⟨sls, hLO⟩, hB4⟩
  have V4 := V3.trans (hB4.mono V3.size)
  have C4 := C3.keep hB4
  have F4 := F3.keep hB4
  have hnI := hLO.n
  subst hnI
  have RL4 := hLO.ln.rl
  have HLN : Hid _ := hLO.ln
  clear hLO C3 F3 V3 V2 hC hB3 hB4
  go_wp2_with fail
  refine (okCS_any _ cs _ C4).mono ?_
  rintro e w5 ⟨rfl, hB5⟩
  have V5 := V4.trans (hB5.mono V4.size)
  have C5 := C4.keep hB5
  have F5 := F4.keep hB5
  by_cases hok : OkCs cs
  · rw [dec_true hok]
    have hfits : fitsC cs = fitL (lnsC cs cs.length) := by unfold fitsC; rw [dec_true hok]; rfl
    have hmro : mroA cs = match badL (lnsC cs cs.length) with | some k => ([], (k : Int)) | none => (lnsC cs cs.length, -1) := by
      unfold mroA; rw [dec_true hok]; rfl
    have hLl : (lnsC cs cs.length).length = cs.length := lns_len _ _
    have hFl : (fitsC cs).length = cs.length := by rw [hfits]; simp [fitL, hLl]
    have hf0 := firstN_bad (lnsC cs cs.length)
    have hLn : Hid (∀ i (hi : i < cs.length), (lnsC cs cs.length).getD i [] ≠ [] → Ln (lnsC cs cs.length) i cs[i].b ((lnsC cs cs.length).getD i [])) := fun i hi h => Ln.of hok i hi h
    have hbb : Hid (∀ i (hi : i < cs.length), ∀ b ∈ cs[i].b, 0 ≤ b ∧ b < (i : Int)) := fun i hi => (hok.2 i hi).1.1
    have hll : Hid (∀ l ∈ lnsC cs cs.length, l.length ≤ 300) := by
      intro l hl
      obtain ⟨k, hk, e⟩ := List.getElem_of_mem hl
      have h1 := (lns_ok hok cs.length (Nat.le_refl _) k hk).len
      have h2 := hok.1
      rw [e] at h1
      omega
    have HFS := fun W => fitsS_any (.slice va cs.length vc) cs W
    rw [← hfits] at hf0
    generalize lnsC cs cs.length = Ls at *
    generalize fitsC cs = FB at *
    obtain ⟨CN, hCN⟩ : ∃ CN, cs.length = CN := ⟨_, rfl⟩
    have HCN : Hid (cs.length = CN) := hCN
    have hCNb : CN ≤ 201 := by omega
    have HFB : Hid (FB = fitL Ls) := hfits
    have HFl : Hid (FB.length = CN) := by rw [Hid, hFl, hCN]
    have HLl : Hid (Ls.length = CN) := by rw [Hid, hLl, hCN]
    have HOK : Hid (OkCs cs) := hok
    rw [hCN] at hFl hcl C5 HFS ⊢
    rw [hFl] at F5 ⊢
    have wC : IntKind.i64.wrap ((CN : Int) - 1) = (CN : Int) - 1 := by rw [IntKind.wrap_i64]; omega
    have hCC : ((CN : Int) == (CN : Int)) = true := by simp
    obtain ⟨fa', fc', e, hl1, hz1, hn1, hc1⟩ := F5
    simp only [Value.slice.injEq] at e
    obtain ⟨rfl, -, rfl⟩ := e
    have Hc1 : Hid _ := hc1
    clear hfits hok hCN hFl hLl hl1 hz1 hn1 hc1 C4 F4
    have hBD : firstN FB 0 = (mroA cs).2 := by rw [hmro, hf0]; cases badL Ls <;> rfl
    have HLN5 := LLn.keep HLN.out hB5
    generalize mroA cs = MA at *
    obtain ⟨MM, BD⟩ := MA
    simp only at hBD HLN5 ⊢
    have HBD : Hid (firstN FB 0 = BD) := hBD
    have HMR : Hid _ := hmro
    have hBB : (BD == BD) = true := by simp
    clear hmro hf0 hBD RL4 HLN
    go_wp2_with fail
    go_loopw [7, 8] (fun fv i wr => ∃ m : Nat, m ≤ CN ∧ fv = .int .i64 (firstN FB m) ∧ i = .int .i64 ((m : Int) - 1) ∧ wr = w5) (fun _ i _ => (intOf i + 1).toNat)
    case atStart => exact ⟨CN, Nat.le_refl _, by rw [← HFl.out, firstN_end], rfl, rfl⟩
    case round =>
      obtain ⟨m, hm, rfl, rfl, hw⟩ := hrel
      have hw' := hw.symm
      subst hw'
      by_cases hlt : 0 < m
      · obtain ⟨j, rfl⟩ : ∃ j, m = j + 1 := ⟨m - 1, by omega⟩
        have e1 : ((j + 1 : Nat) : Int) - 1 = (j : Int) := by omega
        rw [e1]
        have hj0 : (0 : Int) ≤ (j : Int) := by omega
        have hjC : (j : Int) < (CN : Int) := by omega
        have hjl : j < FB.length := by rw [HFl.out]; omega
        obtain ⟨b1, o1, rfl, hb1, hcell1⟩ := Hc1.out (by omega)
        have d0 := hcell1 j hjl 0 (by decide)
        simp only [show shB.n = 1 from rfl, Nat.mul_one, Nat.add_zero, shB, List.getElem?_cons_zero] at d0
        have hst := firstN_step FB j hjl
        have Hst : Hid _ := hst
        generalize hX : FB[j] = X at *
        clear hst hcell1 hX
        generalize firstN FB (j + 1) = F1 at *
        cases X
        · have hF2 : Hid (firstN FB j = (j : Int)) := by show _ = _; have := Hst.out; simpa using this
          clear Hst
          go_wp2_with fail
          go_roundw
          case rel => exact ⟨j, by omega, by rw [hF2.out], by go_num, by trivial⟩
          case measure => simp [intOf]
        · have hF2 : Hid (firstN FB j = F1) := by show _ = _; have := Hst.out; simpa using this
          clear Hst
          go_wp2_with fail
          go_roundw
          case rel => exact ⟨j, by omega, by rw [hF2.out], by go_num, by trivial⟩
          case measure => simp [intOf]
      · obtain rfl : m = 0 := by omega
        rw [HBD.out]
        have e0 : ((0 : Nat) : Int) - 1 = -1 := by omega
        rw [e0]
        have hmro := HMR.out
        cases hbd : badL Ls with
        | some q =>
          rw [hbd] at hmro
          simp only [Prod.mk.injEq] at hmro
          obtain ⟨rfl, rfl⟩ := hmro
          simp only [List.length_nil] at HLN5 ⊢
          have hq0 : (0 : Int) ≤ (q : Int) := by omega
          clear hbd HMR
          go_wp2_with fail
          refine (HFS _ C5).mono ?_
          rintro e w6 ⟨fu, rfl, hF6, hB6⟩
          have V6 := V5.trans (hB6.mono V5.size)
          have F6 := hF6.rd
          obtain ⟨ga, gc, ef⟩ := F6.form
          rw [HFl.out] at ef
          subst ef
          obtain ⟨ga', gc', e, -, -, -, hc2⟩ := F6
          simp only [Value.slice.injEq] at e
          obtain ⟨rfl, -, rfl⟩ := e
          have Hc2 : Hid _ := hc2
          clear hc2 hF6
          go_wp2_with fail
          go_loopw [10] (fun i wr => ∃ k : Nat, k ≤ CN ∧ i = .int .i64 k ∧ Below w6.heap.size w6 wr) (fun i _ => CN - (intOf i).toNat)
          case atStart => exact ⟨0, Nat.zero_le _, rfl, Below.refl _ _⟩
          case round =>
            obtain ⟨k, hk, rfl, hB⟩ := hrel
            by_cases hkl : k < CN
            · have hki : (k : Int) < (CN : Int) := by omega
              have hkf : k < FB.length := by rw [HFl.out]; exact hkl
              obtain ⟨b1, o1, rfl, hb1, hcell1⟩ := Hc1.out (by omega)
              obtain ⟨b2, o2, rfl, hb2, hcell2⟩ := Hc2.out (by omega)
              have d1 := ((hB6.trans (hB.mono hB6.size)).cell (p := ⟨b1, o1 + k * shB.n + 0, none⟩) hb1).trans (hcell1 k hkf 0 (by decide))
              have d2 := (hB.cell (p := ⟨b2, o2 + k * shB.n + 0, none⟩) hb2).trans (hcell2 k hkf 0 (by decide))
              simp only [show shB.n = 1 from rfl, Nat.mul_one, Nat.add_zero, shB, List.getElem?_cons_zero] at d1 d2
              generalize FB[k] = X at *
              clear hcell1 hcell2
              have hXX : (X == X) = true := by simp
              go_wp2_with fail
              go_region_held3 (fun W => W.cell? ⟨b1, o1 + k, none⟩ = some (.bool X) ∧ W.cell? ⟨b2, o2 + k, none⟩ = some (.bool X)) (go_keep) (fail)
              all_goals
                go_wp2
                go_roundw
                case rel => exact ⟨k + 1, by omega, by go_num, hB.drew⟩
                case measure => simp [intOf]; omega
            · obtain rfl : k = CN := by omega
              have hki : ¬ (k : Int) < (k : Int) := by omega
              go_wp2_with fail
              go_ret
              exact ⟨rfl, V6.trans (hB.mono V6.size)⟩
        | none =>
          rw [hbd] at hmro
          simp only [Prod.mk.injEq] at hmro
          obtain ⟨rfl, rfl⟩ := hmro
          have hne := bad_none' _ hbd
          have Hne : Hid _ := hne
          rw [HLl.out] at HLN5 ⊢
          clear hbd HMR hne HFS hBB HBD hll HFB Hc1 hm hlt e0
          obtain ⟨ps, ⟨a1, cap1, e1, hl1, hz1, hn1, hcc⟩, hpl, hK⟩ := C5
          simp only [Value.slice.injEq] at e1
          obtain ⟨rfl, hPN, rfl⟩ := e1
          have HPN : Hid (CN = ps.length) := hPN
          have HPL : Hid (ps.length = cs.length) := hpl
          have Hcc : Hid _ := hcc
          have HK : Hid _ := hK
          have hat : Hid (∀ i, i < CN → ∃ xa xc, w5.cell? ⟨gI, i, none⟩ = some (.slice xa (MM.getD i []).length xc) ∧ Rd w5 (.slice xa (MM.getD i []).length xc) (MM.getD i [])) := by
            intro i hi
            have hi' : i < MM.length := by rw [HLl.out]; exact hi
            obtain ⟨xa, xc, d, hr⟩ := LL.at HLN5 i hi'
            have e : MM.getD i [] = MM[i] := by simp [List.getD, hi']
            rw [e]
            exact ⟨xa, xc, d, hr.1⟩
          clear hl1 hz1 hn1 hcc hpl hK hPN HLN5
          go_wp2_with fail
          go_loopw [11] (fun iv wr => ∃ i : Nat, i ≤ CN ∧ iv = .int .i64 i ∧ Below w5.heap.size w5 wr) (fun iv _ => CN - (intOf iv).toNat)
          case atStart => exact ⟨0, Nat.zero_le _, rfl, Below.refl _ _⟩
          case round =>
            obtain ⟨i, hi, rfl, hB⟩ := hrel
            generalize wr = W1 at *
            by_cases hil : i < CN
            · have hii : (i : Int) < (CN : Int) := by omega
              have hic : i < cs.length := by rw [HCN.out]; exact hil
              have hip : i < ps.length := by rw [HPL.out]; exact hic
              have him : i < MM.length := by rw [HLl.out]; exact hil
              obtain ⟨xa, xc, g0, r0⟩ := hat.out i hil
              have hL := hLn.out i hic (by rw [show MM.getD i [] = MM[i] by simp [List.getD, him]]; exact Hne.out _ (List.getElem_mem him))
              have hbi := hbb.out i hic
              obtain ⟨b1, o1, rfl, hb1, hcell1⟩ := Hcc.out (by omega)
              have g1 := (RdP.at hcell1 i hip).1
              have rb := (HK.out i hip hic).1
              have hgI : gI < w5.heap.size := World.block_lt_of_cell? w5 _ g0
              generalize ps[i].s1 = sv at *
              obtain ⟨ba, bc, es⟩ := rb.form
              subst es
              generalize cs[i].b = bi at *
              generalize MM.getD i [] = L at *
              obtain ⟨⟨m, hm⟩, hsb, hba, hnd⟩ := hL
              have HW := fun W h1 h2 => within_any (.slice ba bi.length bc) (.slice xa L.length xc) bi L W h1 h2 hsb
              have hL1 : 1 ≤ L.length := by rw [hm]; simp
              have hl0 : L.getD 0 0 = (i : Int) := by rw [hm]; rfl
              obtain ⟨a2, cap2, e2, hl2, -, -, hc2⟩ := id r0
              simp only [Value.slice.injEq, true_and] at e2
              obtain ⟨e2a, e2b⟩ := e2
              subst e2a e2b
              obtain ⟨b2, o2, rfl, hb2, hcell2⟩ := hc2 (by omega)
              have g2 := hcell2 0 (by omega)
              rw [hl0, Nat.add_zero] at g2
              have Hnd : Hid _ := hnd
              have Hba : Hid _ := hba
              have Hbi : Hid _ := hbi
              have Hc2 : Hid _ := hcell2
              have d0 := (hB.cell (p := ⟨gI, i, none⟩) hgI).trans g0
              have d1 := (hB.cell (p := ⟨b1, _, none⟩) hb1).trans g1
              have d2 := (hB.cell (p := ⟨b2, o2, none⟩) hb2).trans g2
              have r1 := r0.keep hB
              have r2 := rb.keep hB
              obtain ⟨XN, hXN⟩ : ∃ XN, L.length = XN := ⟨_, rfl⟩
              have HXN : Hid (L.length = XN) := hXN
              obtain ⟨BN, hBN⟩ : ∃ BN, bi.length = BN := ⟨_, rfl⟩
              have HBN : Hid (bi.length = BN) := hBN
              rw [hXN] at hL1 hl2 HW d0 r1 g0
              have hbm := rb.max
              rw [hBN] at HW d1 r2 g1 hbm
              have hx0 : ¬ (XN : Int) = 0 := by omega
              have hx0b : ((XN : Int) == 0) = false := by simp; omega
              have hxp : (0 : Int) < (XN : Int) := by omega
              have hxn : 0 < XN := by omega
              have hii2 : ((i : Int) == (i : Int)) = true := by simp
              have wi : IntKind.i64.wrap (i : Int) = (i : Int) := by rw [IntKind.wrap_i64]; omega
              clear hm hsb hba hnd hbi hcell1 hcell2 hc2 hl0 hXN hBN
              go_wp2_with fail
              go_region_held3 (fun W => W.cell? ⟨gI, i, none⟩ = some (.slice (some ⟨b2, o2, none⟩) XN xc) ∧ W.cell? ⟨b1, o1 + i * 2, none⟩ = some (.slice ba BN bc) ∧ W.cell? ⟨b2, o2, none⟩ = some (.int .i64 (i : Int))) (go_keep) ((go_at_call 35; refine (HW _ r2.drew r1.drew).mono ?_; rintro e w7 ⟨rfl, hB7⟩; have y0 := (hB7.cell (p := ⟨gI, i, none⟩) (Nat.lt_of_lt_of_le hgI hB.size)).trans d0; have y1 := (hB7.cell (p := ⟨b1, o1 + i * 2, none⟩) (Nat.lt_of_lt_of_le hb1 hB.size)).trans d1; have y2 := (hB7.cell (p := ⟨b2, o2, none⟩) (Nat.lt_of_lt_of_le hb2 hB.size)).trans d2))
              have B7 : Below w5.heap.size w5 w7 := hB.drew.trans (hB7.mono hB.size)
              clear d0 d1 d2 y1 y2 r1 r2 HW hB7 hB
              go_wp2_with fail
              go_loopw [12] (fun kv wr => ∃ k : Nat, k ≤ XN ∧ kv = .int .i64 k ∧ Below w5.heap.size w5 wr) (fun kv _ => XN - (intOf kv).toNat)
              case atStart => exact ⟨0, Nat.zero_le _, rfl, B7⟩
              case round =>
                obtain ⟨k, hk, rfl, hB⟩ := hrel
                clear y0 B7
                generalize wr = W2 at *
                have d0 := (hB.cell (p := ⟨gI, i, none⟩) hgI).trans g0
                by_cases hkl : k < XN
                · have hki : (k : Int) < (XN : Int) := by omega
                  go_wp2_with fail
                  go_loopw [13] (fun qv wr => ∃ q : Nat, q ≤ k ∧ qv = .int .i64 q ∧ Below w5.heap.size w5 wr) (fun qv _ => k - (intOf qv).toNat)
                  case atStart => exact ⟨0, Nat.zero_le _, rfl, hB⟩
                  case round =>
                    obtain ⟨q, hq, rfl, hB2⟩ := hrel
                    clear d0
                    generalize wr = W3 at *
                    by_cases hql : q < k
                    · have hqi : (q : Int) < (k : Int) := by omega
                      have hqx : (q : Int) < (XN : Int) := by omega
                      have e0 := (hB2.cell (p := ⟨gI, i, none⟩) hgI).trans g0
                      have hkL : k < L.length := by rw [HXN.out]; exact hkl
                      have hqL : q < L.length := by omega
                      have e1 := (hB2.cell (p := ⟨b2, o2 + k, none⟩) hb2).trans (Hc2.out k hkL)
                      have e2 := (hB2.cell (p := ⟨b2, o2 + q, none⟩) hb2).trans (Hc2.out q hqL)
                      rw [show L.getD k 0 = L[k] by simp [List.getD, hkL]] at e1
                      rw [show L.getD q 0 = L[q] by simp [List.getD, hqL]] at e2
                      have hne : L[q] ≠ L[k] := (List.pairwise_iff_getElem.mp Hnd.out) q k hqL hkL hql
                      generalize L[q] = X at *
                      generalize L[k] = Y at *
                      have hXY : (X == Y) = false := by simp [hne]
                      go_wp2_with fail
                      go_region_held3 (fun W => W.cell? ⟨gI, i, none⟩ = some (.slice (some ⟨b2, o2, none⟩) XN xc) ∧ W.cell? ⟨b2, o2 + q, none⟩ = some (.int .i64 X) ∧ W.cell? ⟨b2, o2 + k, none⟩ = some (.int .i64 Y)) (go_keep) (fail)
                      all_goals
                        go_wp2
                        go_roundw
                        case rel => exact ⟨q + 1, by omega, by go_num, hB2.drew⟩
                        case measure => simp [intOf]; omega
                    · obtain rfl : k = q := by omega
                      have hqi : ¬ (k : Int) < (k : Int) := by omega
                      go_wp2_with fail
                      go_roundw
                      case rel => exact ⟨k + 1, by omega, by go_num, hB2⟩
                      case measure => simp [intOf]; omega
                · obtain rfl : XN = k := by omega
                  have hki : ¬ (XN : Int) < (XN : Int) := by omega
                  go_wp2_with fail
                  go_loopw [14] (fun kv wr => ∃ z : Nat, z ≤ BN ∧ kv = .int .i64 z ∧ Below w5.heap.size w5 wr) (fun kv _ => BN - (intOf kv).toNat)
                  case atStart => exact ⟨0, Nat.zero_le _, rfl, hB⟩
                  case round =>
                    obtain ⟨z, hz, rfl, hB2⟩ := hrel
                    clear d0
                    generalize wr = W3 at *
                    have e0 := (hB2.cell (p := ⟨gI, i, none⟩) hgI).trans g0
                    have e1 := (hB2.cell (p := ⟨b1, o1 + i * 2, none⟩) hb1).trans g1
                    by_cases hzl : z < BN
                    · have hzi : (z : Int) < (BN : Int) := by omega
                      have hzb : z < bi.length := by rw [HBN.out]; exact hzl
                      obtain ⟨ab, cb, eb, -, -, -, hcb⟩ := id rb
                      simp only [Value.slice.injEq, true_and] at eb
                      obtain ⟨ea, ec⟩ := eb
                      subst ea ec
                      obtain ⟨b3, o3, rfl, hb3, hcell3⟩ := hcb (by omega)
                      have e3 := (hB2.cell (p := ⟨b3, o3 + z, none⟩) hb3).trans (hcell3 z hzb)
                      rw [show bi.getD z 0 = bi[z] by simp [List.getD, hzb]] at e3
                      obtain ⟨hy0, hy1⟩ := Hbi.out bi[z] (List.getElem_mem hzb)
                      have hsub := Hba.out bi[z] (List.getElem_mem hzb)
                      obtain ⟨y, hy⟩ : ∃ y : Nat, bi[z] = (y : Int) := ⟨bi[z].toNat, by omega⟩
                      rw [hy] at e3 hy1 hsub
                      rw [Int.toNat_natCast] at hsub
                      have hyC : (y : Int) < (CN : Int) := by omega
                      obtain ⟨ya, yc, gy, ry⟩ := hat.out y (by omega)
                      have e4 := (hB2.cell (p := ⟨gI, y, none⟩) hgI).trans gy
                      have r1 := ry.keep hB2
                      have r2 := r0.keep hB2
                      have HW := fun W h1 h2 => within_any (.slice ya (MM.getD y []).length yc) (.slice (some ⟨b2, o2, none⟩) L.length xc) _ L W h1 h2 hsub
                      rw [HXN.out] at HW r2
                      generalize (MM.getD y []).length = YN at *
                      generalize MM.getD y [] = LY at *
                      have hg3 := Nat.lt_of_lt_of_le hgI hB2.size
                      have hg1 := Nat.lt_of_lt_of_le hb1 hB2.size
                      have hg4 := Nat.lt_of_lt_of_le hb3 hB2.size
                      clear hcell3 hcb hy0 hy hsub gy ry
                      go_wp2_with fail
                      go_region_held3 (fun W => W.cell? ⟨gI, i, none⟩ = some (.slice (some ⟨b2, o2, none⟩) XN xc) ∧ W.cell? ⟨b1, o1 + i * 2, none⟩ = some (.slice (some ⟨b3, o3, none⟩) BN bc) ∧ W.cell? ⟨b3, o3 + z, none⟩ = some (.int .i64 (y : Int)) ∧ W.cell? ⟨gI, y, none⟩ = some (.slice ya YN yc)) (go_keep) ((go_at_call 35; refine (HW _ r1.drew r2.drew).mono ?_; rintro e w8 ⟨rfl, hB8⟩; have y0 := (hB8.cell (p := ⟨gI, i, none⟩) hg3).trans e0; have y1 := (hB8.cell (p := ⟨b1, o1 + i * 2, none⟩) hg1).trans e1; have y2 := (hB8.cell (p := ⟨b3, o3 + z, none⟩) hg4).trans e3; have y3 := (hB8.cell (p := ⟨gI, y, none⟩) hg3).trans e4))
                      all_goals
                        go_wp2
                        go_roundw
                        case rel => exact ⟨z + 1, by omega, by go_num, hB2.drew.trans (hB8.mono hB2.size)⟩
                        case measure => simp [intOf]; omega
                    · obtain rfl : BN = z := by omega
                      have hzi : ¬ (BN : Int) < (BN : Int) := by omega
                      go_wp2_with fail
                      go_roundw
                      case rel => exact ⟨i + 1, by omega, by go_num, hB2⟩
                      case measure => simp [intOf]; omega
            · obtain rfl : i = CN := by omega
              have hii : ¬ (i : Int) < (i : Int) := by omega
              go_wp2_with fail
              go_ret
              exact ⟨rfl, V5.trans (hB.mono V5.size)⟩
  · rw [dec_false hok]
    have hfits : fitsC cs = [] := by unfold fitsC; rw [dec_false hok]; rfl
    have hmro : mroA cs = ([], -2) := by unfold mroA; rw [dec_false hok]; rfl
    rw [hfits, hmro]
    simp only [List.length_nil]
    clear hfits hmro hok
    go_wp2_with fail
    go_ret
    exact ⟨rfl, V5⟩
end Go.Proofs.Ytfbibbjiomfncaa
