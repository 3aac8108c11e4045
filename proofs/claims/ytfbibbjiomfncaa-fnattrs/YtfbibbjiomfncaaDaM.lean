import Derived.Test.YtfbibbjiomfncaaDaL
namespace Go.Proofs.Ytfbibbjiomfncaa
open Go.RowKit Go.Lib
set_option linter.unusedVariables false
set_option linter.unusedSimpArgs false

/-- The last of a name among the first ones: its place, or -1. -/
def LastP (xs : List At) (s : ByteArray) (k : Nat) (r : Int) : Prop := (r = -1 ∧ ∀ x ∈ xs.take k, x.n ≠ s) ∨ ∃ (i : Nat) (hi : i < xs.length), r = (i : Int) ∧ xs[i].n = s
theorem LastP.next {xs : List At} {s : ByteArray} {k : Nat} {r : Int} (h : LastP xs s k r) (hk : k < xs.length) : LastP xs s (k + 1) (if xs[k].n = s then (k : Int) else r) := by
  by_cases e : xs[k].n = s
  · rw [if_pos e]; exact .inr ⟨k, hk, rfl, e⟩
  · rw [if_neg e]
    rcases h with ⟨rfl, h⟩ | h
    · refine .inl ⟨rfl, fun x hx => ?_⟩
      rw [List.take_succ_eq_append_getElem hk] at hx
      rcases List.mem_append.mp hx with g | g
      · exact h x g
      · simp at g; subst g; exact e
    · exact .inr h
theorem LastP.find {xs : List At} {s : ByteArray} {r : Int} (h : LastP xs s xs.length r) (hn : (xs.map At.n).Nodup) : (r = -1 ∧ xs.find? (fun x => decide (x.n = s)) = none) ∨ ∃ (i : Nat) (hi : i < xs.length), r = (i : Int) ∧ xs.find? (fun x => decide (x.n = s)) = some xs[i] := by
  rcases h with ⟨rfl, h⟩ | ⟨i, hi, rfl, h⟩
  · refine .inl ⟨rfl, ?_⟩
    rw [List.take_length] at h
    rw [List.find?_eq_none]; intro x hx; simpa using h x hx
  · exact .inr ⟨i, hi, rfl, find_uniq i hi hn h⟩

set_option maxRecDepth 100000 in
set_option maxHeartbeats 4000000 in
theorem law_attrs (a : Option Addr) (n c : Nat) (bs : List Int) (w : World) (hn : n ≤ 9223372036854775807) (h : n ≤ 1048576 → Src w a n c bs) :
    Calls Try.prog 9 #[.slice a n c] w fun e w' => e = .returned (.bool true) ∧ Below w.heap.size w w' := by
  go_enter Try.func9, Try.ntmps9
  go_wp2_with fail
  refine (big_any w a n c).mono ?_
  rintro e w1 ⟨rfl, rfl⟩
  by_cases hb : (1048576 : Int) < (n : Int)
  · rw [decide_eq_true hb]
    go_wp2
    go_ret
    exact ⟨rfl, Below.refl _ _⟩
  rw [decide_eq_false hb]
  have hs := h (by omega)
  clear h hb
  go_wp2_with fail
  refine (drawAG_any _ a n c bs hs).mono ?_
  rintro e w2 ⟨u, cs, cl, v, own, s, rfl, hC, hcl, hclb, hA, hol, hss, V2⟩
  obtain ⟨va, vc, ev⟩ := hC.form
  subst ev
  obtain ⟨oa, oc, eo⟩ := hA.form
  subst eo
  have hc0 : -9223372036854775808 ≤ cl := by omega
  have hc1 : cl < 9223372036854775808 := by omega
  clear hs
  go_wp2_with fail
  refine (attrGetI_any _ _ cs cl own s _ hC hA hc0 hc1).mono ?_
  rintro e w3 ⟨rfl, hB3⟩
  have V3 := V2.trans (hB3.mono V2.size)
  go_wp2_with fail
  refine (attrSetI_any _ _ cs cl own s _ (hC.keep hB3) (hA.keep hB3) hc0 hc1).mono ?_
  rintro e w4 ⟨rfl, hB4⟩
  have V4 := V3.trans (hB4.mono V3.size)
  have hB24 := hB3.trans (hB4.mono hB3.size)
  go_wp2_with fail
  refine (attrGetS_any _ _ cs cl own s _ (hC.keep hB24) (hA.keep hB24) hc0 hc1).mono ?_
  rintro e w5 ⟨rfl, hB5⟩
  have V5 := V4.trans (hB5.mono V4.size)
  have hB25 := hB24.trans (hB5.mono hB24.size)
  have C5 := hC.keep hB25
  have A5 := hA.keep hB25
  clear hC hA hB3 hB4 hB5 hB24 hB25 V2 V3 V4 hc0 hc1
  by_cases hok : ArgOk cs cl own ∧ lnAt cs cl ≠ []
  · have hA1 := aget_eq s hok
    have hS1 : asetA cs cl own s = if (fstO cs s (lnAt cs cl)).map At.k = some 1 then 2 else 1 := by
      unfold asetA; rw [dec_true hok]; simp only [if_true, frst_k cs s (lnAt cs cl) 1 (by omega)]
    obtain ⟨A1, A2, hAA⟩ : ∃ A1 A2, agetA cs cl own s = (A1, A2) := ⟨_, _, rfl⟩
    rw [hAA] at hA1 ⊢
    obtain ⟨SS, hSS⟩ : ∃ SS, asetA cs cl own s = SS := ⟨_, rfl⟩
    rw [hSS] at hS1 ⊢
    have hlb := lnAt_b hok.1
    obtain ⟨y, rfl⟩ : ∃ y : Nat, cl = (y : Int) := ⟨cl.toNat, by have := hok.1.2.1; omega⟩
    have hyl : y < cs.length := by have := hok.1.2.2.1; omega
    have HOK : Hid (ArgOk cs (y : Int) own ∧ lnAt cs (y : Int) ≠ []) := hok
    have HA1 : Hid _ := hA1
    have HS1 : Hid _ := hS1
    have HLB : Hid _ := hlb
    have hA1n : ¬ A1 = -1 := by
      have := congrArg Prod.fst hA1
      simp only at this
      rw [this]
      unfold getO
      split <;> (repeat' split) <;> simp
    have hA1b : (A1 == -1) = false := by simp [hA1n]
    have hAAb : (A1 == A1) = true := by simp
    clear hAA hSS hA1 hS1 hlb hok hA1n
    obtain ⟨CN, hCN⟩ : ∃ CN, cs.length = CN := ⟨_, rfl⟩
    have HCN : Hid (cs.length = CN) := hCN
    have HCU : Hid ((cs.take (y + 1)).length = y + 1) := by show _ = _; simp; omega
    have hru := C5.upto (y + 1) (by omega)
    have hcap : cs.length ≤ vc := by
      obtain ⟨ps, ⟨a', c', e, _, _, hn, _⟩, h2, _⟩ := C5
      simp only [Value.slice.injEq] at e
      obtain ⟨-, -, rfl⟩ := e
      omega
    have hL0 : (lnsC (cs.take (y + 1)) (y + 1)).getD y [] = lnAt cs (y : Int) := by
      rw [lns_take cs (y + 1) (y + 1) (Nat.le_refl _) (by omega), ← lns_pre cs y cs.length hyl]
      simp [lnAt]
    have HOU : Hid (OkCs (cs.take (y + 1))) := HOK.out.1.1.take (y + 1)
    have HM := mroI_any _ (cs.take (y + 1)) w5 hru
    have hMA : mroA (cs.take (y + 1)) = match badL (lnsC (cs.take (y + 1)) (y + 1)) with | some k => ([], (k : Int)) | none => (lnsC (cs.take (y + 1)) (y + 1), -1) := by
      unfold mroA; rw [dec_true HOU.out, HCU.out]; rfl
    have hLl : (lnsC (cs.take (y + 1)) (y + 1)).length = y + 1 := lns_len _ _
    generalize lnsC (cs.take (y + 1)) (y + 1) = Ls at *
    have HLl : Hid (Ls.length = y + 1) := hLl
    have HL0 : Hid (Ls.getD y [] = lnAt cs (y : Int)) := hL0
    have hg1 : (y : Int) + 1 ≤ (CN : Int) := by omega
    have hg2 : (y : Int) + 1 ≤ (vc : Int) := by omega
    have hw1 : IntKind.i64.wrap ((y : Int) + 1) = (y : Int) + 1 := by rw [IntKind.wrap_i64]; omega
    have hCNb : CN ≤ 201 := by omega
    rw [hCN] at C5 hcl ⊢
    cases hbd : badL Ls with
    | some q =>
      obtain ⟨hq, hqe⟩ := bad_some' Ls q hbd
      have hqy : q ≠ y := fun e => by
        subst e
        have := HL0.out
        simp only [List.getD, hq, List.getElem?_eq_getElem, Option.getD_some] at this
        rw [hqe] at this
        exact HOK.out.2 this.symm
      rw [hbd] at hMA
      rw [hMA] at HM
      simp only at HM
      have hq0 : (0 : Int) ≤ (q : Int) := by omega
      have hqb : ((q : Int) == (y : Int)) = false := by rw [beq_eq_false_iff_ne]; omega
      have hqn : ¬ (q : Int) = (y : Int) := by omega
      clear hMA hbd hq hqe hru hLl hL0 hcap hCN hclb hqy
      go_wp2_with fail
      refine HM.mono ?_
      rintro e w6 ⟨gI, nI, cI, rfl, -, hB6⟩
      go_wp2_with fail
      go_ret
      exact ⟨rfl, V5.trans (hB6.mono V5.size)⟩
    | none =>
      rw [hbd] at hMA
      rw [hMA] at HM
      simp only at HM
      clear hMA hbd hru hLl hL0 hcap hCN hclb
      go_wp2_with fail
      refine HM.mono ?_
      rintro e w6 ⟨gI, nI, cI, rfl, ⟨sls, hLO⟩, hB6⟩
      have hnI := hLO.n
      rw [HLl.out] at hnI
      subst hnI
      have V6 := V5.trans (hB6.mono V5.size)
      have C6 := C5.keep hB6
      have A6 := A5.keep hB6
      obtain ⟨xa, xc, d0, hrx⟩ := LL.at hLO.ln y (by rw [HLl.out]; omega)
      have hln : Ls[y]'(by rw [HLl.out]; omega) = lnAt cs (y : Int) := by rw [← HL0.out]; simp [List.getD, HLl.out]
      rw [hln] at d0 hrx
      have hrm := hrx.1.max
      have hRl := hrx.1
      generalize hLN : lnAt cs (y : Int) = LN at *
      obtain ⟨XN, hXN⟩ : ∃ XN, LN.length = XN := ⟨_, rfl⟩
      have HXN : Hid (LN.length = XN) := hXN
      rw [hXN] at d0 hRl hrm
      have hX1 : 1 ≤ XN := by rw [← hXN]; exact List.length_pos_iff.mpr HOK.out.2
      have hyi : (y : Int) < (y : Int) + 1 := by omega
      have hyb : ((y : Int) + 1 == (y : Int) + 1) = true := by simp
      have wX : IntKind.i64.wrap ((XN : Int) - 1) = (XN : Int) - 1 := by rw [IntKind.wrap_i64]; omega
      clear hLN hln hrx hXN HM hLO
      have B0 := Bx3.new w6 ⟨⟨#[]⟩, -1, 0⟩ 58
      have bB : Below w6.heap.size w6 (w6.alloc (.cells #[.string ⟨#[]⟩, .int .i64 (-1), .int .i64 0] 58)) := (Below.refl _ w6).alloc (Nat.le_refl _) _
      have d0' := (bB.cell (p := ⟨gI, y, none⟩) (World.block_lt_of_cell? w6 _ d0)).trans d0
      have hgI : gI < w6.heap.size := World.block_lt_of_cell? w6 _ d0
      go_wp2_with fail
      obtain ⟨a2, cap2, e2, hl2, hz2, hn2, hc2⟩ := hRl
      simp only [Value.slice.injEq] at e2
      obtain ⟨rfl, -, rfl⟩ := e2
      obtain ⟨b2, off2, rfl, hb2, hcell2⟩ := hc2 (by rw [HXN.out]; omega)
      obtain ⟨ps, ⟨a1, cap1, e1, hl1, hz1, hn1, hc1⟩, hpl, hK⟩ := C6
      simp only [Value.slice.injEq] at e1
      obtain ⟨rfl, hPN, rfl⟩ := e1
      have HPN : Hid (CN = ps.length) := hPN
      obtain ⟨b1, off1, rfl, hb1, hcell1⟩ := hc1 (by omega)
      have HPL : Hid (ps.length = cs.length) := hpl
      have Hc1 : Hid _ := hcell1
      have Hc2 : Hid _ := hcell2
      have HK : Hid _ := hK
      clear hc2 hz2 hn2 hl2 hl1 hz1 hn1 hc1 hpl hK hPN hcell1 hcell2 d0' C5 A5
      generalize w6.alloc (.cells #[.string ⟨#[]⟩, .int .i64 (-1), .int .i64 0] 58) = WB at *
      go_loopw [15] (fun i wr => ∃ m : Nat, m ≤ XN ∧ i = .int .i64 ((m : Int) - 1) ∧ Bx3 wr w6.heap.size (crs cs s (LN.drop m)) ∧ Below w6.heap.size w6 wr) (fun i _ => (intOf i + 1).toNat)
      case atStart => exact ⟨XN, Nat.le_refl _, rfl, by rw [← HXN.out, List.drop_length]; exact B0, bB⟩
      case round =>
        obtain ⟨m, hm, rfl, hBx, hB⟩ := hrel
        clear B0 bB
        generalize wr = W1 at *
        have hz1 := hB.size
        by_cases hlt : 0 < m
        · obtain ⟨j, rfl⟩ : ∃ j, m = j + 1 := ⟨m - 1, by omega⟩
          have e1 : ((j + 1 : Nat) : Int) - 1 = (j : Int) := by omega
          rw [e1]
          have hj0 : (0 : Int) ≤ (j : Int) := by omega
          have hjX : (j : Int) < (XN : Int) := by omega
          have hjl : j < LN.length := by rw [HXN.out]; omega
          have dW := (hB.cell (p := ⟨gI, y, none⟩) hgI).trans d0
          have dL := (hB.cell (p := ⟨b2, off2 + j, none⟩) hb2).trans (Hc2.out j hjl)
          have hgd : LN.getD j 0 = LN[j] := by simp [List.getD, hjl]
          rw [hgd] at dL
          obtain ⟨hz0, hzb⟩ := HLB.out LN[j] (List.getElem_mem hjl)
          obtain ⟨z, hz⟩ : ∃ z : Nat, LN[j] = (z : Int) := ⟨LN[j].toNat, by omega⟩
          rw [hz] at dL hzb
          have hzc : z < cs.length := by omega
          have hzp : z < ps.length := by rw [HPL.out]; exact hzc
          have d1 := (RdP.at (fun k hk j hj => (hB.cell (p := ⟨b1, _, none⟩) hb1).trans (Hc1.out k hk j hj)) z hzp).2
          have hRy := (HK.out z hzp hzc).2
          have hdr : LN.drop j = (z : Int) :: LN.drop (j + 1) := by rw [List.drop_eq_getElem_cons hjl, hz]
          have hcz : cs.getD z ⟨[], []⟩ = cs[z] := by simp [List.getD, hzc]
          have hFs : crs cs s (LN.drop j) = lastN s (crs cs s (LN.drop (j + 1))) cs[z].a := by rw [hdr]; simp only [crs, Int.toNat_natCast, hcz]
          have HFs : Hid _ := hFs
          have hzi : (z : Int) < (CN : Int) := by have := HPN.out; omega
          generalize ps[z].s2 = sv at *
          obtain ⟨sa, sc, es⟩ := hRy.form
          subst es
          generalize cs[z].a = ats at *
          generalize crs cs s (LN.drop (j + 1)) = D at *
          clear hFs hdr hcz hz hgd hz0 hzb hzc hzp
          go_wp2_with fail
          go_loopw [17] (fun i wr => ∃ k : Nat, k ≤ ats.length ∧ i = .int .i64 k ∧ Bx3 wr w6.heap.size (lastN s D (ats.take k)) ∧ Below w6.heap.size w6 wr) (fun i _ => ats.length - (intOf i).toNat)
          case atStart => exact ⟨0, Nat.zero_le _, rfl, by simpa [lastN] using hBx, hB⟩
          case round =>
            obtain ⟨k, hk, rfl, hBk, hBB⟩ := hrel
            clear hBx hB dW dL d1 hz1
            generalize wr = W2 at *
            have hz2 := hBB.size
            by_cases hkl : k < ats.length
            · have hki : (k : Int) < (ats.length : Int) := by omega
              obtain ⟨ra, rc, er, _, hzr, _, hcr⟩ := hRy
              simp only [Value.slice.injEq, true_and] at er
              obtain ⟨er1, er2⟩ := er
              subst er1 er2
              obtain ⟨ab, ao, rfl, hab, hac⟩ := hcr (by omega)
              obtain ⟨c0, c1, c2⟩ := RdA.at (fun k hk j hj => (hBB.cell (p := ⟨ab, _, none⟩) hab).trans (hac k hk j hj)) k hkl
              have htk := List.take_succ_eq_append_getElem hkl
              have Htk : Hid _ := htk
              generalize hE : ats[k] = E at *
              obtain ⟨En, Ek, Ev⟩ := E
              simp only at c0 c1 c2
              obtain ⟨qz, q0, q1, q2, qf⟩ := id hBk
              have f0 := qf 0
              have f1 := qf 1
              have f2 := qf 2
              clear htk hac hcr hzr qf
              by_cases hs : En = s
              · have hsb : (En.toList == s.toList) = true := by simp [hs]
                go_wp2_with fail
                go_roundw
                case rel => exact ⟨k + 1, by omega, by go_num, by rw [Htk.out, lastN_snoc, if_pos hs, hs]; exact hBk.set ⟨s, Ek, Ev⟩, ((hBB.setCell (Nat.le_refl _) _).setCell (Nat.le_refl _) _).setCell (Nat.le_refl _) _⟩
                case measure => simp [intOf]; omega
              · have hsb := str_ne hs
                go_wp2_with fail
                go_roundw
                case rel => exact ⟨k + 1, by omega, by go_num, by rw [Htk.out, lastN_snoc, if_neg hs]; exact hBk, hBB⟩
                case measure => simp [intOf]; omega
            · obtain rfl : k = ats.length := by omega
              have hki : ¬ (ats.length : Int) < (ats.length : Int) := by omega
              rw [List.take_length, ← HFs.out] at hBk
              go_wp2_with fail
              go_roundw
              case rel => exact ⟨j, by omega, by go_num, hBk, hBB⟩
              case measure => simp [intOf]
        · obtain rfl : m = 0 := by omega
          have hFn : crs cs s (LN.drop 0) = (fstO cs s LN).getD ⟨⟨#[]⟩, -1, 0⟩ := by
            rw [List.drop_zero, crs_frst HOK.out.1.1 s LN HLB.out, frst_eq]
          rw [hFn] at hBx
          have e0 : ((0 : Nat) : Int) - 1 = -1 := by omega
          rw [e0]
          clear hFn
          generalize fstO cs s LN = FO at *
          have hNd := HOK.out.1.2.2.2.2
          have V1 := V6.trans (hB.mono V6.size)
          go_wp2_with fail
          go_loopw [18, 19] (fun mv i wr => ∃ (k : Nat) (r : Int), k ≤ own.length ∧ i = .int .i64 k ∧ mv = .int .i64 r ∧ Hid (LastP own s k r) ∧ wr = W1) (fun _ i _ => own.length - (intOf i).toNat)
          case atStart => exact ⟨0, -1, Nat.zero_le _, rfl, rfl, .inl ⟨rfl, fun x hx => by simp at hx⟩, rfl⟩
          case round =>
            obtain ⟨k, r, hk, rfl, rfl, hP, hw⟩ := hrel
            have hw' := hw.symm
            subst hw'
            by_cases hkl : k < own.length
            · have hki : (k : Int) < (own.length : Int) := by omega
              obtain ⟨ra, rc, er, _, hzr, _, hcr⟩ := A6
              simp only [Value.slice.injEq, true_and] at er
              obtain ⟨er1, er2⟩ := er
              subst er1 er2
              obtain ⟨ab, ao, rfl, hab, hac⟩ := hcr (by omega)
              obtain ⟨c0, c1, c2⟩ := RdA.at (fun k hk j hj => (hB.cell (p := ⟨ab, _, none⟩) hab).trans (hac k hk j hj)) k hkl
              have hL2 := LastP.next hP.out hkl
              have HL2 : Hid _ := hL2
              generalize hE : own[k] = E at *
              obtain ⟨En, Ek, Ev⟩ := E
              simp only at c0 c1 c2
              clear hac hcr hzr hL2
              by_cases hs : En = s
              · have hsb : (En.toList == s.toList) = true := by simp [hs]
                have HL3 : Hid (LastP own s (k + 1) (k : Int)) := by have g : LastP own s (k + 1) (if En = s then (k : Int) else r) := HL2.out; rw [if_pos hs] at g; exact g
                go_wp2_with fail
                go_roundw
                case rel => exact ⟨k + 1, k, by omega, by go_num, rfl, HL3, by trivial⟩
                case measure => simp [intOf]; omega
              · have hsb := str_ne hs
                have HL3 : Hid (LastP own s (k + 1) r) := by have g : LastP own s (k + 1) (if En = s then (k : Int) else r) := HL2.out; rw [if_neg hs] at g; exact g
                go_wp2_with fail
                go_roundw
                case rel => exact ⟨k + 1, r, by omega, by go_num, rfl, HL3, by trivial⟩
                case measure => simp [intOf]; omega
            · obtain rfl : k = own.length := by omega
              have hki : ¬ (own.length : Int) < (own.length : Int) := by omega
              have hF := LastP.find hP.out hNd
              obtain ⟨qz, q0, q1, q2, qf⟩ := hBx
              clear hP hNd HOK
              rcases FO with _ | ⟨xn, xk, xv⟩
              · simp only [Option.getD_none] at q0 q1 q2
                have hS := HS1.out
                simp at hS
                subst hS
                rcases hF with ⟨rfl, hf⟩ | ⟨i, hi, rfl, hf⟩
                · have h0 := HA1.out
                  rw [hf] at h0
                  simp only [getO, Prod.mk.injEq] at h0
                  obtain ⟨rfl, rfl⟩ := h0
                  go_wp2_with fail
                  go_ret
                  exact ⟨rfl, V1⟩
                · have h0 := HA1.out
                  rw [hf] at h0
                  simp only [getO, Prod.mk.injEq] at h0
                  obtain ⟨rfl, rfl⟩ := h0
                  obtain ⟨ra, rc, er, _, hzr, _, hcr⟩ := A6
                  simp only [Value.slice.injEq, true_and] at er
                  obtain ⟨er1, er2⟩ := er
                  subst er1 er2
                  obtain ⟨ab, ao, rfl, hab, hac⟩ := hcr (by omega)
                  obtain ⟨c0, c1, c2⟩ := RdA.at (fun k hk j hj => (hB.cell (p := ⟨ab, _, none⟩) hab).trans (hac k hk j hj)) i hi
                  have hi0 : (0 : Int) ≤ (i : Int) := by omega
                  have hii : (i : Int) < (own.length : Int) := by omega
                  clear hac hcr hzr
                  generalize own[i] = E at *
                  go_wp2_with fail
                  go_ret
                  exact ⟨rfl, V1⟩
              · simp only [Option.getD_some] at q0 q1 q2
                have hS := HS1.out
                simp only [Option.map_some, Option.some.injEq] at hS
                have h0 := HA1.out
                by_cases hk1 : xk = 1
                · subst hk1
                  simp only [if_true] at hS
                  subst hS
                  rcases hF with ⟨rfl, hf⟩ | ⟨i, hi, rfl, hf⟩
                  · rw [hf] at h0
                    simp only [getO, if_true, Prod.mk.injEq] at h0
                    obtain ⟨rfl, rfl⟩ := h0
                    go_wp2_with fail
                    go_ret
                    exact ⟨rfl, V1⟩
                  · rw [hf] at h0
                    simp only [getO, if_true, Prod.mk.injEq] at h0
                    obtain ⟨rfl, rfl⟩ := h0
                    go_wp2_with fail
                    go_ret
                    exact ⟨rfl, V1⟩
                · rw [if_neg hk1] at hS
                  subst hS
                  have hk1b : (xk == 1) = false := by simp [hk1]
                  rcases hF with ⟨rfl, hf⟩ | ⟨i, hi, rfl, hf⟩
                  · rw [hf] at h0
                    simp only [getO, if_neg hk1] at h0
                    by_cases hk2 : xk = 2
                    · subst hk2
                      simp only [if_true, Prod.mk.injEq] at h0
                      obtain ⟨rfl, rfl⟩ := h0
                      go_wp2_with fail
                      go_ret
                      exact ⟨rfl, V1⟩
                    · have hk2b : (xk == 2) = false := by simp [hk2]
                      rw [if_neg hk2] at h0
                      by_cases hk3 : xk = 0
                      · subst hk3
                        simp only [if_true, Prod.mk.injEq] at h0
                        obtain ⟨rfl, rfl⟩ := h0
                        go_wp2_with fail
                        go_ret
                        exact ⟨rfl, V1⟩
                      · have hk3b : (xk == 0) = false := by simp [hk3]
                        rw [if_neg hk3] at h0
                        simp only [Prod.mk.injEq] at h0
                        obtain ⟨rfl, rfl⟩ := h0
                        go_wp2_with fail
                        go_ret
                        exact ⟨rfl, V1⟩
                  · rw [hf] at h0
                    simp only [getO, if_neg hk1, Prod.mk.injEq] at h0
                    obtain ⟨rfl, rfl⟩ := h0
                    obtain ⟨ra, rc, er, _, hzr, _, hcr⟩ := A6
                    simp only [Value.slice.injEq, true_and] at er
                    obtain ⟨er1, er2⟩ := er
                    subst er1 er2
                    obtain ⟨ab, ao, rfl, hab, hac⟩ := hcr (by omega)
                    obtain ⟨c0, c1, c2⟩ := RdA.at (fun k hk j hj => (hB.cell (p := ⟨ab, _, none⟩) hab).trans (hac k hk j hj)) i hi
                    have hi0 : (0 : Int) ≤ (i : Int) := by omega
                    have hii : (i : Int) < (own.length : Int) := by omega
                    clear hac hcr hzr
                    generalize own[i] = E at *
                    go_wp2_with fail
                    go_ret
                    exact ⟨rfl, V1⟩
  · have hA1 : agetA cs cl own s = (-1, 0) := by unfold agetA; rw [dec_false hok]; rfl
    have hS1 : asetA cs cl own s = -1 := by unfold asetA; rw [dec_false hok]; rfl
    rw [hA1, hS1]
    clear hA1 hS1 hok
    go_wp2_with fail
    go_ret
    exact ⟨rfl, V5⟩
end Go.Proofs.Ytfbibbjiomfncaa
