import Derived.Test.YtjnalkeopehlbaaGfK
import Derived.Test.YtjnalkeopehlbaaGfD
import Derived.Deep.Cut
namespace Go.Proofs.Ytjnalkeopehlbaa
open Go.RowKit Go.Maps
set_option linter.unusedVariables false
set_option linter.unusedSimpArgs false

theorem nw_take (D : List Gp) (k : Nat) (hk : k < D.length) : nwC (D.take (k + 1)) = nwC (D.take k) + oneIf (decide (D[k].c = 1)) := by
  rw [List.take_succ_eq_append_getElem hk, nwC_app, nwC_one]
theorem nw_le (D : List Gp) : nwC D ≤ D.length := by unfold nwC; exact List.length_filter_le _ _
def prG (D : List Gp) (M : Nat) : Nat → List Gp
  | 0 => D
  | r + 1 => prG D M r ++ rnd M
theorem prG_len (D : List Gp) (M : Nat) : ∀ r, (prG D M r).length = D.length + r * (6 * M + 1)
  | 0 => by rw [Nat.zero_mul]; rfl
  | r + 1 => by
    show (prG D M r ++ rnd M).length = _
    rw [List.length_append, prG_len D M r, rnd_len]
    have h5 : (r + 1) * (6 * M + 1) = r * (6 * M + 1) + (6 * M + 1) := Nat.succ_mul r (6 * M + 1)
    omega
theorem uO_succ (j : Nat) : uO (j + 1) = uO j ++ List.replicate 6 (opU ((j : Int) + 1)) := by
  unfold uO
  rw [unl_succ, List.map_append, List.map_replicate]
  rfl
theorem evL_get (l : List (Nat × Nat)) (k : Nat) (h : k < (evL l).length) (h2 : k < l.length) : (evL l)[k] = ⟨((l[k].1 : Nat) : Int), ((l[k].2 : Nat) : Int)⟩ := by
  have h3 : (evL l)[k]? = some ⟨((l[k].1 : Nat) : Int), ((l[k].2 : Nat) : Int)⟩ := by
    unfold evL
    rw [List.getElem?_map, List.getElem?_eq_getElem h2]
    rfl
  rw [List.getElem?_eq_getElem h] at h3
  exact Option.some.inj h3
theorem st_last (B : List Gp) : stA (B ++ [opA]) B.length = rnG gs0 B := by rw [rnG_stA, List.take_append_of_le_length (Nat.le_refl _), List.take_length]
theorem ans_last (B : List Gp) : ansA' (B ++ [opA]) B.length = (alv (rnG gs0 B) : Int) := by
  unfold ansA'
  have e1 : (B ++ [opA]).getD B.length ⟨0, 0, 0⟩ = opA := by rw [List.getD, List.getElem?_append_right (Nat.le_refl _)]; simp
  rw [e1, st_last]
  unfold gstep opA
  simp
theorem ev_last (B : List Gp) : stA (B ++ [opA]) (B.length + 1) = rnG gs0 B := by
  have h : stA (B ++ [opA]) (B.length + 1) = rnG gs0 (B ++ [opA]) := by rw [rnG_stA, List.take_of_length_le (by simp)]
  rw [h, rnG_app, rnG_one]
  unfold gstep opA
  simp
theorem two_runs (B : List Gp) (QL : Nat) (hq : B.length = QL) (hl : QL + 1 ≤ 2000) : (ansG (B ++ [opA])).length = QL + 1 ∧ (ansG (B ++ [opA])).getD QL 0 = (alv (rnG gs0 B) : Int) ∧ evG (B ++ [opA]) = evL (rnG gs0 B).ev := by
  subst hq
  have h1 : (B ++ [opA]).length = B.length + 1 := by simp
  unfold ansG evG
  rw [if_pos (by omega), if_pos (by omega), h1, outA_len, ev_last]
  refine ⟨rfl, ?_, rfl⟩
  rw [← ans_last]
  unfold outA
  simp [List.getD]
set_option maxRecDepth 100000 in
set_option maxHeartbeats 4000000 in
theorem law_freed (a : Option Addr) (n c : Nat) (bs : List Int) (w : World) (hn : n ≤ 9223372036854775807) (hsrc : n ≤ 1048576 → Src w a n c bs) :
    Calls Try.prog 6 #[.slice a n c] w fun e w' => e = .returned (.bool true) ∧ Below w.heap.size w w' := by
  have hBig := big_any w a n c
  by_cases hbig : (1048576 : Int) < (n : Int)
  · rw [decide_eq_true hbig] at hBig
    go_enter Try.func6, Try.ntmps6
    go_wp2_with fail
    refine hBig.mono ?_
    rintro e w ⟨rfl, rfl⟩
    go_wp2
    go_ret
    exact ⟨rfl, Below.refl _ _⟩
  · rw [decide_eq_false hbig] at hBig
    have hDr := drawGN_any w a n c bs (hsrc (by omega))
    clear hsrc
    go_enter Try.func6, Try.ntmps6
    go_wp2_with fail
    refine hBig.mono ?_
    rintro e w ⟨rfl, rfl⟩
    clear hBig
    go_wp2_with fail
    refine hDr.mono ?_
    rintro e w2 ⟨D0, a1, c1, rfl, hD0, O0, b2⟩
    clear hDr
    obtain ⟨L0, hL0⟩ : ∃ L0, D0.length = L0 := ⟨_, rfl⟩
    have HL0 : Hid (D0.length = L0) := hL0
    rw [hL0] at O0 hD0
    simp only [hL0]
    have HO0 : Hid (OwnG shGo 45 w2 w.heap.size (.slice a1 L0 c1) D0) := O0
    clear hL0 O0
    go_upto_if 27 with fail
    go_cut [3] from 21 (fun s wc => ∃ (D : List Gp) (a2 : Option Addr) (DL c2 : Nat), s = .slice a2 DL c2 ∧ Hid (D.length = DL) ∧ DL ≤ 200 ∧ OwnG shGo 45 wc w.heap.size (.slice a2 DL c2) D ∧ wc = w2)
    case first =>
      by_cases h200 : 200 < L0
      · have h200i : (200 : Int) < (L0 : Int) := by omega
        obtain ⟨g, hg, hcap⟩ : ∃ g, a1 = some ⟨g, 0, none⟩ ∧ L0 ≤ c1 := by
          rcases HO0.out.shape with ⟨e1, e2⟩ | ⟨g, cp, e1, _, _, e2⟩
          · have := HL0.out; rw [e2] at this; simp at this; omega
          · simp only [Value.slice.injEq] at e1
            exact ⟨g, e1.1, by have := e1.2.1; have := e1.2.2; have := HL0.out; omega⟩
        subst hg
        have hU := HO0.out.upto 200 (by rw [HL0.out]; omega)
        have HU : Hid (OwnG shGo 45 w2 w.heap.size (.slice (some ⟨g, 0, none⟩) 200 c1) (D0.take 200)) := hU
        have HTL : Hid ((D0.take 200).length = 200) := by show _ = _; rw [List.length_take, HL0.out]; omega
        clear hU
        go_wp2_with fail
        all_goals go_meet
        all_goals exact ⟨D0.take 200, some ⟨g, 0, none⟩, 200, c1, rfl, HTL, Nat.le_refl _, HU.out, rfl⟩
      · have h200i : ¬ (200 : Int) < (L0 : Int) := by omega
        go_wp2_with fail
        all_goals go_meet
        all_goals exact ⟨D0, a1, L0, c1, rfl, HL0, by omega, HO0.out, rfl⟩
    case rest =>
      obtain ⟨D, a2, DL, c2, rfl, HDL, hDL, oD, rfl⟩ := hcut
      clear HO0 HL0 hD0
      generalize wc = W0 at *
      obtain ⟨va, vc, hv1, hv2, hv3, hv4, hv5⟩ := oD.rd
      obtain ⟨M, hM⟩ : ∃ M, nwC D = M := ⟨_, rfl⟩
      have HM : Hid (nwC D = M) := hM
      have hMb : M ≤ 200 := by have := nw_le D; rw [HDL.out] at this; omega
      have HV5 : Hid (0 < D.length → ∃ b off, va = some ⟨b, off, none⟩ ∧ b < W0.heap.size ∧ ∀ k (hk : k < D.length) j, j < shGo.n → W0.cell? ⟨b, off + k * shGo.n + j, none⟩ = (shGo.cs D[k])[j]?) := hv5
      obtain rfl : a2 = va := by simp only [Value.slice.injEq] at hv1; exact hv1.1
      have HOD : Hid (OwnG shGo 45 W0 w.heap.size (.slice a2 DL c2) D) := oD
      have HB0 : Hid (Below w.heap.size w W0) := b2
      have hzw := b2.size
      clear hv1 hv2 hv3 hv4 hv5 oD b2 hM
      go_wp2_with fail
      go_loopw [4, 5] (fun m i wr => ∃ k : Nat, k ≤ DL ∧ i = .int .i64 k ∧ m = .int .i64 (nwC (D.take k) : Nat) ∧ wr = W0) (fun _ i _ => DL - (intOf i).toNat)
      case atStart => exact ⟨0, Nat.zero_le _, rfl, rfl, rfl⟩
      case round =>
        obtain ⟨k, hk, rfl, rfl, rfl⟩ := hrel
        have hnk : nwC (D.take k) ≤ 200 := by have := nw_le (D.take k); rw [List.length_take] at this; omega
        by_cases hkl : k < DL
        · have hkL : k < D.length := by rw [HDL.out]; exact hkl
          have hki : (k : Int) < (DL : Int) := by omega
          obtain ⟨gb, off, hv6, hgz, hgc⟩ := HV5.out (by omega)
          obtain ⟨y0, y1, y2⟩ := RdGo.at hgc k hkL
          have hN := nw_take D k hkL
          obtain ⟨EC, hEC⟩ : ∃ EC, D[k].c = EC := ⟨_, rfl⟩
          rw [hEC] at y0 hN
          obtain ⟨NK, hNK⟩ : ∃ NK, nwC (D.take k) = NK := ⟨_, rfl⟩
          rw [hNK] at hN hnk
          simp only [hNK]
          have HN : Hid (nwC (D.take (k + 1)) = NK + oneIf (decide (EC = 1))) := hN
          clear y1 y2 hgc hEC hNK hN HV5 HOD HB0
          subst hv6
          by_cases h1 : EC = 1
          · subst h1
            have hwn : IntKind.i64.wrap ((NK : Int) + 1) = (NK : Int) + 1 := wrap_small (by omega) (by omega)
            go_wp2
            go_roundw
            case rel => exact ⟨k + 1, by omega, by go_num, by rw [HN.out]; simp [oneIf], trivial⟩
            case measure => simp [intOf]; omega
          · have h1b : (EC == 1) = false := by rw [beq_eq_false_iff_ne]; exact h1
            have HE : Hid (¬ EC = 1) := h1
            clear h1
            go_wp2
            go_roundw
            case rel => exact ⟨k + 1, by omega, by go_num, by rw [HN.out, decide_eq_false HE.out]; simp [oneIf], trivial⟩
            case measure => simp [intOf]; omega
        · obtain rfl : DL = k := by omega
          have hni : ¬ ((DL : Int) < (DL : Int)) := by omega
          have hfull : nwC (D.take DL) = M := by rw [List.take_of_length_le (by rw [HDL.out]; exact Nat.le_refl _)]; exact HM.out
          simp only [hfull]
          clear hfull HV5 hnk hkl
          generalize wr = W0 at *
          go_wp2_with fail
          go_loopw [3, 6] (fun q i wr => ∃ (r QL : Nat) (a' : Option Addr) (c' : Nat), r ≤ 3 ∧ i = .int .i64 r ∧ q = .slice a' QL c' ∧ Hid ((prG D M r).length = QL) ∧ OwnG shGo 45 wr w.heap.size (.slice a' QL c') (prG D M r) ∧ Below w.heap.size w wr) (fun _ i _ => 3 - (intOf i).toNat)
          case atStart => exact ⟨0, DL, a2, c2, Nat.zero_le _, rfl, rfl, HDL, HOD.out, HB0.out⟩
          case round =>
            obtain ⟨r, QL, a3, c3, hr, rfl, rfl, HQL, oX, bX⟩ := hrel
            clear HOD HB0 hzw
            generalize wr = Q1 at *
            have hQb : QL ≤ 3803 := by
              have h5 := HQL.out
              rw [prG_len, HDL.out] at h5
              have h6 : r * (6 * M + 1) ≤ 3 * 1201 := Nat.mul_le_mul hr (by omega)
              omega
            by_cases hr3 : r < 3
            · have hr3i : (r : Int) < 3 := by omega
              obtain ⟨X, hX⟩ : ∃ X, prG D M r = X := ⟨_, rfl⟩
              have HX : Hid (prG D M r = X) := hX
              rw [hX] at oX HQL
              have HOX : Hid (OwnG shGo 45 Q1 w.heap.size (.slice a3 QL c3) X) := oX
              have HBX : Hid (Below w.heap.size w Q1) := bX
              clear hX oX bX
              go_wp2_with fail
              go_loopw [3, 7] (fun q i wr => ∃ (j QM : Nat) (a' : Option Addr) (c' : Nat), j ≤ M ∧ i = .int .i64 ((j : Int) + 1) ∧ q = .slice a' QM c' ∧ Hid (QM = QL + 6 * j) ∧ OwnG shGo 45 wr w.heap.size (.slice a' QM c') (X ++ uO j) ∧ Below w.heap.size w wr) (fun _ i _ => M + 1 - (intOf i).toNat)
              case atStart => exact ⟨0, QL, a3, c3, Nat.zero_le _, rfl, rfl, (show QL = QL + 6 * 0 by omega), by rw [show uO 0 = [] from rfl, List.append_nil]; exact HOX.out, HBX.out⟩
              case round =>
                obtain ⟨j, QM, a4, c4, hj, rfl, rfl, HQM, oY, bY⟩ := hrel
                clear HOX HBX
                generalize wr = Q2 at *
                by_cases hjM : j < M
                · have hjMi : (j : Int) + 1 ≤ (M : Int) := by omega
                  have hwj : IntKind.i64.wrap ((j : Int) + 1 + 1) = (j : Int) + 1 + 1 := wrap_small (by omega) (by omega)
                  obtain ⟨Y, hY⟩ : ∃ Y, X ++ uO j = Y := ⟨_, rfl⟩
                  have HY : Hid (X ++ uO j = Y) := hY
                  rw [hY] at oY
                  have HYL : Hid (Y.length = QM) := by show _ = _; rw [← hY, List.length_append, HQL.out, uO_len, HQM.out]
                  have hQMb : QM ≤ 6000 := by have := HQM.out; omega
                  have HOY : Hid (OwnG shGo 45 Q2 w.heap.size (.slice a4 QM c4) Y) := oY
                  have HBY : Hid (Below w.heap.size w Q2) := bY
                  clear hY oY bY
                  go_wp2_with fail
                  go_loopw [3, 8] (fun q i wr => ∃ (k : Nat) (a' : Option Addr) (c' : Nat), k ≤ 6 ∧ i = .int .i64 (k : Nat) ∧ q = .slice a' (QM + k) c' ∧ OwnG shGo 45 wr w.heap.size (.slice a' (QM + k) c') (Y ++ List.replicate k (opU ((j : Int) + 1))) ∧ Below w.heap.size w wr) (fun _ i _ => 6 - (intOf i).toNat)
                  case atStart => exact ⟨0, a4, c4, Nat.zero_le _, rfl, rfl, by simpa using HOY.out, HBY.out⟩
                  case round =>
                    obtain ⟨k, a5, c5, hk6, rfl, rfl, oZ, bZ⟩ := hrel
                    clear HOY HBY
                    generalize wr = Q3 at *
                    have hzq := bZ.size
                    by_cases hk : k < 6
                    · have hki : (k : Int) < 6 := by omega
                      obtain ⟨XS, hXS⟩ : ∃ XS, Y ++ List.replicate k (opU ((j : Int) + 1)) = XS := ⟨_, rfl⟩
                      have HXS : Hid (Y ++ List.replicate k (opU ((j : Int) + 1)) = XS) := hXS
                      have HXL : Hid (XS.length = QM + k) := by show _ = _; rw [← hXS, List.length_append, HYL.out, List.length_replicate]
                      rw [hXS] at oZ
                      have HLT : Hid (∀ q, (Value.slice a5 (QM + k) c5).ownBlock = some q → w.heap.size ≤ q) := fun q hq => (oZ.lt q hq).1
                      have hlen : XS.length + 1 ≤ 16777216 := by rw [HXL.out]; omega
                      clear hXS
                      go_wp2_with (at_builtin; refine wpList_append_one (S := shGo) Try.info45 rfl (by omega) rfl _ _ 26 rfl Try.underlying26 w.heap.size _ XS (opU ((j : Int) + 1)) (⟨⟨by show -9223372036854775808 ≤ (5 : Int); decide, by show (5 : Int) < _; decide⟩, ⟨by show -9223372036854775808 ≤ (j : Int) + 1; omega, by show (j : Int) + 1 < _; omega⟩, ⟨by show -9223372036854775808 ≤ (0 : Int); decide, by show (0 : Int) < _; decide⟩⟩ : shGo.ok (opU ((j : Int) + 1))) Q3.heap.size 1 rfl rfl (oZ.alloc _) (gp_new _ (opU ((j : Int) + 1)) _ _ rfl) hlen (by simp; omega) ?_; intro a6 c6 w' hO' hg')
                      have hbf : Below w.heap.size w w' := (bZ.trans (((Below.refl _ Q3).alloc (Nat.le_refl _) _).mono hzq)).trans (gb_to hg' HLT.out (by simp; omega))
                      have HOF : Hid (OwnG shGo 45 w' w.heap.size (.slice a6 (QM + k + 1) c6) (Y ++ List.replicate (k + 1) (opU ((j : Int) + 1)))) := by
                        show OwnG _ _ _ _ _ _
                        rw [List.replicate_succ', ← List.append_assoc, HXS.out]
                        rw [List.length_append, HXL.out] at hO'
                        exact hO'
                      clear hO' hg'
                      go_roundw
                      case rel => exact ⟨k + 1, a6, c6, by omega, by go_num, by simp [HXL.out, Nat.add_assoc], by rw [← Nat.add_assoc]; exact HOF.out, hbf⟩
                      case measure => simp [intOf]; omega
                    · obtain rfl : k = 6 := by omega
                      have HOF : Hid (OwnG shGo 45 Q3 w.heap.size (.slice a5 (QM + 6) c5) (X ++ uO (j + 1))) := by
                        show OwnG _ _ _ _ _ _
                        rw [uO_succ, ← List.append_assoc, HY.out]
                        exact oZ
                      have HBZ : Hid (Below w.heap.size w Q3) := bZ
                      have HQ6 : Hid (QM + 6 = QL + 6 * (j + 1)) := by show _ = _; have := HQM.out; omega
                      clear oZ bZ
                      go_wp2_with fail
                      go_roundw
                      case rel => exact ⟨j + 1, QM + 6, a5, c5, by omega, by go_num, rfl, HQ6, HOF.out, HBZ.out⟩
                      case measure => simp [intOf]; omega
                · obtain rfl : M = j := by omega
                  have hni3 : ¬ ((M : Int) + 1 ≤ (M : Int)) := by omega
                  obtain ⟨XS, hXS⟩ : ∃ XS, X ++ uO M = XS := ⟨_, rfl⟩
                  have HXS : Hid (X ++ uO M = XS) := hXS
                  have HXL : Hid (XS.length = QM) := by show _ = _; rw [← hXS, List.length_append, HQL.out, uO_len, HQM.out]
                  rw [hXS] at oY
                  have HLT : Hid (∀ q, (Value.slice a4 QM c4).ownBlock = some q → w.heap.size ≤ q) := fun q hq => (oY.lt q hq).1
                  have hQMb : QM ≤ 6000 := by have := HQM.out; omega
                  have hlen : XS.length + 1 ≤ 16777216 := by rw [HXL.out]; omega
                  have hzq := bY.size
                  clear hXS
                  go_wp2_with (at_builtin; refine wpList_append_one (S := shGo) Try.info45 rfl (by omega) rfl _ _ 26 rfl Try.underlying26 w.heap.size _ XS opC ⟨⟨by decide, by decide⟩, ⟨by decide, by decide⟩, ⟨by decide, by decide⟩⟩ Q2.heap.size 1 rfl rfl (oY.alloc _) (gp_new _ opC _ _ rfl) hlen (by simp; omega) ?_; intro a6 c6 w' hO' hg')
                  have hbf : Below w.heap.size w w' := (bY.trans (((Below.refl _ Q2).alloc (Nat.le_refl _) _).mono hzq)).trans (gb_to hg' HLT.out (by simp; omega))
                  have HOF : Hid (OwnG shGo 45 w' w.heap.size (.slice a6 (QM + 1) c6) (prG D M (r + 1))) := by
                    show OwnG _ _ _ _ _ _
                    have h5 : prG D M (r + 1) = XS ++ [opC] := by
                      show prG D M r ++ rnd M = _
                      rw [HX.out, ← HXS.out]
                      unfold rnd
                      rw [List.append_assoc]
                    rw [h5]
                    rw [List.length_append, HXL.out] at hO'
                    exact hO'
                  have HQN : Hid ((prG D M (r + 1)).length = QM + 1) := by
                    show (prG D M r ++ rnd M).length = _
                    rw [HX.out, List.length_append, HQL.out, rnd_len, HQM.out]
                    omega
                  clear hO' hg'
                  go_roundw
                  case rel => exact ⟨r + 1, QM + 1, a6, c6, by omega, by go_num, by simp [HXL.out], HQN, HOF.out, hbf⟩
                  case measure => simp [intOf]; omega
            · obtain rfl : r = 3 := by omega
              obtain ⟨B, hB⟩ : ∃ B, opsG D = B := ⟨_, rfl⟩
              have HBD : Hid (opsG D = B) := hB
              have hPB : prG D M 3 = B := by rw [← hB, ← HM.out]; rfl
              rw [hPB] at oX HQL
              have HLT : Hid (∀ q, (Value.slice a3 QL c3).ownBlock = some q → w.heap.size ≤ q) := fun q hq => (oX.lt q hq).1
              have hlen : B.length + 1 ≤ 16777216 := by rw [HQL.out]; omega
              have hzq := bX.size
              clear hB hPB
              by_cases hbg : 2000 < QL + 1
              · have hbgi : (2000 : Int) < (B.length : Int) + 1 := by have := HQL.out; omega
                go_wp2_with (at_builtin; refine wpList_append_one (S := shGo) Try.info45 rfl (by omega) rfl _ _ 26 rfl Try.underlying26 w.heap.size _ B opA ⟨⟨by decide, by decide⟩, ⟨by decide, by decide⟩, ⟨by decide, by decide⟩⟩ Q1.heap.size 1 rfl rfl (oX.alloc _) (gp_new _ opA _ _ rfl) hlen (by simp; omega) ?_; intro a6 c6 W1 hO' hg')
                have hbf : Below w.heap.size w W1 := (bX.trans (((Below.refl _ Q1).alloc (Nat.le_refl _) _).mono hzq)).trans (gb_to hg' HLT.out (by simp; omega))
                go_ret
                exact ⟨rfl, hbf⟩
              · have hbgi : ¬ (2000 : Int) < (B.length : Int) + 1 := by have := HQL.out; omega
                go_wp2_with (at_builtin; refine wpList_append_one (S := shGo) Try.info45 rfl (by omega) rfl _ _ 26 rfl Try.underlying26 w.heap.size _ B opA ⟨⟨by decide, by decide⟩, ⟨by decide, by decide⟩, ⟨by decide, by decide⟩⟩ Q1.heap.size 1 rfl rfl (oX.alloc _) (gp_new _ opA _ _ rfl) hlen (by simp; omega) ?_; intro a6 c6 W1 hO' hg')
                have hbf : Below w.heap.size w W1 := (bX.trans (((Below.refl _ Q1).alloc (Nat.le_refl _) _).mono hzq)).trans (gb_to hg' HLT.out (by simp; omega))
                have hql := HQL.out
                have hOP : OwnG shGo 45 W1 w.heap.size (.slice a6 (QL + 1) c6) (B ++ [opA]) := by
                  rw [List.length_append, hql] at hO'
                  exact hO'
                simp only [hql]
                obtain ⟨hZ1, hZ2, hZ3⟩ := two_runs B QL hql (by omega)
                obtain ⟨Ea0, hSn0⟩ := opsG_ea D
                rw [HBD.out] at Ea0 hSn0
                have HKP : Hid (alv (rnG gs0 B) ≠ 0 → ∃ e ∈ B ++ [opA], ¬ NoR e) := fun h0 => by
                  apply Classical.byContradiction
                  intro hno
                  apply h0
                  rw [← HBD.out]
                  refine opsG_none D (fun e he => ?_)
                  apply Classical.byContradiction
                  intro hne
                  refine hno ⟨e, ?_, hne⟩
                  rw [← HBD.out]
                  unfold opsG
                  simp [he]
                rw [HM.out] at hSn0
                obtain ⟨S, hS⟩ : ∃ S, rnG gs0 B = S := ⟨_, rfl⟩
                rw [hS] at hZ2 hZ3 Ea0 hSn0 HKP
                have HEA : Hid (Ea S) := Ea0
                have HSN : Hid (S.n = M) := hSn0
                have hRS := gcRunS_any _ _ W1 hOP.rd
                have hRI := fun V W r => gcRunI_any V (B ++ [opA]) W r
                unfold RnP at hRS hRI
                rw [hZ3] at hRS
                simp only [hZ3] at hRI
                obtain ⟨Z, hZ⟩ : ∃ Z, ansG (B ++ [opA]) = Z := ⟨_, rfl⟩
                rw [hZ] at hRS hZ1 hZ2
                simp only [hZ] at hRI
                rw [hZ1] at hRS
                simp only [hZ1] at hRI
                obtain ⟨OPS, hOPS⟩ : ∃ OPS, B ++ [opA] = OPS := ⟨_, rfl⟩
                rw [hOPS] at hOP HKP
                simp only [hOPS] at hRI
                have HOPL : Hid (OPS.length = QL + 1) := by show _ = _; rw [← hOPS]; simp [hql]
                have HZ1 : Hid (Z.length = QL + 1) := hZ1
                have HZ2 : Hid (Z.getD QL 0 = (alv S : Int)) := hZ2
                have HOP : Hid (OwnG shGo 45 W1 w.heap.size (.slice a6 (QL + 1) c6) OPS) := hOP
                obtain ⟨EL, hEL⟩ : ∃ EL, (evL S.ev).length = EL := ⟨_, rfl⟩
                have HEL : Hid ((evL S.ev).length = EL) := hEL
                rw [hEL] at hRS
                simp only [hEL] at hRI
                have HBW1 : Hid (Below w.heap.size w W1) := hbf
                have hz1 := hbf.size
                obtain ⟨g6, hg6⟩ : ∃ g6, a6 = some ⟨g6, 0, none⟩ := by
                  rcases hOP.shape with ⟨e1, e2⟩ | ⟨g, cp, e1, _, _, e2⟩
                  · have := HOPL.out; rw [e2] at this; simp at this
                  · simp only [Value.slice.injEq] at e1
                    exact ⟨g, e1.1⟩
                subst hg6
                clear hO' hg' hOP hZ1 hZ2 hZ3 Ea0 hSn0 hS hZ hOPS hEL hbf hql oX bX HLT hbgi
                refine hRS.mono ?_
                rintro e w3 ⟨xa, xc, xa', xc', rfl, oW, oW', b3⟩
                clear hRS oW'
                have B3 : Below w.heap.size w w3 := HBW1.out.trans (b3.mono hz1)
                have oP3 := HOP.out.keep b3
                have oN := OwnG.emptyD shGo 45 w3
                have al3 : Below w3.heap.size w3 (w3.alloc (.cells #[] 45)) := (Below.refl _ _).alloc (Nat.le_refl _) _
                have oP4 := oP3.keep al3
                have hCC := own_cells oP4
                have HCC : Hid (∀ j, j < OPS.length * shGo.n → (w3.alloc (.cells #[] 45)).cell? ⟨g6, j, none⟩ = (OPS.flatMap shGo.cs)[j]?) := hCC
                have HOKS : Hid (∀ e ∈ OPS, shGo.ok e) := oP4.2.2
                have hlen2 : ([] : List Gp).length + OPS.length ≤ 16777216 := by rw [HOPL.out]; simp; omega
                have HOPS3 : Hid (OwnG shGo 45 w3 w.heap.size (.slice (some ⟨g6, 0, none⟩) (QL + 1) c6) OPS) := oP3
                have HOW : Hid (Own w3 W1.heap.size (.slice xa (QL + 1) xc) Z) := oW
                have HB3 : Hid (Below w.heap.size w w3) := B3
                have hz3 := B3.size
                have HAL3 : Hid (Below w3.heap.size w3 (w3.alloc (.cells #[] 45))) := al3
                clear oP3 oP4 hCC oW B3 al3 b3
                go_wp2_with (at_builtin; refine wpList_append_many (S := shGo) Try.info45 rfl (by omega) rfl _ _ 26 rfl Try.underlying26 w3.heap.size _ [] OPS HOKS.out g6 (QL + 1) c6 HOPL.out.symm rfl rfl oN HCC.out hlen2 (by simp) ?_; intro a7 c7 W4 hO7 hg7)
                rw [List.nil_append, HOPL.out] at hO7
                simp only [List.nil_append, HOPL.out]
                have b4 : Below w3.heap.size w3 W4 := HAL3.out.trans (gb_to hg7 (fun q hq => by have : w3.heap.size = q := Option.some.inj hq; omega) (by simp))
                have hRI2 := hRI _ W4 hO7.rd
                clear hRI hg7 hO7 oN
                refine hRI2.mono ?_
                rintro e w5 ⟨ya, yc, ea, ec, rfl, oG, oE, b5⟩
                clear hRI2
                have b6 : Below w3.heap.size w3 w5 := b4.trans (b5.mono b4.size)
                have oW5 := HOW.out.keep b6
                have hSm := sameInts_any _ _ Z w5 oW5.rd oG.rd
                have HOPS5 : Hid (OwnG shGo 45 w5 w.heap.size (.slice (some ⟨g6, 0, none⟩) (QL + 1) c6) OPS) := HOPS3.out.keep b6
                have HB5 : Hid (Below w.heap.size w w5) := HB3.out.trans (b6.mono hz3)
                have HG5 : Hid (Own w5 W4.heap.size (.slice ya (QL + 1) yc) Z) := oG
                have HE5 : Hid (OwnG shGe 49 w5 W4.heap.size (.slice ea EL ec) (evL S.ev)) := oE
                clear b4 b5 b6 oW5 oG oE HOPS3 HOW HB3 HCC HOKS
                go_wp2_with fail
                refine hSm.mono ?_
                rintro e w6 ⟨rfl, b6⟩
                clear hSm
                have HOPS6 : Hid (OwnG shGo 45 w6 w.heap.size (.slice (some ⟨g6, 0, none⟩) (QL + 1) c6) OPS) := HOPS5.out.keep b6
                have HB6 : Hid (Below w.heap.size w w6) := HB5.out.trans (b6.mono HB5.out.size)
                have HG6 : Hid (Own w6 W4.heap.size (.slice ya (QL + 1) yc) Z) := HG5.out.keep b6
                have HE6 : Hid (OwnG shGe 49 w6 W4.heap.size (.slice ea EL ec) (evL S.ev)) := HE5.out.keep b6
                obtain ⟨MN, hMN⟩ : ∃ MN, M + 1 = MN := ⟨_, rfl⟩
                have HMN : Hid (M + 1 = MN) := hMN
                have hmi : (M : Int) + 1 = (MN : Int) := by omega
                have hwm : IntKind.i64.wrap (MN : Int) = (MN : Int) := wrap_small (by omega) (by omega)
                obtain ⟨i0, hi0, hi1, hi2, hi3⟩ := info_parts Try.info3
                have hMNb : MN ≤ 201 := by omega
                have HZ6 : Hid (w.heap.size ≤ w6.heap.size) := HB6.out.size
                clear HOPS5 HB5 HG5 HE5 b6 hMN
                go_upto_region 31 with (at_make; refine wpList_make_full _ rfl _ _ 47 rfl w6.heap.size 3 i0 _ 1 Try.underlying47 hi0 hi1 hi2 .i64 .i64 _ _ MN rfl rfl rfl rfl (by rw [hi3]; omega) (by unfold maxLen; omega) (Nat.le_refl _) ?_; intro W7 hown7 hgrow7)
                have o7 : OwnG shW 3 W7 w6.heap.size (.slice (some ⟨w6.heap.size, 0, none⟩) MN MN) (List.replicate MN 0) := OwnG.made1 0 rfl rfl ⟨by decide, by decide⟩ rfl (by omega) hown7
                have d7 : Below w6.heap.size w6 W7 := (Below.refl _ _).grown hgrow7 (Nat.le_refl _) (by intro k h; cases h)
                have HO7 : Hid (OwnG shW 3 W7 w6.heap.size (.slice (some ⟨w6.heap.size, 0, none⟩) MN MN) (List.replicate MN 0)) := o7
                have HD7 : Hid (Below w6.heap.size w6 W7) := d7
                clear hown7 hgrow7 o7 d7
                go_upto_region 32 with (at_make; refine wpList_make_full _ rfl _ _ 47 rfl W7.heap.size 3 i0 _ 1 Try.underlying47 hi0 hi1 hi2 .i64 .i64 _ _ MN rfl rfl rfl rfl (by rw [hi3]; omega) (by unfold maxLen; omega) (Nat.le_refl _) ?_; intro W8 hown8 hgrow8)
                have o8 : OwnG shW 3 W8 W7.heap.size (.slice (some ⟨W7.heap.size, 0, none⟩) MN MN) (List.replicate MN 0) := OwnG.made1 0 rfl rfl ⟨by decide, by decide⟩ rfl (by omega) hown8
                have d8 : Below W7.heap.size W7 W8 := (Below.refl _ _).grown hgrow8 (Nat.le_refl _) (by intro k h; cases h)
                have HO8 : Hid (OwnG shW 3 W8 W7.heap.size (.slice (some ⟨W7.heap.size, 0, none⟩) MN MN) (List.replicate MN 0)) := o8
                have HD8 : Hid (Below W7.heap.size W7 W8) := d8
                clear hown8 hgrow8 o8 d8
                go_upto_region 33 with (at_make; refine wpList_make_full _ rfl _ _ 47 rfl W8.heap.size 3 i0 _ 1 Try.underlying47 hi0 hi1 hi2 .i64 .i64 _ _ MN rfl rfl rfl rfl (by rw [hi3]; omega) (by unfold maxLen; omega) (Nat.le_refl _) ?_; intro W9 hown9 hgrow9)
                have o9 : OwnG shW 3 W9 W8.heap.size (.slice (some ⟨W8.heap.size, 0, none⟩) MN MN) (List.replicate MN 0) := OwnG.made1 0 rfl rfl ⟨by decide, by decide⟩ rfl (by omega) hown9
                have d9 : Below W8.heap.size W8 W9 := (Below.refl _ _).grown hgrow9 (Nat.le_refl _) (by intro k h; cases h)
                have p7 := (HO7.out.lt w6.heap.size rfl).2
                have p8 := (HO8.out.lt W7.heap.size rfl).2
                have p9 := (o9.lt W8.heap.size rfl).2
                have q7 := (HO7.out.keep HD8.out).keep d9
                have q8 := HO8.out.keep d9
                have q6 : Below w6.heap.size w6 W9 := (HD7.out.trans (HD8.out.mono HD7.out.size)).trans (d9.mono (Nat.le_trans HD7.out.size HD8.out.size))
                obtain ⟨b1, hb1⟩ : ∃ b1, w6.heap.size = b1 := ⟨_, rfl⟩
                obtain ⟨b2, hb2⟩ : ∃ b2, W7.heap.size = b2 := ⟨_, rfl⟩
                obtain ⟨b3, hb3⟩ : ∃ b3, W8.heap.size = b3 := ⟨_, rfl⟩
                have HZ6' := HZ6.out
                rw [hb1] at q7 q6 p7 HZ6'
                rw [hb2] at q8 p7 p8
                rw [hb3] at o9 p8 p9
                simp only [hb1, hb2, hb3]
                have HR0 : Hid (List.replicate MN (0 : Int) = rowC (S.ev.take 0) 3 M ∧ List.replicate MN (0 : Int) = rowC (S.ev.take 0) 1 M ∧ List.replicate MN (0 : Int) = rowC (S.ev.take 0) 2 M) := by
                  rw [List.take_zero, rowC_nil, rowC_nil, rowC_nil, HMN.out]
                  exact ⟨rfl, rfl, rfl⟩
                have HO7' : Hid (OwnG shW 3 W9 b1 (.slice (some ⟨b1, 0, none⟩) MN MN) (rowC (S.ev.take 0) 3 M)) := by show OwnG _ _ _ _ _ _; rw [← HR0.out.1]; exact q7
                have HO8' : Hid (OwnG shW 3 W9 b2 (.slice (some ⟨b2, 0, none⟩) MN MN) (rowC (S.ev.take 0) 1 M)) := by show OwnG _ _ _ _ _ _; rw [← HR0.out.2.1]; exact q8
                have HO9' : Hid (OwnG shW 3 W9 b3 (.slice (some ⟨b3, 0, none⟩) MN MN) (rowC (S.ev.take 0) 2 M)) := by show OwnG _ _ _ _ _ _; rw [← HR0.out.2.2]; exact o9
                have HD9 : Hid (Below b1 w6 W9) := q6
                have HEV : Hid (S.ev.length = EL) := by show _ = _; rw [← HEL.out]; unfold evL; simp
                have hELb : EL ≤ 16777216 := by have := HE6.out.2.1; rw [HEL.out] at this; exact this
                clear q7 q8 q6 o9 d9 HO7 HO8 HD7 HD8 HR0 i0 hi0 hi1 hi2 hi3 hb2 hb3
                go_wp2_with fail
                go_loopw [16] (fun i wr => ∃ k : Nat, k ≤ EL ∧ i = .int .i64 (k : Nat) ∧ OwnG shW 3 wr b1 (.slice (some ⟨b1, 0, none⟩) MN MN) (rowC (S.ev.take k) 3 M) ∧ OwnG shW 3 wr b2 (.slice (some ⟨b2, 0, none⟩) MN MN) (rowC (S.ev.take k) 1 M) ∧ OwnG shW 3 wr b3 (.slice (some ⟨b3, 0, none⟩) MN MN) (rowC (S.ev.take k) 2 M) ∧ Below b1 w6 wr) (fun i _ => EL - (intOf i).toNat)
                case atStart => exact ⟨0, Nat.zero_le _, rfl, HO7'.out, HO8'.out, HO9'.out, HD9.out⟩
                case round =>
                  obtain ⟨k, hkE, rfl, oF, oL, oK, bW⟩ := hrel
                  clear HO7' HO8' HO9' HD9
                  generalize wr = R1 at *
                  have hr1 : b1 ≤ R1.heap.size := by rw [← hb1]; exact bW.size
                  have hr2 := (oL.lt b2 rfl).2
                  have hr3' := (oK.lt b3 rfl).2
                  by_cases hkl : k < EL
                  · have hkL : k < S.ev.length := by rw [HEV.out]; exact hkl
                    have hki : (k : Int) < (EL : Int) := by omega
                    have hkd := HEA.out.kd S.ev[k] (List.getElem_mem hkL)
                    have hn3 := evC_none HEA.out.pw k hkL 3 (by have := hkd.2.1; omega)
                    have hnk := evC_none HEA.out.pw k hkL S.ev[k].1 (Nat.lt_irrefl _)
                    have hn2 : S.ev[k].1 = 1 → evC (S.ev.take k) 2 S.ev[k].2 = 0 := fun e => evC_none HEA.out.pw k hkL 2 (by omega)
                    have h1a := evC_one HEA.out.pw k 1 S.ev[k].2
                    have h1b := evC_one HEA.out.pw k 2 S.ev[k].2
                    have hek : k < (evL S.ev).length := by rw [HEL.out]; exact hkl
                    have hee : (evL S.ev)[k] = ⟨((S.ev[k].1 : Nat) : Int), ((S.ev[k].2 : Nat) : Int)⟩ := evL_get _ _ hek hkL
                    obtain ⟨va, vc', hv1, hv2, hv3, hv4, hv5⟩ := HE6.out.rd
                    obtain ⟨eb, off, hv6, hez, hec⟩ := hv5 (by omega)
                    obtain ⟨y0, y1⟩ := RdGe.at hec k hek
                    rw [hee] at y0 y1
                    obtain ⟨gE, hgE⟩ : ∃ gE, ea = some ⟨gE, 0, none⟩ := by
                      rcases HE6.out.shape with ⟨e1, e2⟩ | ⟨g, cp, e1, _, _, e2⟩
                      · have := HEL.out; rw [e2] at this; simp at this; omega
                      · simp only [Value.slice.injEq] at e1
                        exact ⟨g, e1.1⟩
                    have heo : eb = gE ∧ off = 0 := by
                      rw [hv6] at hv1
                      simp only [Value.slice.injEq] at hv1
                      have h7 := hv1.1
                      rw [hgE] at h7
                      simp only [Option.some.injEq, Addr.mk.injEq] at h7
                      exact ⟨h7.1.symm, h7.2.1.symm⟩
                    obtain ⟨rfl, rfl⟩ := heo
                    rw [Nat.zero_add] at y0 y1
                    rw [hb1] at hez
                    have e0 := (World.cell?_of_block (a := ⟨eb, k * 2, none⟩) (bW.block eb hez)).trans y0
                    have e1 := (World.cell?_of_block (a := ⟨eb, k * 2 + 1, none⟩) (bW.block eb hez)).trans y1
                    obtain ⟨PK, hPK⟩ : ∃ PK, S.ev[k] = PK := ⟨_, rfl⟩
                    have HTS0 : Hid (S.ev.take (k + 1) = S.ev.take k ++ [PK]) := by show _ = _; rw [List.take_succ_eq_append_getElem hkL, hPK]
                    rw [hPK] at hkd hn3 hnk hn2 h1a h1b e0 e1
                    obtain ⟨KD, X⟩ := PK
                    simp only at hkd hn3 hnk hn2 h1a h1b e0 e1
                    have HTS : Hid (S.ev.take (k + 1) = S.ev.take k ++ [(KD, X)]) := HTS0
                    have hXM : X ≤ M := by have := hkd.2.2.2; rw [HSN.out] at this; exact this
                    have hX1 := hkd.2.2.1
                    have hxi1 : ¬ (X : Int) < 1 := by omega
                    have hxi2 : ¬ (M : Int) < (X : Int) := by omega
                    have hxi3 : (X : Int) < (MN : Int) := by omega
                    have cellC : ∀ (b : Nat) (kd : Nat), OwnG shW 3 R1 b (.slice (some ⟨b, 0, none⟩) MN MN) (rowC (S.ev.take k) kd M) → R1.cell? ⟨b, X, none⟩ = some (.int .i64 ((evC (S.ev.take k) kd X : Nat) : Int)) := fun b kd h => by
                      have hx : X < (rowC (S.ev.take k) kd M).length := by rw [rowC_len]; omega
                      have h5 := h.cell X hx 0 (by decide)
                      rw [show X * shW.n + 0 = X by show X * 1 + 0 = X; omega, rowC_get _ _ _ _ hx] at h5
                      exact h5
                    have cb1 := cellC b1 3 oF
                    have cb2 := cellC b2 1 oL
                    have cb3 := cellC b3 2 oK
                    have fb1 := oF.frozen X
                    have fb2 := oL.frozen X
                    have fb3 := oK.frozen X
                    rw [hn3] at cb1
                    have HNO3 : Hid (evC (S.ev.take k) 3 X = 0) := hn3
                    subst hgE
                    have hkd1 := hkd.1
                    have hkd2 := hkd.2.1
                    clear hec hee hek y0 y1 hv1 hv2 hv3 hv4 hv5 hv6 hPK cellC hkd hn3 HTS0
                    rcases (show KD = 1 ∨ KD = 2 ∨ KD = 3 by omega) with rfl | rfl | rfl
                    · have HNO1 : Hid (evC (S.ev.take k) 1 X = 0) := hnk
                      have hn2' := hn2 rfl
                      rw [hnk] at cb2
                      rw [hn2'] at cb3
                      clear hnk hn2 hn2' h1a h1b
                      obtain ⟨R2, hR2⟩ : ∃ R2, R1.setCell ⟨b2, X, none⟩ (.int .i64 1) = R2 := ⟨_, rfl⟩
                      have hgs := gb_set R1 b2 X (.int .i64 1)
                      rw [hR2] at hgs
                      have oF2 : OwnG shW 3 R2 b1 (.slice (some ⟨b1, 0, none⟩) MN MN) (rowC (S.ev.take (k + 1)) 3 M) := by
                        rw [HTS.out, rowC_other _ 3 1 M X (by omega)]
                        exact oF.but hgs (.inr (by show some b1 ≠ some b2; intro e; have := Option.some.inj e; omega))
                      have kb1 := (World.cell?_of_block (a := ⟨b1, X, none⟩) (hgs.block b1 (by omega) (by intro e; have := Option.some.inj e; omega))).trans cb1
                      have oL2 : OwnG shW 3 R2 b2 (.slice (some ⟨b2, 0, none⟩) MN MN) (rowC (S.ev.take (k + 1)) 1 M) := by
                        have h5 := oL.put X (by rw [rowC_len]; omega) 0 (by decide) (.int .i64 1) 1 ⟨by decide, by decide⟩ rfl
                        rw [show X * shW.n + 0 = X by show X * 1 + 0 = X; omega, hR2] at h5
                        have h6 := rowC_same (S.ev.take k) 1 M X (by omega)
                        rw [HNO1.out] at h6
                        rw [HTS.out, ← h6]
                        exact h5
                      have kb2 : R2.cell? ⟨b2, X, none⟩ = some (.int .i64 1) := by rw [← hR2]; exact World.cell?_setCell_same (w := R1) (a := ⟨b2, X, none⟩) (v := .int .i64 1) cb2
                      have oK2 : OwnG shW 3 R2 b3 (.slice (some ⟨b3, 0, none⟩) MN MN) (rowC (S.ev.take (k + 1)) 2 M) := by
                        rw [HTS.out, rowC_other _ 2 1 M X (by omega)]
                        exact oK.but hgs (.inr (by show some b3 ≠ some b2; intro e; have := Option.some.inj e; omega))
                      have kb3 := (World.cell?_of_block (a := ⟨b3, X, none⟩) (hgs.block b3 (by omega) (by intro e; have := Option.some.inj e; omega))).trans cb3
                      have ke := (World.cell?_of_block (a := ⟨eb, k * 2, none⟩) (hgs.block eb (by omega) (by intro e; have := Option.some.inj e; omega))).trans e0
                      have bW2 : Below b1 w6 R2 := bW.trans (gb_to hgs (fun q hq => by have := Option.some.inj hq; omega) (by omega))
                      have HF2 : Hid (OwnG shW 3 R2 b1 (.slice (some ⟨b1, 0, none⟩) MN MN) (rowC (S.ev.take (k + 1)) 3 M)) := oF2
                      have HL2 : Hid (OwnG shW 3 R2 b2 (.slice (some ⟨b2, 0, none⟩) MN MN) (rowC (S.ev.take (k + 1)) 1 M)) := oL2
                      have HK2 : Hid (OwnG shW 3 R2 b3 (.slice (some ⟨b3, 0, none⟩) MN MN) (rowC (S.ev.take (k + 1)) 2 M)) := oK2
                      clear oF oL oK oF2 oL2 oK2 hgs bW
                      go_wp2_with fail
                      go_roundw
                      case rel => exact ⟨k + 1, by omega, by go_num, HF2.out, HL2.out, HK2.out, bW2⟩
                      case measure => simp [intOf]; omega
                    · have HNO2 : Hid (evC (S.ev.take k) 2 X = 0) := hnk
                      rw [hnk] at cb3
                      obtain ⟨F1, hF1⟩ : ∃ F1, evC (S.ev.take k) 1 X = F1 := ⟨_, rfl⟩
                      rw [hF1] at cb2 h1a
                      have hf1 : ¬ (1 : Int) < (F1 : Int) := by omega
                      clear hnk hn2 h1b hF1 h1a
                      obtain ⟨R2, hR2⟩ : ∃ R2, R1.setCell ⟨b3, X, none⟩ (.int .i64 1) = R2 := ⟨_, rfl⟩
                      have hgs := gb_set R1 b3 X (.int .i64 1)
                      rw [hR2] at hgs
                      have oF2 : OwnG shW 3 R2 b1 (.slice (some ⟨b1, 0, none⟩) MN MN) (rowC (S.ev.take (k + 1)) 3 M) := by
                        rw [HTS.out, rowC_other _ 3 2 M X (by omega)]
                        exact oF.but hgs (.inr (by show some b1 ≠ some b3; intro e; have := Option.some.inj e; omega))
                      have kb1 := (World.cell?_of_block (a := ⟨b1, X, none⟩) (hgs.block b1 (by omega) (by intro e; have := Option.some.inj e; omega))).trans cb1
                      have oL2 : OwnG shW 3 R2 b2 (.slice (some ⟨b2, 0, none⟩) MN MN) (rowC (S.ev.take (k + 1)) 1 M) := by
                        rw [HTS.out, rowC_other _ 1 2 M X (by omega)]
                        exact oL.but hgs (.inr (by show some b2 ≠ some b3; intro e; have := Option.some.inj e; omega))
                      have kb2 := (World.cell?_of_block (a := ⟨b2, X, none⟩) (hgs.block b2 (by omega) (by intro e; have := Option.some.inj e; omega))).trans cb2
                      have oK2 : OwnG shW 3 R2 b3 (.slice (some ⟨b3, 0, none⟩) MN MN) (rowC (S.ev.take (k + 1)) 2 M) := by
                        have h5 := oK.put X (by rw [rowC_len]; omega) 0 (by decide) (.int .i64 1) 1 ⟨by decide, by decide⟩ rfl
                        rw [show X * shW.n + 0 = X by show X * 1 + 0 = X; omega, hR2] at h5
                        have h6 := rowC_same (S.ev.take k) 2 M X (by omega)
                        rw [HNO2.out] at h6
                        rw [HTS.out, ← h6]
                        exact h5
                      have kb3 : R2.cell? ⟨b3, X, none⟩ = some (.int .i64 1) := by rw [← hR2]; exact World.cell?_setCell_same (w := R1) (a := ⟨b3, X, none⟩) (v := .int .i64 1) cb3
                      have ke := (World.cell?_of_block (a := ⟨eb, k * 2, none⟩) (hgs.block eb (by omega) (by intro e; have := Option.some.inj e; omega))).trans e0
                      have bW2 : Below b1 w6 R2 := bW.trans (gb_to hgs (fun q hq => by have := Option.some.inj hq; omega) (by omega))
                      have HF2 : Hid (OwnG shW 3 R2 b1 (.slice (some ⟨b1, 0, none⟩) MN MN) (rowC (S.ev.take (k + 1)) 3 M)) := oF2
                      have HL2 : Hid (OwnG shW 3 R2 b2 (.slice (some ⟨b2, 0, none⟩) MN MN) (rowC (S.ev.take (k + 1)) 1 M)) := oL2
                      have HK2 : Hid (OwnG shW 3 R2 b3 (.slice (some ⟨b3, 0, none⟩) MN MN) (rowC (S.ev.take (k + 1)) 2 M)) := oK2
                      clear oF oL oK oF2 oL2 oK2 hgs bW
                      go_wp2_with fail
                      go_roundw
                      case rel => exact ⟨k + 1, by omega, by go_num, HF2.out, HL2.out, HK2.out, bW2⟩
                      case measure => simp [intOf]; omega
                    · obtain ⟨F1, hF1⟩ : ∃ F1, evC (S.ev.take k) 1 X = F1 := ⟨_, rfl⟩
                      obtain ⟨F2, hF2⟩ : ∃ F2, evC (S.ev.take k) 2 X = F2 := ⟨_, rfl⟩
                      rw [hF1] at cb2 h1a
                      rw [hF2] at cb3 h1b
                      have hf1 : ¬ (1 : Int) < (F1 : Int) := by omega
                      have hf2 : ¬ (1 : Int) < (F2 : Int) := by omega
                      clear hnk hn2 h1b hF1 hF2 h1a
                      obtain ⟨R2, hR2⟩ : ∃ R2, R1.setCell ⟨b1, X, none⟩ (.int .i64 1) = R2 := ⟨_, rfl⟩
                      have hgs := gb_set R1 b1 X (.int .i64 1)
                      rw [hR2] at hgs
                      have oF2 : OwnG shW 3 R2 b1 (.slice (some ⟨b1, 0, none⟩) MN MN) (rowC (S.ev.take (k + 1)) 3 M) := by
                        have h5 := oF.put X (by rw [rowC_len]; omega) 0 (by decide) (.int .i64 1) 1 ⟨by decide, by decide⟩ rfl
                        rw [show X * shW.n + 0 = X by show X * 1 + 0 = X; omega, hR2] at h5
                        have h6 := rowC_same (S.ev.take k) 3 M X (by omega)
                        rw [HNO3.out] at h6
                        rw [HTS.out, ← h6]
                        exact h5
                      have kb1 : R2.cell? ⟨b1, X, none⟩ = some (.int .i64 1) := by rw [← hR2]; exact World.cell?_setCell_same (w := R1) (a := ⟨b1, X, none⟩) (v := .int .i64 1) cb1
                      have oL2 : OwnG shW 3 R2 b2 (.slice (some ⟨b2, 0, none⟩) MN MN) (rowC (S.ev.take (k + 1)) 1 M) := by
                        rw [HTS.out, rowC_other _ 1 3 M X (by omega)]
                        exact oL.but hgs (.inr (by show some b2 ≠ some b1; intro e; have := Option.some.inj e; omega))
                      have kb2 := (World.cell?_of_block (a := ⟨b2, X, none⟩) (hgs.block b2 (by omega) (by intro e; have := Option.some.inj e; omega))).trans cb2
                      have oK2 : OwnG shW 3 R2 b3 (.slice (some ⟨b3, 0, none⟩) MN MN) (rowC (S.ev.take (k + 1)) 2 M) := by
                        rw [HTS.out, rowC_other _ 2 3 M X (by omega)]
                        exact oK.but hgs (.inr (by show some b3 ≠ some b1; intro e; have := Option.some.inj e; omega))
                      have kb3 := (World.cell?_of_block (a := ⟨b3, X, none⟩) (hgs.block b3 (by omega) (by intro e; have := Option.some.inj e; omega))).trans cb3
                      have ke := (World.cell?_of_block (a := ⟨eb, k * 2, none⟩) (hgs.block eb (by omega) (by intro e; have := Option.some.inj e; omega))).trans e0
                      have bW2 : Below b1 w6 R2 := bW.trans (gb_to hgs (fun q hq => by have := Option.some.inj hq; omega) (by omega))
                      have HF2 : Hid (OwnG shW 3 R2 b1 (.slice (some ⟨b1, 0, none⟩) MN MN) (rowC (S.ev.take (k + 1)) 3 M)) := oF2
                      have HL2 : Hid (OwnG shW 3 R2 b2 (.slice (some ⟨b2, 0, none⟩) MN MN) (rowC (S.ev.take (k + 1)) 1 M)) := oL2
                      have HK2 : Hid (OwnG shW 3 R2 b3 (.slice (some ⟨b3, 0, none⟩) MN MN) (rowC (S.ev.take (k + 1)) 2 M)) := oK2
                      clear oF oL oK oF2 oL2 oK2 hgs bW
                      go_wp2_with fail
                      go_roundw
                      case rel => exact ⟨k + 1, by omega, by go_num, HF2.out, HL2.out, HK2.out, bW2⟩
                      case measure => simp [intOf]; omega
                  · obtain rfl : EL = k := by omega
                    have hni5 : ¬ ((EL : Int) < (EL : Int)) := by omega
                    rw [List.take_of_length_le (by rw [HEV.out]; exact Nat.le_refl _)] at oF
                    obtain ⟨xg, hxg⟩ : ∃ xg, ya = some ⟨xg, 0, none⟩ := by
                      rcases HG6.out.1.2 with ⟨e1, e2⟩ | ⟨g', cap, cur, e1, _⟩
                      · simp at e1
                      · simp only [Value.slice.injEq] at e1
                        exact ⟨g', e1.1⟩
                    subst hxg
                    have hxz := (HG6.out.lt xg rfl).2
                    rw [hb1] at hxz
                    have cL0 := HG6.out.cell QL (by rw [HZ1.out]; omega)
                    rw [HZ2.out] at cL0
                    have cL := (World.cell?_of_block (a := ⟨xg, QL, none⟩) (bW.block xg hxz)).trans cL0
                    have hsum := HEA.out.sum
                    rw [HSN.out] at hsum
                    obtain ⟨AV, hAV⟩ : ∃ AV, alv S = AV := ⟨_, rfl⟩
                    rw [hAV] at cL hsum HKP
                    have HSUM : Hid (sm M (fun k => evC S.ev 3 (k + 1)) + AV = M) := hsum
                    have hAVb : AV ≤ 200 := by omega
                    have HOF : Hid (OwnG shW 3 R1 b1 (.slice (some ⟨b1, 0, none⟩) MN MN) (rowC S.ev 3 M)) := oF
                    have HBW : Hid (Below b1 w6 R1) := bW
                    have hwq : IntKind.i64.wrap (QL : Int) = (QL : Int) := wrap_small (by omega) (by omega)
                    have hQb2 : QL ≤ 2000 := by omega
                    clear oF oL oK bW cL0 hAV hsum hkE
                    go_wp2_with fail
                    go_loopw [19, 20] (fun m i wr => ∃ j : Nat, j ≤ M ∧ i = .int .i64 ((j : Int) + 1) ∧ m = .int .i64 ((sm j (fun k => evC S.ev 3 (k + 1)) : Nat) : Int) ∧ wr = R1) (fun _ i _ => M + 1 - (intOf i).toNat)
                    case atStart => exact ⟨0, Nat.zero_le _, rfl, rfl, rfl⟩
                    case round =>
                      obtain ⟨j, hj, rfl, rfl, rfl⟩ := hrel
                      by_cases hjM : j < M
                      · have hji : (j : Int) + 1 ≤ (M : Int) := by omega
                        have hwj : IntKind.i64.wrap ((j : Int) + 1 + 1) = (j : Int) + 1 + 1 := wrap_small (by omega) (by omega)
                        have hx : j + 1 < (rowC S.ev 3 M).length := by rw [rowC_len]; omega
                        have h5 := HOF.out.cell (j + 1) hx 0 (by decide)
                        rw [show (j + 1) * shW.n + 0 = j + 1 by show (j + 1) * 1 + 0 = j + 1; omega, rowC_get _ _ _ _ hx] at h5
                        have HSS : Hid (sm (j + 1) (fun k => evC S.ev 3 (k + 1)) = sm j (fun k => evC S.ev 3 (k + 1)) + evC S.ev 3 (j + 1)) := sm_succ _ _
                        have hv1 : evC S.ev 3 (j + 1) ≤ 1 := pw_count HEA.out.pw _
                        have hvs : sm j (fun k => evC S.ev 3 (k + 1)) ≤ j * 1 := sm_le _ 1 j (fun k _ => pw_count HEA.out.pw _)
                        obtain ⟨V, hV⟩ : ∃ V, evC S.ev 3 (j + 1) = V := ⟨_, rfl⟩
                        obtain ⟨SJ, hSJ⟩ : ∃ SJ, sm j (fun k => evC S.ev 3 (k + 1)) = SJ := ⟨_, rfl⟩
                        rw [hV] at h5 hv1 HSS
                        rw [hSJ] at hvs HSS
                        simp only [hSJ]
                        have c5 : wr.cell? ⟨b1, j + 1, none⟩ = some (.int .i64 (V : Int)) := h5
                        have hws : IntKind.i64.wrap ((SJ : Int) + (V : Int)) = (SJ : Int) + (V : Int) := wrap_small (by omega) (by omega)
                        have hjn : (j : Int) + 1 < (MN : Int) := by omega
                        clear h5 hx hV hSJ
                        go_wp2
                        go_roundw
                        case rel => exact ⟨j + 1, by omega, by go_num, by rw [HSS.out]; go_num, trivial⟩
                        case measure => simp [intOf]; omega
                      · obtain rfl : M = j := by omega
                        have hni6 : ¬ ((M : Int) + 1 ≤ (M : Int)) := by omega
                        obtain ⟨SM, hSM⟩ : ∃ SM, sm M (fun k => evC S.ev 3 (k + 1)) = SM := ⟨_, rfl⟩
                        have hs2 := HSUM.out
                        rw [hSM] at hs2
                        simp only [hSM]
                        have hws : IntKind.i64.wrap ((SM : Int) + (AV : Int)) = (M : Int) := by rw [show (SM : Int) + (AV : Int) = (M : Int) by omega]; exact wrap_small (by omega) (by omega)
                        have HBF : Hid (Below w.heap.size w wr) := HB6.out.trans (HBW.out.mono HZ6')
                        have hOPf : OwnG shGo 45 wr w.heap.size (.slice (some ⟨g6, 0, none⟩) (QL + 1) c6) OPS := by
                          have h7 := HBW.out
                          rw [← hb1] at h7
                          exact HOPS6.out.keep h7
                        by_cases hav : AV = 0
                        · subst hav
                          obtain rfl : M = SM := by omega
                          have hwm2 : IntKind.i64.wrap (M : Int) = (M : Int) := wrap_small (by omega) (by omega)
                          clear hSM hs2 hOPf hws
                          go_wp2
                          go_ret
                          exact ⟨rfl, HBF.out⟩
                        · have havb : ((AV : Int) == 0) = false := by rw [beq_eq_false_iff_ne]; omega
                          have hKe := kept_any _ _ wr hOPf.rd (HKP.out hav)
                          clear hSM hs2 hOPf
                          go_wp2_with fail
                          refine hKe.mono ?_
                          rintro e wz ⟨rfl, bz⟩
                          clear hKe
                          have HBE : Hid (Below w.heap.size w wz) := HBF.out.trans (bz.mono HBF.out.size)
                          clear bz
                          go_wp2
                          go_ret
                          exact ⟨rfl, HBE.out⟩
end Go.Proofs.Ytjnalkeopehlbaa
