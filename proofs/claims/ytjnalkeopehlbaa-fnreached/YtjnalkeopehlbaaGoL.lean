import Derived.Test.YtjnalkeopehlbaaGnB
import Derived.Test.YtjnalkeopehlbaaGrN
import Derived.Test.YtjnalkeopehlbaaGoP
import Derived.Test.YtjnalkeopehlbaaMgE
namespace Go.Proofs.Ytjnalkeopehlbaa
open Go.RowKit Go.Maps
set_option linter.unusedVariables false
set_option linter.unusedSimpArgs false

set_option maxRecDepth 100000 in
set_option maxHeartbeats 4000000 in
theorem law_reached (a : Option Addr) (n c : Nat) (bs : List Int) (w : World) (hn : n ≤ 9223372036854775807) (hsrc : n ≤ 1048576 → Src w a n c bs) :
    Calls Try.prog 5 #[.slice a n c] w fun e w' => e = .returned (.bool true) ∧ Below w.heap.size w w' := by
  have hBig := big_any w a n c
  by_cases hbig : (1048576 : Int) < (n : Int)
  · rw [decide_eq_true hbig] at hBig
    go_enter Try.func5, Try.ntmps5
    go_wp2_with fail
    refine hBig.mono ?_
    rintro e w ⟨rfl, rfl⟩
    go_wp2
    go_ret
    exact ⟨rfl, Below.refl _ _⟩
  · rw [decide_eq_false hbig] at hBig
    have hDr := drawGR_any w a n c bs (hsrc (by omega))
    clear hsrc
    go_enter Try.func5, Try.ntmps5
    go_wp2_with fail
    refine hBig.mono ?_
    rintro e w ⟨rfl, rfl⟩
    clear hBig
    go_wp2_with fail
    refine hDr.mono ?_
    rintro e w2 ⟨N, hs, rs, a1, a2, c1, c2, rfl, hN1, hN2, hhl, hrl, hin, OH, OR, b2⟩
    clear hDr
    have hI := reachI_any (N : Int) _ _ hs rs w2 OH.rd OR.rd (by omega) (by omega)
    have hS := fun W r q => reachS_any (N : Int) (.slice a1 hs.length c1) (.slice a2 rs.length c2) hs rs W r q (by omega) (by omega)
    have HOK : Hid (0 < (ansR N hs rs).length → OkR N hs rs) := fun h0 => by
      unfold ansR at h0
      split at h0
      · assumption
      · cases h0
    have HRL : Hid (OkR N hs rs → ansA' (opsF N hs rs) ((opsR N hs rs).length + 1) = ((ansR N hs rs).length : Int)) := fun h => reach_last h
    have hZl := ansR_len N hs rs
    obtain ⟨Z, hZ⟩ : ∃ Z, ansR N hs rs = Z := ⟨_, rfl⟩
    obtain ⟨ZL, hZL⟩ : ∃ ZL, Z.length = ZL := ⟨_, rfl⟩
    rw [hZ] at hI HOK HRL hZl
    simp only [hZ] at hS
    have HZL : Hid (Z.length = ZL) := hZL
    have HIN : Hid (OkE N hs) := hin
    obtain ⟨HL, hHL⟩ : ∃ HL, hs.length = HL := ⟨_, rfl⟩
    obtain ⟨RL, hRL⟩ : ∃ RL, rs.length = RL := ⟨_, rfl⟩
    have HHL : Hid (hs.length = HL) := hHL
    have HRLn : Hid (rs.length = RL) := hRL
    rw [hZL] at hI HOK HRL hZl
    simp only [hZL] at hS
    have HRH : Hid (RdGo w2 (.slice a1 HL c1) hs) := by show RdGo _ _ _; rw [← hHL]; exact OH.rd
    have HRR : Hid (Rd w2 (.slice a2 RL c2) rs) := by show Rd _ _ _; rw [← hRL]; exact OR.rd
    rw [hHL, hRL] at hI
    simp only [hHL, hRL] at hS
    rw [hHL] at hhl
    rw [hRL] at hrl
    simp only [hHL, hRL]
    clear hZ hZL hin OH OR hHL hRL
    go_wp2_with fail
    refine hI.mono ?_
    rintro e w3 ⟨a3, c3, rfl, OG, b3⟩
    clear hI
    have hS2 := hS w3 (HRH.out.keep b3) (HRR.out.keep b3)
    clear hS
    go_wp2_with fail
    refine hS2.mono ?_
    rintro e w4 ⟨a4, c4, rfl, OW, b4⟩
    clear hS2
    have hSm := sameInts_any _ _ Z w4 (Own.keep OG b4).rd OW.rd
    have B4 : Below w.heap.size w w4 := (b2.trans (b3.mono b2.size)).trans (b4.mono (b2.trans (b3.mono b2.size)).size)
    have R4 : Below w2.heap.size w2 w4 := b3.trans (b4.mono b3.size)
    have HG4 : Hid (Own w4 w2.heap.size (.slice a3 ZL c3) Z) := Own.keep OG b4
    clear b2 b3 b4 OG OW
    go_wp2_with fail
    refine hSm.mono ?_
    rintro e w5 ⟨rfl, b5⟩
    clear hSm
    have B5 : Below w.heap.size w w5 := B4.trans (b5.mono B4.size)
    have R5 : Below w2.heap.size w2 w5 := R4.trans (b5.mono R4.size)
    have HRH5 : Hid (RdGo w5 (.slice a1 HL c1) hs) := HRH.out.keep R5
    have HRR5 : Hid (Rd w5 (.slice a2 RL c2) rs) := HRR.out.keep R5
    have hn0 : ¬ (N : Int) < 0 := by omega
    have hn60 : ¬ (60 : Int) < (N : Int) := by omega
    clear B4 R4 R5 HRH HRR HG4 b5
    by_cases hz : ZL = 0
    · subst hz
      have al1 : Below w5.heap.size w5 (w5.alloc (.cells #[.int .i64 0, .int .i64 1, .int .i64 2] 45)) := (Below.refl _ _).alloc (Nat.le_refl _) _
      have al2 := al1.alloc al1.size (.cells #[.int .i64 1] 2)
      have alB : Below (w5.alloc (.cells #[.int .i64 0, .int .i64 1, .int .i64 2] 45)).heap.size (w5.alloc (.cells #[.int .i64 0, .int .i64 1, .int .i64 2] 45)) ((w5.alloc (.cells #[.int .i64 0, .int .i64 1, .int .i64 2] 45)).alloc (.cells #[.int .i64 1] 2)) := (Below.refl _ _).alloc (Nat.le_refl _) _
      have q1 : RdGo ((w5.alloc (.cells #[.int .i64 0, .int .i64 1, .int .i64 2] 45)).alloc (.cells #[.int .i64 1] 2)) (.slice (some ⟨w5.heap.size, 0, none⟩) 1 1) [(⟨0, 1, 2⟩ : Gp)] := by
        refine ⟨some ⟨w5.heap.size, 0, none⟩, 1, rfl, by simp, fun e he => ?_, ⟨Nat.le_refl _, fun h => by cases h⟩, fun _ => ⟨w5.heap.size, 0, rfl, by simp; omega, fun k hk q hq => ?_⟩⟩
        · rw [List.mem_singleton] at he; subst he
          exact ⟨⟨by decide, by decide⟩, ⟨by decide, by decide⟩, ⟨by decide, by decide⟩⟩
        · have hk0 : k = 0 := by simpa using hk
          subst hk0
          rw [alB.cell (p := ⟨w5.heap.size, _, none⟩) (by simp)]
          have := gp_new w5 (⟨0, 1, 2⟩ : Gp) 45 w5.heap.size rfl q hq
          simpa using this
      have q2 : Rd ((w5.alloc (.cells #[.int .i64 0, .int .i64 1, .int .i64 2] 45)).alloc (.cells #[.int .i64 1] 2)) (.slice (some ⟨w5.heap.size + 1, 0, none⟩) 1 1) [1] := by
        have h5 : Own ((w5.alloc (.cells #[.int .i64 0, .int .i64 1, .int .i64 2] 45)).alloc (.cells #[.int .i64 1] 2)) (w5.heap.size + 1) (.slice (some ⟨w5.heap.size + 1, 0, none⟩) 1 1) [1] := by
          have h6 : (w5.alloc (.cells #[.int .i64 0, .int .i64 1, .int .i64 2] 45)).heap.size = w5.heap.size + 1 := by simp
          have h7 := World.ownsRow_lit (w5.alloc (.cells #[.int .i64 0, .int .i64 1, .int .i64 2] 45)) #[.int .i64 1] 1 (Nat.le_refl _) (by unfold maxLen; omega) (e := 2) (size := 1) rfl
          rw [h6] at h7
          exact ⟨h7, by simp, Limbs.one (by decide) (by decide)⟩
        exact h5.rd
      have hI2 := reachI_any 2 _ _ [(⟨0, 1, 2⟩ : Gp)] [1] _ q1 q2 (by simp) (by simp)
      rw [ans_two] at hI2
      clear q1 q2 alB al1
      go_wp2_with fail
      refine hI2.mono ?_
      rintro e w9 ⟨a9, c9, rfl, O9, b9⟩
      clear hI2
      have B9 := B5.trans ((al2.mono B5.size).trans (b9.mono (by have := al2.size; have := B5.size; omega)))
      go_wp2
      go_ret
      exact ⟨rfl, B9⟩
    · have hzb : ((ZL : Int) == 0) = false := by rw [beq_eq_false_iff_ne]; omega
      have hOK := HOK.out (by omega)
      have HAN := HRL.out hOK
      obtain ⟨z, hz5⟩ : ∃ z, w5.heap.size = z := ⟨_, rfl⟩
      have o0 := OwnG.emptyD shGo 45 w5
      have al6 : Below w5.heap.size w5 (w5.alloc (.cells #[] 45)) := (Below.refl _ _).alloc (Nat.le_refl _) _
      rw [hz5] at o0 al6
      have HO0 : Hid (OwnG shGo 45 (w5.alloc (.cells #[] 45)) z (.slice (some ⟨z, 0, none⟩) 0 0) []) := o0
      have HB6 : Hid (Below z w5 (w5.alloc (.cells #[] 45))) := al6
      have HBZ : Hid (Below w.heap.size w w5 ∧ w.heap.size ≤ z) := ⟨B5, by rw [← hz5]; exact B5.size⟩
      have HOKR : Hid (OkR N hs rs) := hOK
      have HANS : Hid (ansA' (opsF N hs rs) ((opsR N hs rs).length + 1) = (ZL : Int)) := HAN
      clear o0 al6 B5 hOK HAN HRL HOK
      go_wp2_with fail
      go_loopw [8, 9] (fun q i wr => ∃ (k : Nat) (a' : Option Addr) (c' : Nat), k ≤ N ∧ i = .int .i64 ((k : Int) + 1) ∧ q = .slice a' k c' ∧ OwnG shGo 45 wr z (.slice a' k c') (List.replicate k opN) ∧ Below z w5 wr) (fun _ i _ => N + 1 - (intOf i).toNat)
      case atStart => exact ⟨0, some ⟨z, 0, none⟩, 0, Nat.zero_le _, rfl, rfl, HO0.out, HB6.out⟩
      case round =>
        obtain ⟨k, a', c', hk, rfl, rfl, oP, bP⟩ := hrel
        clear HO0 HB6
        generalize wr = Q1 at *
        have hzq : z ≤ Q1.heap.size := by rw [← hz5]; exact bP.size
        by_cases hkl : k < N
        · have hki : (k : Int) + 1 ≤ (N : Int) := by omega
          have hwk : IntKind.i64.wrap ((k : Int) + 1 + 1) = (k : Int) + 1 + 1 := wrap_small (by omega) (by omega)
          have HLT : Hid (∀ j, (Value.slice a' k c').ownBlock = some j → z ≤ j) := fun j hj => (oP.lt j hj).1
          have hrl2 : (List.replicate k opN).length = k := by simp
          go_wp2_with (at_builtin; refine wpList_append_one (S := shGo) Try.info45 rfl (by omega) rfl _ _ 26 rfl Try.underlying26 z _ (List.replicate k opN) opN ⟨⟨by decide, by decide⟩, ⟨by decide, by decide⟩, ⟨by decide, by decide⟩⟩ Q1.heap.size 1 rfl rfl (oP.alloc _) (gp_new _ opN _ _ rfl) (by omega) (by simp; omega) ?_; intro a2' c2' w' hO' hg')
          have hbf : Below z w5 w' := (bP.trans (((Below.refl _ Q1).alloc (Nat.le_refl _) _).mono hzq)).trans (gb_to hg' HLT.out (by simp; omega))
          go_roundw
          case rel => exact ⟨k + 1, a2', c2', by omega, by go_num, by simp, by rw [List.replicate_succ']; simpa using hO', hbf⟩
          case measure => simp [intOf]; omega
        · obtain rfl : N = k := by omega
          have hni : ¬ ((N : Int) + 1 ≤ (N : Int)) := by omega
          obtain ⟨X1, hX1⟩ : ∃ X1, List.replicate N opN = X1 := ⟨_, rfl⟩
          have HX1 : Hid (List.replicate N opN = X1) := hX1
          have HXL : Hid (X1.length = N) := by show _ = _; rw [← hX1]; simp
          rw [hX1] at oP
          have HOP : Hid (OwnG shGo 45 Q1 z (.slice a' N c') X1) := oP
          clear hX1 oP
          go_wp2_with fail
          go_loopw [8, 10] (fun q i wr => ∃ (j : Nat) (a' : Option Addr) (c' : Nat), j ≤ HL ∧ i = .int .i64 (j : Nat) ∧ q = .slice a' (N + j) c' ∧ OwnG shGo 45 wr z (.slice a' (N + j) c') (X1 ++ (hs.take j).map opH) ∧ Below z w5 wr) (fun _ i _ => HL - (intOf i).toNat)
          case atStart => exact ⟨0, a', c', Nat.zero_le _, rfl, rfl, by simpa using HOP.out, bP⟩
          case round =>
            obtain ⟨j, b', d', hj, rfl, rfl, oP, bQ⟩ := hrel
            clear HOP bP hzq
            generalize wr = Q2 at *
            have hzq : z ≤ Q2.heap.size := by rw [← hz5]; exact bQ.size
            by_cases hjl : j < HL
            · have hjL : j < hs.length := by rw [HHL.out]; exact hjl
              have hji : (j : Int) < (HL : Int) := by omega
              obtain ⟨E, hE⟩ : ∃ E, hs[j] = E := ⟨_, rfl⟩
              have HTS : Hid (hs.take (j + 1) = hs.take j ++ [E]) := by show _ = _; rw [List.take_succ_eq_append_getElem hjL, hE]
              have hEr := HOKR.out.2.2.1 E (by rw [← hE]; exact List.getElem_mem hjL)
              obtain ⟨va, vc, hv1, hv2, hv3, hv4, hv5⟩ := HRH5.out
              obtain ⟨gb, off, hv6, hgz, hgc⟩ := hv5 (by omega)
              have hv7 : a1 = some ⟨gb, off, none⟩ := by
                rw [hv6] at hv1
                simp only [Value.slice.injEq] at hv1
                exact hv1.1
              obtain ⟨y0, y1, y2⟩ := RdGo.at hgc j hjL
              rw [hE] at y1 y2
              have z1 := (World.cell?_of_block (a := ⟨gb, off + j * 3 + 1, none⟩) (bQ.block gb (by omega))).trans y1
              have z2 := (World.cell?_of_block (a := ⟨gb, off + j * 3 + 2, none⟩) (bQ.block gb (by omega))).trans y2
              obtain ⟨EA, hEA⟩ : ∃ EA, E.a = EA := ⟨_, rfl⟩
              obtain ⟨EB, hEB⟩ : ∃ EB, E.b = EB := ⟨_, rfl⟩
              rw [hEA] at z1 hEr
              rw [hEB] at z2 hEr
              have HOE : Hid (opH E = ⟨2, EA, EB⟩) := by show _ = _; unfold opH; rw [hEA, hEB]
              have alA : Below Q2.heap.size Q2 (Q2.drew.alloc (.cells #[.int .i64 2, .int .i64 EA, .int .i64 EB] 45)) := (Below.refl _ _).drew.alloc (Nat.le_refl _) _
              have oA := oP.keep alA
              have HLT : Hid (∀ q, (Value.slice b' (N + j) d').ownBlock = some q → z ≤ q) := fun q hq => (oP.lt q hq).1
              have HCC : Hid (∀ q, q < shGo.n → (Q2.drew.alloc (.cells #[.int .i64 2, .int .i64 EA, .int .i64 EB] 45)).cell? ⟨Q2.heap.size, q, none⟩ = (shGo.cs ⟨2, EA, EB⟩)[q]?) := gp_new Q2.drew ⟨2, EA, EB⟩ 45 Q2.heap.size rfl
              have HOKE : Hid (shGo.ok ⟨2, EA, EB⟩) := ⟨⟨by show -9223372036854775808 ≤ (2 : Int); decide, by show (2 : Int) < _; decide⟩, ⟨by show -9223372036854775808 ≤ EA; omega, by show EA < _; omega⟩, ⟨by show -9223372036854775808 ≤ EB; omega, by show EB < _; omega⟩⟩
              obtain ⟨XS, hXS⟩ : ∃ XS, X1 ++ (hs.take j).map opH = XS := ⟨_, rfl⟩
              have HXS : Hid (X1 ++ (hs.take j).map opH = XS) := hXS
              have hxl : XS.length = N + j := by rw [← hXS, List.length_append, HXL.out, List.length_map, List.length_take]; omega
              rw [hXS] at oA
              have hsz : (Q2.drew.alloc (.cells #[.int .i64 2, .int .i64 EA, .int .i64 EB] 45)).heap.size = Q2.heap.size + 1 := by simp
              have HKE : Hid (∀ w', (Q2.drew.alloc (.cells #[.int .i64 2, .int .i64 EA, .int .i64 EB] 45)).grownBy w' (Value.slice b' (N + j) d').ownBlock → w'.cell? ⟨gb, off + j * 3 + 1, none⟩ = some (.int .i64 EA) ∧ w'.cell? ⟨gb, off + j * 3 + 2, none⟩ = some (.int .i64 EB) ∧ Below z w5 w') := fun w' hg => by
                have e1 : w'.heap[gb]? = Q2.heap[gb]? := (hg.block gb (by rw [hsz]; omega) (fun e => by have := HLT.out gb e.symm; omega)).trans (alA.block gb (by omega))
                exact ⟨(World.cell?_of_block (a := ⟨gb, off + j * 3 + 1, none⟩) e1).trans z1, (World.cell?_of_block (a := ⟨gb, off + j * 3 + 2, none⟩) e1).trans z2, (bQ.trans (alA.mono hzq)).trans (gb_to hg HLT.out (by rw [hsz]; omega))⟩
              have hlen : XS.length + 1 ≤ 16777216 := by omega
              have hBA : z ≤ (Q2.drew.alloc (.cells #[.int .i64 2, .int .i64 EA, .int .i64 EB] 45)).heap.size := by rw [hsz]; omega
              have HXLN : Hid (XS.length = N + j) := hxl
              clear y0 y1 y2 hgc hE hEA hEB hXS hv1 hv2 hv3 hv4 hv5 hv6 oP alA hxl
              subst hv7
              go_wp2_with fail
              go_region_held3 (fun W => W.cell? ⟨gb, off + j * 3 + 1, none⟩ = some (.int .i64 EA) ∧ W.cell? ⟨gb, off + j * 3 + 2, none⟩ = some (.int .i64 EB)) (go_keep) (first | (refine step_append_oneL (S := shGo) Try.info45 rfl (by omega) rfl (.tmp 68) (.tmp 80) 26 rfl Try.underlying26 z (.slice b' (N + j) d') XS ⟨2, EA, EB⟩ HOKE.out Q2.heap.size 1 (by simp [Act.eval, Act.put]) (by simp [Act.eval, Act.put]) oA HCC.out hlen hBA ?_; intro b2 c2' w' oF4 hg4 hl4 hz4; obtain ⟨k1, k2, k3⟩ := HKE.out w' hg4))
              rw [HXLN.out] at oF4
              have HOF : Hid (OwnG shGo 45 w' z (.slice (some ⟨b2, 0, none⟩) (N + j + 1) c2') (X1 ++ (hs.take (j + 1)).map opH)) := by
                show OwnG _ _ _ _ _ _
                rw [HTS.out, List.map_append, ← List.append_assoc, HXS.out, List.map_singleton, HOE.out]
                exact oF4
              have HB3 : Hid (Below z w5 w') := k3
              have hxl := HXLN.out
              clear oF4 hg4 hl4 k3
              go_wp2
              go_roundw
              case rel => exact ⟨j + 1, some ⟨b2, 0, none⟩, c2', by omega, by go_num, by simp [HXLN.out, Nat.add_assoc], by rw [← Nat.add_assoc]; exact HOF.out, HB3.out⟩
              case measure => simp [intOf]; omega
            · obtain rfl : HL = j := by omega
              have hni2 : ¬ ((HL : Int) < (HL : Int)) := by omega
              rw [List.take_of_length_le (by rw [HHL.out]; exact Nat.le_refl _)] at oP
              obtain ⟨X2, hX2⟩ : ∃ X2, X1 ++ hs.map opH = X2 := ⟨_, rfl⟩
              have HX2 : Hid (X1 ++ hs.map opH = X2) := hX2
              obtain ⟨M2, hM2⟩ : ∃ M2, N + HL = M2 := ⟨_, rfl⟩
              have HM2 : Hid (N + HL = M2) := hM2
              have HXL2 : Hid (X2.length = M2) := by show _ = _; rw [← hX2, List.length_append, HXL.out, List.length_map, HHL.out]; exact hM2
              have hM2b : M2 ≤ 90 := by omega
              rw [hX2, hM2] at oP
              have HOP : Hid (OwnG shGo 45 Q2 z (.slice b' M2 d') X2) := oP
              simp only [hM2]
              clear hX2 oP hM2
              go_wp2_with fail
              go_loopw [8, 11] (fun q i wr => ∃ (j : Nat) (a' : Option Addr) (c' : Nat), j ≤ RL ∧ i = .int .i64 (j : Nat) ∧ q = .slice a' (M2 + j) c' ∧ OwnG shGo 45 wr z (.slice a' (M2 + j) c') (X2 ++ (rs.take j).map opR) ∧ Below z w5 wr) (fun _ i _ => RL - (intOf i).toNat)
              case atStart => exact ⟨0, b', d', Nat.zero_le _, rfl, rfl, by simpa using HOP.out, bQ⟩
              case round =>
                obtain ⟨j, e', g', hj, rfl, rfl, oP, bR⟩ := hrel
                clear HOP bQ hzq
                generalize wr = Q3 at *
                have hzq : z ≤ Q3.heap.size := by rw [← hz5]; exact bR.size
                by_cases hjl : j < RL
                · have hjL : j < rs.length := by rw [HRLn.out]; exact hjl
                  have hji : (j : Int) < (RL : Int) := by omega
                  obtain ⟨R, hR⟩ : ∃ R, rs[j] = R := ⟨_, rfl⟩
                  have HTS : Hid (rs.take (j + 1) = rs.take j ++ [R]) := by show _ = _; rw [List.take_succ_eq_append_getElem hjL, hR]
                  have hRr := HOKR.out.2.2.2 R (by rw [← hR]; exact List.getElem_mem hjL)
                  obtain ⟨va, vc, hv1, hv2, hv3, hv4, hv5⟩ := HRR5.out
                  obtain ⟨gb, off, hv6, hgz, hgc⟩ := hv5 (by omega)
                  have hv7 : a2 = some ⟨gb, off, none⟩ := by
                    rw [hv6] at hv1
                    simp only [Value.slice.injEq] at hv1
                    exact hv1.1
                  have y0 := hgc j hjL
                  have hgd : rs.getD j 0 = R := by rw [← hR]; simp [List.getD, hjL]
                  rw [hgd] at y0
                  have z0 := (World.cell?_of_block (a := ⟨gb, off + j, none⟩) (bR.block gb (by omega))).trans y0
                  obtain ⟨XS, hXS⟩ : ∃ XS, X2 ++ (rs.take j).map opR = XS := ⟨_, rfl⟩
                  have HXS : Hid (X2 ++ (rs.take j).map opR = XS) := hXS
                  have hxl : XS.length = M2 + j := by rw [← hXS, List.length_append, HXL2.out, List.length_map, List.length_take]; omega
                  rw [hXS] at oP
                  have HLT : Hid (∀ q, (Value.slice e' (M2 + j) g').ownBlock = some q → z ≤ q) := fun q hq => (oP.lt q hq).1
                  have HXLN : Hid (XS.length = M2 + j) := hxl
                  have hlen : XS.length + 1 ≤ 16777216 := by omega
                  clear y0 hgc hR hgd hXS hv1 hv2 hv3 hv4 hv5 hv6 hxl
                  subst hv7
                  go_wp2_with (at_builtin; refine wpList_append_one (S := shGo) Try.info45 rfl (by omega) rfl _ _ 26 rfl Try.underlying26 z _ XS (opR R) (⟨⟨by show -9223372036854775808 ≤ (4 : Int); decide, by show (4 : Int) < _; decide⟩, ⟨by show -9223372036854775808 ≤ R; omega, by show R < _; omega⟩, ⟨by show -9223372036854775808 ≤ (0 : Int); decide, by show (0 : Int) < _; decide⟩⟩ : shGo.ok (opR R)) Q3.heap.size 1 rfl rfl (oP.alloc _) (gp_new _ (opR R) _ _ rfl) hlen (by simp; omega) ?_; intro a2' c2' w' hO' hg')
                  have hbf : Below z w5 w' := (bR.trans (((Below.refl _ Q3).alloc (Nat.le_refl _) _).mono hzq)).trans (gb_to hg' HLT.out (by simp; omega))
                  have HOF : Hid (OwnG shGo 45 w' z (.slice a2' (M2 + j + 1) c2') (X2 ++ (rs.take (j + 1)).map opR)) := by
                    show OwnG _ _ _ _ _ _
                    rw [HTS.out, List.map_append, ← List.append_assoc, HXS.out, List.map_singleton]
                    rw [List.length_append, HXLN.out] at hO'
                    exact hO'
                  clear hO' hg'
                  go_roundw
                  case rel => exact ⟨j + 1, a2', c2', by omega, by go_num, by simp [HXLN.out, Nat.add_assoc], by rw [← Nat.add_assoc]; exact HOF.out, hbf⟩
                  case measure => simp [intOf]; omega
                · obtain rfl : RL = j := by omega
                  have hni3 : ¬ ((RL : Int) < (RL : Int)) := by omega
                  rw [List.take_of_length_le (by rw [HRLn.out]; exact Nat.le_refl _)] at oP
                  obtain ⟨X3, hX3⟩ : ∃ X3, X2 ++ rs.map opR = X3 := ⟨_, rfl⟩
                  have HX3 : Hid (X2 ++ rs.map opR = X3) := hX3
                  obtain ⟨M3, hM3⟩ : ∃ M3, M2 + RL = M3 := ⟨_, rfl⟩
                  have HM3 : Hid (M2 + RL = M3) := hM3
                  have HXL3 : Hid (X3.length = M3) := by show _ = _; rw [← hX3, List.length_append, HXL2.out, List.length_map, HRLn.out]; exact hM3
                  have hM3b : M3 ≤ 94 := by omega
                  rw [hX3, hM3] at oP
                  have HOP : Hid (OwnG shGo 45 Q3 z (.slice e' M3 g') X3) := oP
                  simp only [hM3]
                  clear hX3 oP hM3
                  go_wp2_with fail
                  go_loopw [8, 12] (fun q i wr => ∃ (j : Nat) (a' : Option Addr) (c' : Nat), j ≤ N ∧ i = .int .i64 ((j : Int) + 1) ∧ q = .slice a' (M3 + j) c' ∧ OwnG shGo 45 wr z (.slice a' (M3 + j) c') (X3 ++ (List.range j).map (fun i : Nat => opU ((i : Int) + 1))) ∧ Below z w5 wr) (fun _ i _ => N + 1 - (intOf i).toNat)
                  case atStart => exact ⟨0, e', g', Nat.zero_le _, rfl, rfl, by simpa using HOP.out, bR⟩
                  case round =>
                    obtain ⟨j, f', h', hj, rfl, rfl, oP, bS⟩ := hrel
                    clear HOP bR hzq
                    generalize wr = Q4 at *
                    have hzq : z ≤ Q4.heap.size := by rw [← hz5]; exact bS.size
                    by_cases hjl : j < N
                    · have hji : (j : Int) + 1 ≤ (N : Int) := by omega
                      have hwj : IntKind.i64.wrap ((j : Int) + 1 + 1) = (j : Int) + 1 + 1 := wrap_small (by omega) (by omega)
                      obtain ⟨XS, hXS⟩ : ∃ XS, X3 ++ (List.range j).map (fun i : Nat => opU ((i : Int) + 1)) = XS := ⟨_, rfl⟩
                      have HXS : Hid (X3 ++ (List.range j).map (fun i : Nat => opU ((i : Int) + 1)) = XS) := hXS
                      have hxl : XS.length = M3 + j := by rw [← hXS, List.length_append, HXL3.out, List.length_map, List.length_range]
                      rw [hXS] at oP
                      have HLT : Hid (∀ q, (Value.slice f' (M3 + j) h').ownBlock = some q → z ≤ q) := fun q hq => (oP.lt q hq).1
                      have HXLN : Hid (XS.length = M3 + j) := hxl
                      have hlen : XS.length + 1 ≤ 16777216 := by omega
                      clear hXS hxl
                      go_wp2_with (at_builtin; refine wpList_append_one (S := shGo) Try.info45 rfl (by omega) rfl _ _ 26 rfl Try.underlying26 z _ XS (opU ((j : Int) + 1)) (⟨⟨by show -9223372036854775808 ≤ (5 : Int); decide, by show (5 : Int) < _; decide⟩, ⟨by show -9223372036854775808 ≤ ((j : Int) + 1); omega, by show ((j : Int) + 1) < _; omega⟩, ⟨by show -9223372036854775808 ≤ (0 : Int); decide, by show (0 : Int) < _; decide⟩⟩ : shGo.ok (opU ((j : Int) + 1))) Q4.heap.size 1 rfl rfl (oP.alloc _) (gp_new _ (opU ((j : Int) + 1)) _ _ rfl) hlen (by simp; omega) ?_; intro a2' c2' w' hO' hg')
                      have hbf : Below z w5 w' := (bS.trans (((Below.refl _ Q4).alloc (Nat.le_refl _) _).mono hzq)).trans (gb_to hg' HLT.out (by simp; omega))
                      have HOF : Hid (OwnG shGo 45 w' z (.slice a2' (M3 + j + 1) c2') (X3 ++ (List.range (j + 1)).map (fun i : Nat => opU ((i : Int) + 1)))) := by
                        show OwnG _ _ _ _ _ _
                        rw [List.range_succ, List.map_append, ← List.append_assoc, HXS.out, List.map_singleton]
                        rw [List.length_append, HXLN.out] at hO'
                        exact hO'
                      clear hO' hg'
                      go_roundw
                      case rel => exact ⟨j + 1, a2', c2', by omega, by go_num, by simp [HXLN.out, Nat.add_assoc], by rw [← Nat.add_assoc]; exact HOF.out, hbf⟩
                      case measure => simp [intOf]; omega
                    · obtain rfl : N = j := by omega
                      have hni4 : ¬ ((N : Int) + 1 ≤ (N : Int)) := by omega
                      obtain ⟨X4, hX4⟩ : ∃ X4, X3 ++ (List.range N).map (fun i : Nat => opU ((i : Int) + 1)) = X4 := ⟨_, rfl⟩
                      have HX4 : Hid (X4 = opsR N hs rs) := by show _ = _; rw [← hX4, ← HX3.out, ← HX2.out, ← HX1.out]; rfl
                      obtain ⟨M4, hM4⟩ : ∃ M4, M3 + N = M4 := ⟨_, rfl⟩
                      have hM4b : M4 ≤ 124 := by omega
                      have hxl : X4.length = M4 := by rw [← hX4, List.length_append, HXL3.out, List.length_map, List.length_range]; exact hM4
                      have HXL4 : Hid (X4.length = M4) := hxl
                      rw [hX4, hM4] at oP
                      simp only [hM4]
                      have HLT : Hid (∀ q, (Value.slice f' M4 h').ownBlock = some q → z ≤ q) := fun q hq => (oP.lt q hq).1
                      have hlen : X4.length + [opC, opA].length ≤ 16777216 := by simp; omega
                      clear hX4 hM4 hxl
                      go_wp2_with (at_builtin; refine wpList_append_many (S := shGo) Try.info45 rfl (by omega) rfl _ _ 26 rfl Try.underlying26 z _ X4 [opC, opA] (fun e he => by simp only [List.mem_cons, List.not_mem_nil, or_false] at he; rcases he with rfl | rfl <;> exact ⟨⟨by decide, by decide⟩, ⟨by decide, by decide⟩, ⟨by decide, by decide⟩⟩) Q4.heap.size 2 2 rfl rfl rfl (oP.alloc _) (gp_two _ opC opA _ _ rfl) hlen (by simp; omega) ?_; intro a2' c2' w' hO' hg')
                      have hbf : Below z w5 w' := (bS.trans (((Below.refl _ Q4).alloc (Nat.le_refl _) _).mono hzq)).trans (gb_to hg' HLT.out (by simp; omega))
                      have hbz : Below w.heap.size w w' := HBZ.out.1.trans (hbf.mono HBZ.out.2)
                      have hOP : OwnG shGo 45 w' z (.slice a2' (X4.length + 2) c2') (X4 ++ [opC, opA]) := by simpa using hO'
                      have hRn := gcRunI_any _ _ w' hOP.rd
                      have hEQ : ansG (X4 ++ [opC, opA]) = outA (opsF N hs rs) (M4 + 1 + 1) := by
                        have h5 : X4 ++ [opC, opA] = opsF N hs rs := by unfold opsF; rw [HX4.out]
                        have h6 : (opsF N hs rs).length = M4 + 1 + 1 := by rw [← h5]; simp [HXL4.out]
                        rw [h5]
                        unfold ansG
                        rw [if_pos (by omega), h6]
                      unfold RnP at hRn
                      rw [hEQ, outA_len] at hRn
                      have HLA : Hid ((outA (opsF N hs rs) (M4 + 1 + 1)).getD (M4 + 1) 0 = (ZL : Int)) := by
                        show _ = _
                        have h7 : (opsR N hs rs).length + 1 = M4 + 1 := by rw [← HX4.out, HXL4.out]
                        have h8 := HANS.out
                        rw [h7] at h8
                        rw [← h8]
                        unfold outA
                        simp [List.getD]
                      have hxl := HXL4.out
                      rw [hxl] at hRn
                      simp only [hxl]
                      clear hEQ hOP hO' hg' hxl
                      refine hRn.mono ?_
                      rintro e w9 ⟨xa, xc, ya, yc, rfl, oX, oY, b9⟩
                      clear hRn
                      have hB9 : Below w.heap.size w w9 := hbz.trans (b9.mono hbz.size)
                      obtain ⟨K1, hK1⟩ : ∃ K1, M4 + 1 = K1 := ⟨_, rfl⟩
                      rw [hK1] at oX HLA
                      have hK2 : M4 + 2 = K1 + 1 := by omega
                      simp only [hK1, hK2]
                      obtain ⟨xg, hxg⟩ : ∃ xg, xa = some ⟨xg, 0, none⟩ := by
                        rcases oX.1.2 with ⟨e1, e2⟩ | ⟨g', cap, cur, e1, _⟩
                        · simp at e1
                        · simp only [Value.slice.injEq] at e1
                          exact ⟨g', e1.1⟩
                      subst hxg
                      have cL := oX.cell K1 (by rw [outA_len]; omega)
                      rw [HLA.out] at cL
                      have hw1 : IntKind.i64.wrap (K1 : Int) = (K1 : Int) := wrap_small (by omega) (by omega)
                      have hKb : K1 ≤ 200 := by omega
                      clear oX oY b9 hK2 HLA
                      go_wp2
                      go_ret
                      exact ⟨rfl, hB9⟩
end Go.Proofs.Ytjnalkeopehlbaa
