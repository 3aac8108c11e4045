import Derived.Test.YtlnekedehalbdaaFsE
namespace Go.Proofs.Ytlnekedehalbdaa
open Go.RowKit
set_option linter.unusedVariables false
set_option linter.unusedSimpArgs false

/-- Which things of the order have been seen. -/
def Sn (N : Nat) (O : List Int) (i : Nat) (S : List Bool) : Prop := S.length = N ∧ ∀ j (h : j < S.length), S[j] = decide ((j : Int) ∈ O.take i)
theorem Sn.zero (N : Nat) (O : List Int) : Sn N O 0 (List.replicate N false) := ⟨by simp, fun j h => by simp⟩
theorem Sn.step {N : Nat} {O : List Int} {i : Nat} {S : List Bool} (h : Sn N O i S) (hi : i < O.length) (x : Nat) (hx : O.getD i 0 = (x : Int)) : Sn N O (i + 1) (S.set x true) := by
  refine ⟨by simp [h.1], fun j hj => ?_⟩
  simp only [List.length_set] at hj
  have e : O[i] = (x : Int) := by rw [← hx]; simp [List.getD, hi]
  rw [List.getElem_set, List.take_succ_eq_append_getElem hi, e]
  by_cases hxj : x = j
  · subst hxj; simp
  · rw [if_neg hxj, h.2 j hj]
    simp only [List.mem_append, List.mem_singleton]
    have : ¬ (j : Int) = (x : Int) := by omega
    simp [this]

theorem Rd.atN {w : World} {a : Option Addr} {N c : Nat} {K : List Int} (h : Rd w (.slice a N c) K) (hn : 0 < N) : ∃ b off, a = some ⟨b, off, none⟩ ∧ b < w.heap.size ∧ ∀ k, k < N → w.cell? ⟨b, off + k, none⟩ = some (.int .i64 (K.getD k 0)) := by
  obtain ⟨a', c', e, hl, hz, h0, hc⟩ := h
  simp only [Value.slice.injEq] at e
  obtain ⟨rfl, e2, rfl⟩ := e
  obtain ⟨b, off, e, hb, hcc⟩ := hc (by omega)
  exact ⟨b, off, e, hb, fun k hk => hcc k (by omega)⟩
set_option maxRecDepth 100000 in
set_option maxHeartbeats 4000000 in
theorem law_sorted (a : Option Addr) (ZL c : Nat) (zs : List Int) (w : World) (hl : ZL ≤ 9223372036854775807) (hr : ZL ≤ 1048576 → Src w a ZL c zs) :
    Calls Try.prog 5 #[.slice a ZL c] w fun e w' => e = .returned (.bool true) ∧ Below w.heap.size w w' := by
  have HB := fun W => big_any W a ZL c
  by_cases hbig : 1048576 < ZL
  · rw [decide_eq_true (by omega)] at HB
    go_enter Try.func5, Try.ntmps5
    go_wp2_with fail
    refine (HB _).mono ?_
    rintro e w2 ⟨rfl, rfl⟩
    go_wp2
    go_ret
    exact ⟨rfl, Below.refl _ _⟩
  rw [decide_eq_false (by omega)] at HB
  have HD := drawSort_any w a ZL c zs (hr (by omega))
  clear hr hl hbig
  go_enter Try.func5, Try.ntmps5
  go_wp2_with fail
  refine (HB _).mono ?_
  rintro e w1 ⟨rfl, hw1⟩
  rw [hw1]
  clear hw1 w1
  go_wp2_with fail
  refine HD.mono ?_
  rintro e w2 ⟨kv, K, rfl, hK, OK, V2⟩
  clear HD HB
  obtain ⟨ka, kc, rfl⟩ := OK.form
  obtain ⟨N, hN⟩ : ∃ N, K.length = N := ⟨_, rfl⟩
  have HN : Hid (K.length = N) := hN
  rw [hN] at hK OK ⊢
  have RK := OK.rd
  have hz2 := V2.size
  clear hN OK
  go_wp2_with (at_builtin; refine wpList_append_rg rfl _ _ 22 rfl Try.underlying22 w2.heap.size _ _ [] K N (by simp [HN.out]) rfl rfl (Own.empty w2) (RK.alloc _) (by omega) (by simp) ?_; intro a3 c3 w3 O3 hg3)
  have b3 : Below w2.heap.size w2 w3 := ((Below.refl _ w2).alloc (Nat.le_refl _) (.cells #[] 2)).grown hg3 (by simp) (fun j hj => by cases hj; exact Nat.le_refl _)
  rw [List.nil_append] at O3
  have HI := keysI_any w3 _ K O3.rd
  clear O3 hg3
  refine HI.mono ?_
  rintro e w4 ⟨ov, rfl, O4, b4⟩
  have V3 := V2.trans (b3.mono hz2)
  have V4 := V3.trans (b4.mono V3.size)
  have RK4 := (RK.keep b3).keep b4
  clear HI b3 b4 RK V2 V3
  by_cases hbig : 2000 < N
  · have e : ansK K = ([], -1) := by unfold ansK; rw [if_pos (by rw [HN.out]; exact hbig)]
    rw [e] at O4 ⊢
    obtain ⟨oa, oc, rfl⟩ := O4.form
    have hbz : (2000 : Int) < (N : Int) := by omega
    go_wp2
    go_ret
    exact ⟨rfl, V4⟩
  · obtain ⟨O, H, e, hS⟩ := sd K (by rw [HN.out]; omega)
    rw [e] at O4 ⊢
    have RO := O4.rd
    obtain ⟨oa, oc, rfl⟩ := O4.form
    have hOl : O.length = N := by rw [← HN.out]; exact hS.len
    have hmy := hS.many
    rw [HN.out] at hmy
    obtain ⟨M, hM⟩ : ∃ M, H.length = M := ⟨_, rfl⟩
    have HM : Hid (H.length = M) := hM
    have HS : Hid (Sd K O H) := hS
    simp only at RO O4 ⊢
    rw [hOl] at RO ⊢
    rw [hM] at hmy ⊢
    have HO : Hid (O.length = N) := hOl
    clear hOl hM hS e O4
    have hbz : ¬ (2000 : Int) < (N : Int) := by omega
    have hnn : ((N : Int) != (N : Int)) = false := by simp
    have hm0 : ¬ (M : Int) < 0 := by omega
    rcases (show (1 : Int) < (N : Int) ∨ ¬ (1 : Int) < (N : Int) by omega) with h1 | h1
    · have hm1 : ¬ (M : Int) < (N : Int) - 1 := by omega
      obtain ⟨i0, hi, hz0, hz1, hz2b⟩ := info_parts Try.info4
      go_wp2_with (at_make; refine wpList_make_full _ rfl _ _ 29 rfl w4.heap.size 4 i0 (.bool false) 1 Try.underlying29 hi hz0 hz1 .i64 .i64 _ _ N rfl rfl rfl rfl (by rw [hz2b]; omega) (by unfold maxLen; omega) (Nat.le_refl _) ?_; intro w5 hown hgrow)
      have hSt : OwnG shB 4 w5 w4.heap.size (.slice (some ⟨w4.heap.size, 0, none⟩) N N) (List.replicate N false) := by
        refine ⟨?_, by simp; omega, fun _ _ => trivial⟩
        have e : (madeCells (Value.cells (.bool false)) (N * 1)).toList = (List.replicate N false).flatMap shB.cs := by
          have : Value.cells (.bool false) = #[.bool false] := rfl
          rw [this, toList_madeCells_one, flat_b]; simp
        rw [e] at hown
        show w5.ownsRow w4.heap.size 4 1 _ (List.replicate N false).length _
        rw [List.length_replicate]
        exact hown
      have b5 : Below w4.heap.size w4 w5 := (Below.refl _ _).grown hgrow (Nat.le_refl _) (by intro k h; cases h)
      clear hown hgrow hi hz0 hz1 hz2b i0
      go_loopw [8] (fun vi wr => ∃ (i : Nat) (S : List Bool), i ≤ N ∧ vi = .int .i64 i ∧ Sn N O i S ∧ OwnG shB 4 wr w4.heap.size (.slice (some ⟨w4.heap.size, 0, none⟩) N N) S ∧ Below w4.heap.size w4 wr) (fun vi _ => N - (RowKit.intOf vi).toNat)
      case atStart => exact ⟨0, _, Nat.zero_le _, rfl, Sn.zero N O, hSt, b5⟩
      case round =>
        obtain ⟨i, S, hi, rfl, hSn, OS, hB⟩ := hrel
        clear hSt b5
        by_cases hlt : i < N
        · obtain ⟨kb, ko, rfl, hkb, hkc⟩ := RK4.atN (by omega)
          obtain ⟨ob, oo, rfl, hob, hoc⟩ := RO.atN (by omega)
          obtain ⟨x, hx, hxN, hnew⟩ := HS.out.at_ i (by rw [HN.out]; exact hlt)
          rw [HN.out] at hxN
          have hxl : x < S.length := by rw [hSn.1]; exact hxN
          have co : wr.cell? ⟨ob, oo + i, none⟩ = some (.int .i64 x) := ((hB.cell (p := ⟨ob, oo + i, none⟩) hob).trans (hoc i hlt)).trans (by rw [hx])
          have cs := OS.cell x hxl 0 (by decide)
          simp only [show shB.n = 1 from rfl, Nat.mul_one, Nat.add_zero, shB, List.getElem?_cons_zero] at cs
          rw [hSn.2 x hxl, decide_eq_false hnew] at cs
          have fz := OS.frozen x
          have hput := OS.put x hxl 0 (by decide) (.bool true) true trivial (by simp [shB])
          simp only [show shB.n = 1 from rfl, Nat.mul_one, Nat.add_zero] at hput
          have hSn1 := hSn.step (by rw [HO.out]; exact hlt) x hx
          have b1 : Below w4.heap.size w4 (wr.setCell ⟨w4.heap.size, x, none⟩ (.bool true)) := hB.setCell (Nat.le_refl _) _
          have c1 : (wr.setCell ⟨w4.heap.size, x, none⟩ (.bool true)).cell? ⟨ob, oo + i, none⟩ = some (.int .i64 x) := ((b1.cell (p := ⟨ob, oo + i, none⟩) hob).trans (hoc i hlt)).trans (by rw [hx])
          have c2 : (wr.setCell ⟨w4.heap.size, x, none⟩ (.bool true)).cell? ⟨kb, ko + x, none⟩ = some (.int .i64 (K.getD x 0)) := (b1.cell (p := ⟨kb, ko + x, none⟩) hkb).trans (hkc x hxN)
          have hlz : (i : Int) < (N : Int) := by omega
          have hxz : (x : Int) < (N : Int) := by omega
          have d1 : decide ((x : Int) < 0) = false := decide_eq_false (by omega)
          have d2 : decide ((N : Int) ≤ (x : Int)) = false := decide_eq_false (by omega)
          have Hf : Hid (Sn N O (i + 1) (S.set x true) ∧ OwnG shB 4 (wr.setCell ⟨w4.heap.size, x, none⟩ (.bool true)) w4.heap.size (.slice (some ⟨w4.heap.size, 0, none⟩) N N) (S.set x true) ∧ Below w4.heap.size w4 (wr.setCell ⟨w4.heap.size, x, none⟩ (.bool true))) := ⟨hSn1, hput, b1⟩
          by_cases hi0 : i = 0
          · have d0 : decide ((0 : Int) < (i : Int)) = false := decide_eq_false (by omega)
            have d00 : decide (0 < i) = false := decide_eq_false (by omega)
            have hi00 : Hid (i = 0) := hi0
            clear hput hSn1 b1 OS hSn hB hnew hoc hkc hi0
            go_wp2_with fail
            go_quiet (fail)
            go_wp2
            go_roundw
            case rel => obtain ⟨q1, q2, q3⟩ := Hf.out; exact ⟨i + 1, _, by omega, by go_num, q1, q2.keep (below_dq (Below.refl _ _) _), below_dq q3 _⟩
            case measure => simp [RowKit.intOf]; omega
          · obtain ⟨j, rfl⟩ : ∃ j, i = j + 1 := ⟨i - 1, by omega⟩
            obtain ⟨y, hy, hyN, -⟩ := HS.out.at_ j (by rw [HN.out]; omega)
            rw [HN.out] at hyN
            have hL := HS.out.lt j (by rw [HN.out]; omega)
            rw [hx, hy] at hL
            have c3 : (wr.setCell ⟨w4.heap.size, x, none⟩ (.bool true)).cell? ⟨ob, oo + j, none⟩ = some (.int .i64 y) := ((b1.cell (p := ⟨ob, oo + j, none⟩) hob).trans (hoc j (by omega))).trans (by rw [hy])
            have c4 : (wr.setCell ⟨w4.heap.size, x, none⟩ (.bool true)).cell? ⟨kb, ko + y, none⟩ = some (.int .i64 (K.getD y 0)) := (b1.cell (p := ⟨kb, ko + y, none⟩) hkb).trans (hkc y hyN)
            unfold Lt kv at hL
            simp only [Int.toNat_natCast] at hL
            generalize K.getD x 0 = KX at *
            generalize K.getD y 0 = KY at *
            clear hput hSn1 b1 OS hSn hB hnew hoc hkc
            have e1 : decide (KX < KY) = false := decide_eq_false (by omega)
            have hyz : (y : Int) < (N : Int) := by omega
            have hjz : (j : Int) < (N : Int) := by omega
            have d9 : decide ((0 : Int) < (j : Int) + 1) = true := decide_eq_true (by omega)
            by_cases he : KY = KX
            · have e2 : (KY == KX) = true := by simp [he]
              have e3 : decide ((x : Int) < (y : Int)) = false := decide_eq_false (by omega)
              have e4 : decide (x < y) = false := decide_eq_false (by omega)
              clear hL he
              go_wp2_with fail
              go_quiet (fail)
              go_wp2
              go_roundw
              case rel => obtain ⟨q1, q2, q3⟩ := Hf.out; exact ⟨j + 2, _, by omega, by go_num, q1, q2.keep (below_dq (Below.refl _ _) _), below_dq q3 _⟩
              case measure => simp [RowKit.intOf]; omega
            · have e2 : (KY == KX) = false := by simp [he]
              clear hL he
              go_wp2_with fail
              go_quiet (fail)
              go_wp2
              go_roundw
              case rel => obtain ⟨q1, q2, q3⟩ := Hf.out; exact ⟨j + 2, _, by omega, by go_num, q1, q2.keep (below_dq (Below.refl _ _) _), below_dq q3 _⟩
              case measure => simp [RowKit.intOf]; omega
        · obtain rfl : i = N := by omega
          clear OS hSn hlt hi
          generalize wr = wb at *
          by_cases h60 : 60 < i
          · have h60z : (60 : Int) < (i : Int) := by omega
            go_wp2
            go_ret
            exact ⟨rfl, V4.trans (hB.mono V4.size)⟩
          · have h60z : ¬ (60 : Int) < (i : Int) := by omega
            go_wp2
            go_loopw [9] (fun v w' => ∃ j : Nat, j ≤ M ∧ OwnG shB 4 w' wb.heap.size v ((H.take j).map (kl K)) ∧ Below wb.heap.size wb w') (fun v _ => M - slM v)
            case atStart => exact ⟨0, Nat.zero_le _, ⟨by simpa using World.ownsRow_lit wb #[] 0 (Nat.le_refl _) (Nat.zero_le _) rfl, by simp, by simp⟩, (Below.refl _ _).alloc (Nat.le_refl _) _⟩
            case round =>
              obtain ⟨j, hj, OA, bA⟩ := hrel
              have hpl := HS.out.plan j (by rw [HM.out]; exact hj)
              rw [HN.out] at hpl
              have hal : ((H.take j).map (kl K)).length = j := by have := HM.out; simp; omega
              have HA : Hid (((H.take j).map (kl K)).length = j) := hal
              have HP := planI_any wr (i : Int) _ _ OA.rd (by omega) (by omega)
              rw [hpl] at HP
              obtain ⟨va, vc, rfl⟩ := OA.form
              rw [hal] at OA HP ⊢
              have hzA := bA.size
              clear hal hpl
              by_cases hjm : j < M
              · rw [if_pos (by rw [HM.out]; exact hjm)] at HP
                go_wp2_with fail
                refine HP.mono ?_
                rintro e w7 ⟨qv, gv, rfl, OQ, OG, b7⟩
                have B7 : Hid (Below wr.heap.size wr w7) := b7
                simp only at OQ OG ⊢
                obtain ⟨qa, qc, rfl⟩ := OQ.form
                have hql : (H.take (j + 1)).length = j + 1 := by have := HM.out; simp; omega
                have hjl : j < (H.take (j + 1)).length := by omega
                obtain ⟨e1, e2⟩ | ⟨qb, qc', e1, hqB, hqz, hqc⟩ := OQ.shape
                · exact absurd hjl (by rw [e2]; simp)
                simp only [Value.slice.injEq] at e1
                obtain ⟨e1, -, e3⟩ := e1
                subst e1 e3
                obtain ⟨c0, c1⟩ := RdQ.at (off := 0) (fun k hk j hj => by rw [Nat.zero_add]; exact OQ.cell k hk j hj) j hjl
                simp only [Nat.zero_add] at c0 c1
                have hmem : (H.take (j + 1))[j] ∈ H := List.mem_of_mem_take (List.getElem_mem hjl)
                have hAk := HS.out.ak _ hmem
                rw [HN.out] at hAk
                have hgj : H[j]? = some (H.take (j + 1))[j] := by rw [List.getElem_take]; simp [show j < H.length by rw [HM.out]; exact hjm]
                generalize (H.take (j + 1))[j] = P at *
                obtain ⟨A, B⟩ := P
                simp only at c0 c1 hAk
                have hjb : j + 1 ≤ 16777216 := by have := OQ.2.1; omega
                have hjz1 : (j : Int) + 1 ≤ 16777216 := by omega
                rw [hql] at OQ ⊢
                obtain ⟨An, rfl⟩ : ∃ An : Nat, A = (An : Int) := ⟨A.toNat, by omega⟩
                obtain ⟨Bn, rfl⟩ : ∃ Bn : Nat, B = (Bn : Int) := ⟨B.toNat, by omega⟩
                clear hql hjl hmem OG
                have g1 : decide ((An : Int) < 0) = false := decide_eq_false (by omega)
                have g2 : decide ((Bn : Int) < 0) = false := decide_eq_false (by omega)
                have g3 : decide ((i : Int) ≤ (An : Int)) = false := decide_eq_false (by omega)
                have g4 : decide ((i : Int) ≤ (Bn : Int)) = false := decide_eq_false (by omega)
                have g5 : ((An : Int) == (Bn : Int)) = false := by simp; omega
                have g3n : decide (i ≤ An) = false := decide_eq_false (by omega)
                have g4n : decide (i ≤ Bn) = false := decide_eq_false (by omega)
                have g5n : (An == Bn) = false := by simp; omega
                have hAi : An < i := by omega
                have hBi : Bn < i := by omega
                have hAiz : (An : Int) < (i : Int) := by omega
                have hBiz : (Bn : Int) < (i : Int) := by omega
                have Hjb : Hid (j + 1 ≤ 16777216) := hjb
                have b7z := b7.size
                clear hjb b7 HP
                have Hgj : Hid (H[j]? = some ((An : Int), (Bn : Int))) := hgj
                have HAk : Hid (0 ≤ (Bn : Int) ∧ (Bn : Int) < (An : Int) ∧ (An : Int) < (i : Int)) := hAk
                clear hgj hAk hnn hmy hm1 hbig hbz hK h60
                have x0 : (w7.alloc (.cells #[.int .i64 (An : Int), .int .i64 (Bn : Int)] 43)).cell? ⟨w7.heap.size, 0, none⟩ = some (.int .i64 An) := by rw [World.cell?_alloc_at _ _ _ _ rfl]; rfl
                have x1 : (w7.alloc (.cells #[.int .i64 (An : Int), .int .i64 (Bn : Int)] 43)).cell? ⟨w7.heap.size, 1, none⟩ = some (.int .i64 Bn) := by rw [World.cell?_alloc_at _ _ _ _ rfl]; rfl
                have b8 : Below w7.heap.size w7 (w7.alloc (.cells #[.int .i64 (An : Int), .int .i64 (Bn : Int)] 43)) := (Below.refl _ _).alloc (Nat.le_refl _) _
                have hz8 : w7.heap.size < (w7.alloc (.cells #[.int .i64 (An : Int), .int .i64 (Bn : Int)] 43)).heap.size := by simp
                have B8 : Hid (Below w7.heap.size w7 (w7.alloc (.cells #[.int .i64 (An : Int), .int .i64 (Bn : Int)] 43))) := b8
                clear b8
                go_upto_region 28 with fail
                generalize w7.alloc (.cells #[.int .i64 (An : Int), .int .i64 (Bn : Int)] 43) = w8 at x0 x1 B8 hz8 ⊢
                generalize hX : w7.heap.size = X at x0 x1 hz8 ⊢
                have HX : Hid (w7.heap.size = X) := hX
                clear hX c0 c1
                go_upto_region 30 with fail
                have bA8 : Below wr.heap.size wr w8 := B7.out.trans (B8.out.mono b7z)
                have b48 : Below w4.heap.size w4 w8 := (hB.trans (bA.mono hB.size)).trans (bA8.mono (Nat.le_trans hB.size hzA))
                have bb8 : Below wb.heap.size wb w8 := bA.trans (bA8.mono hzA)
                have OA8 := OA.keep bA8
                have hz88 := bb8.size
                obtain ⟨kb, ko, rfl, hkb, hkc⟩ := RK4.atN (by omega)
                have k1 : w8.cell? ⟨kb, ko + An, none⟩ = some (.int .i64 (K.getD An 0)) := (b48.cell (p := ⟨kb, ko + An, none⟩) hkb).trans (hkc An hAi)
                have k2 : w8.cell? ⟨kb, ko + Bn, none⟩ = some (.int .i64 (K.getD Bn 0)) := (b48.cell (p := ⟨kb, ko + Bn, none⟩) hkb).trans (hkc Bn hBi)
                have Hkl : Hid ((H.take j).map (kl K) ++ [decide (K.getD An 0 < K.getD Bn 0)] = (H.take (j + 1)).map (kl K)) := by
                  show (H.take j).map (kl K) ++ [decide (K.getD An 0 < K.getD Bn 0)] = (H.take (j + 1)).map (kl K)
                  rw [List.take_add_one, Hgj.out]
                  simp [kl]
                generalize K.getD An 0 = KA at k1 k2 Hkl
                generalize K.getD Bn 0 = KB at k2 Hkl
                have hwb8 : kb < wb.heap.size := Nat.lt_of_lt_of_le hkb hB.size
                have hneK : some kb ≠ (Value.slice va j vc).ownBlock := fun e => by have := (OA8.lt _ e.symm).1; omega
                have hneX : some X ≠ (Value.slice va j vc).ownBlock := fun e => by have := (OA.lt _ e.symm).2; have := HX.out; omega
                have ne1 := World.new_ne w8 _ x0
                have ne2 := World.new_ne w8 _ x1
                have ne3 := World.new_ne w8 _ k1
                have ne4 := World.new_ne w8 _ k2
                have hAL : ((H.take j).map (kl K)).length + 1 ≤ 16777216 := by rw [HA.out]; exact Hjb.out
                generalize (H.take j).map (kl K) = AL at *
                clear hkc RK4 bA8 b48 OA OQ bA hB hqc
                go_region_held3 (fun W => W.cell? ⟨X, 0, none⟩ = some (.int .i64 An) ∧ W.cell? ⟨X, 1, none⟩ = some (.int .i64 Bn) ∧ W.cell? ⟨kb, ko + An, none⟩ = some (.int .i64 KA) ∧ W.cell? ⟨kb, ko + Bn, none⟩ = some (.int .i64 KB)) (go_keep) (first | (refine step_append_one (S := shB) (T := 4) (zv := .bool false) (by' := 1) Try.info4 rfl (by decide) rfl (.tmp 198) (.tmp 210) 29 rfl Try.underlying29 wb.heap.size _ AL (decide (KA < KB)) trivial w8.heap.size 1 rfl rfl (by first | exact (OA8.alloc _).drew | exact (OA8.drew).alloc _) (by intro q hq; have hq0 : q = 0 := (by simpa [shB] using hq); subst hq0; first | (show (w8.alloc _).cell? _ = _; rw [World.cell?_alloc_at _ _ _ _ rfl]; rfl) | (show (w8.drew.alloc _).cell? _ = _; rw [World.cell?_alloc_at _ _ _ _ rfl]; rfl)) hAL (by first | (simp; omega) | omega) ?_; intro a9 c9 w9 hO9 hg9; have y1 := hg9.cell (cell_al _ x0) hneX; have y2 := hg9.cell (cell_al _ x1) hneX; have y3 := hg9.cell (cell_al _ k1) hneK; have y4 := hg9.cell (cell_al _ k2) hneK))
                have b9 : Below wb.heap.size wb w9 := by
                  first
                    | exact ((bb8.alloc hz88 _).drew).grown hg9 (by simp; omega) (fun k hk => (OA8.lt k hk).1)
                    | exact ((bb8.drew).alloc hz88 _).grown hg9 (by simp; omega) (fun k hk => (OA8.lt k hk).1)
                clear y1 y2 y3 y4
                go_wp2
                go_roundw
                case rel => exact ⟨j + 1, by omega, by rw [← Hkl.out]; simpa using hO9, b9⟩
                case measure => simp [slM, HA.out]; omega
              · obtain rfl : j = M := by omega
                rw [if_neg (by rw [HM.out]; omega)] at HP
                go_wp2_with fail
                refine HP.mono ?_
                rintro e w7 ⟨qv, gv, rfl, OQ, OG, b7⟩
                simp only at OQ OG ⊢
                obtain ⟨qa, qc, rfl⟩ := OQ.form
                have hMM : ((j : Int) == (j : Int)) = true := by simp
                rw [HM.out] at OQ ⊢
                have b4 : Below w4.heap.size w4 w7 := (hB.trans (bA.mono hB.size)).trans (b7.mono (Nat.le_trans hB.size hzA))
                have HSm := sameInts_any _ _ O w7 (RO.keep b4) OG.rd
                go_wp2_with fail
                refine HSm.mono ?_
                rintro e w8 ⟨rfl, b8⟩
                go_wp2
                go_ret
                exact ⟨rfl, (V4.trans (b4.mono V4.size)).trans (b8.mono (Nat.le_trans V4.size b4.size))⟩
    · have hm1 : True := trivial
      obtain ⟨i0, hi, hz0, hz1, hz2b⟩ := info_parts Try.info4
      go_wp2_with (at_make; refine wpList_make_full _ rfl _ _ 29 rfl w4.heap.size 4 i0 (.bool false) 1 Try.underlying29 hi hz0 hz1 .i64 .i64 _ _ N rfl rfl rfl rfl (by rw [hz2b]; omega) (by unfold maxLen; omega) (Nat.le_refl _) ?_; intro w5 hown hgrow)
      have hSt : OwnG shB 4 w5 w4.heap.size (.slice (some ⟨w4.heap.size, 0, none⟩) N N) (List.replicate N false) := by
        refine ⟨?_, by simp; omega, fun _ _ => trivial⟩
        have e : (madeCells (Value.cells (.bool false)) (N * 1)).toList = (List.replicate N false).flatMap shB.cs := by
          have : Value.cells (.bool false) = #[.bool false] := rfl
          rw [this, toList_madeCells_one, flat_b]; simp
        rw [e] at hown
        show w5.ownsRow w4.heap.size 4 1 _ (List.replicate N false).length _
        rw [List.length_replicate]
        exact hown
      have b5 : Below w4.heap.size w4 w5 := (Below.refl _ _).grown hgrow (Nat.le_refl _) (by intro k h; cases h)
      clear hown hgrow hi hz0 hz1 hz2b i0
      go_loopw [8] (fun vi wr => ∃ (i : Nat) (S : List Bool), i ≤ N ∧ vi = .int .i64 i ∧ Sn N O i S ∧ OwnG shB 4 wr w4.heap.size (.slice (some ⟨w4.heap.size, 0, none⟩) N N) S ∧ Below w4.heap.size w4 wr) (fun vi _ => N - (RowKit.intOf vi).toNat)
      case atStart => exact ⟨0, _, Nat.zero_le _, rfl, Sn.zero N O, hSt, b5⟩
      case round =>
        obtain ⟨i, S, hi, rfl, hSn, OS, hB⟩ := hrel
        clear hSt b5
        by_cases hlt : i < N
        · obtain ⟨kb, ko, rfl, hkb, hkc⟩ := RK4.atN (by omega)
          obtain ⟨ob, oo, rfl, hob, hoc⟩ := RO.atN (by omega)
          obtain ⟨x, hx, hxN, hnew⟩ := HS.out.at_ i (by rw [HN.out]; exact hlt)
          rw [HN.out] at hxN
          have hxl : x < S.length := by rw [hSn.1]; exact hxN
          have co : wr.cell? ⟨ob, oo + i, none⟩ = some (.int .i64 x) := ((hB.cell (p := ⟨ob, oo + i, none⟩) hob).trans (hoc i hlt)).trans (by rw [hx])
          have cs := OS.cell x hxl 0 (by decide)
          simp only [show shB.n = 1 from rfl, Nat.mul_one, Nat.add_zero, shB, List.getElem?_cons_zero] at cs
          rw [hSn.2 x hxl, decide_eq_false hnew] at cs
          have fz := OS.frozen x
          have hput := OS.put x hxl 0 (by decide) (.bool true) true trivial (by simp [shB])
          simp only [show shB.n = 1 from rfl, Nat.mul_one, Nat.add_zero] at hput
          have hSn1 := hSn.step (by rw [HO.out]; exact hlt) x hx
          have b1 : Below w4.heap.size w4 (wr.setCell ⟨w4.heap.size, x, none⟩ (.bool true)) := hB.setCell (Nat.le_refl _) _
          have c1 : (wr.setCell ⟨w4.heap.size, x, none⟩ (.bool true)).cell? ⟨ob, oo + i, none⟩ = some (.int .i64 x) := ((b1.cell (p := ⟨ob, oo + i, none⟩) hob).trans (hoc i hlt)).trans (by rw [hx])
          have c2 : (wr.setCell ⟨w4.heap.size, x, none⟩ (.bool true)).cell? ⟨kb, ko + x, none⟩ = some (.int .i64 (K.getD x 0)) := (b1.cell (p := ⟨kb, ko + x, none⟩) hkb).trans (hkc x hxN)
          have hlz : (i : Int) < (N : Int) := by omega
          have hxz : (x : Int) < (N : Int) := by omega
          have d1 : decide ((x : Int) < 0) = false := decide_eq_false (by omega)
          have d2 : decide ((N : Int) ≤ (x : Int)) = false := decide_eq_false (by omega)
          have Hf : Hid (Sn N O (i + 1) (S.set x true) ∧ OwnG shB 4 (wr.setCell ⟨w4.heap.size, x, none⟩ (.bool true)) w4.heap.size (.slice (some ⟨w4.heap.size, 0, none⟩) N N) (S.set x true) ∧ Below w4.heap.size w4 (wr.setCell ⟨w4.heap.size, x, none⟩ (.bool true))) := ⟨hSn1, hput, b1⟩
          by_cases hi0 : i = 0
          · have d0 : decide ((0 : Int) < (i : Int)) = false := decide_eq_false (by omega)
            have d00 : decide (0 < i) = false := decide_eq_false (by omega)
            have hi00 : Hid (i = 0) := hi0
            clear hput hSn1 b1 OS hSn hB hnew hoc hkc hi0
            go_wp2_with fail
            go_quiet (fail)
            go_wp2
            go_roundw
            case rel => obtain ⟨q1, q2, q3⟩ := Hf.out; exact ⟨i + 1, _, by omega, by go_num, q1, q2.keep (below_dq (Below.refl _ _) _), below_dq q3 _⟩
            case measure => simp [RowKit.intOf]; omega
          · exfalso; omega
        · obtain rfl : i = N := by omega
          clear OS hSn hlt hi
          generalize wr = wb at *
          by_cases h60 : 60 < i
          · have h60z : (60 : Int) < (i : Int) := by omega
            go_wp2
            go_ret
            exact ⟨rfl, V4.trans (hB.mono V4.size)⟩
          · have h60z : ¬ (60 : Int) < (i : Int) := by omega
            go_wp2
            go_loopw [9] (fun v w' => ∃ j : Nat, j ≤ M ∧ OwnG shB 4 w' wb.heap.size v ((H.take j).map (kl K)) ∧ Below wb.heap.size wb w') (fun v _ => M - slM v)
            case atStart => exact ⟨0, Nat.zero_le _, ⟨by simpa using World.ownsRow_lit wb #[] 0 (Nat.le_refl _) (Nat.zero_le _) rfl, by simp, by simp⟩, (Below.refl _ _).alloc (Nat.le_refl _) _⟩
            case round =>
              obtain ⟨j, hj, OA, bA⟩ := hrel
              have hpl := HS.out.plan j (by rw [HM.out]; exact hj)
              rw [HN.out] at hpl
              have hal : ((H.take j).map (kl K)).length = j := by have := HM.out; simp; omega
              have HA : Hid (((H.take j).map (kl K)).length = j) := hal
              have HP := planI_any wr (i : Int) _ _ OA.rd (by omega) (by omega)
              rw [hpl] at HP
              obtain ⟨va, vc, rfl⟩ := OA.form
              rw [hal] at OA HP ⊢
              have hzA := bA.size
              clear hal hpl
              by_cases hjm : j < M
              · rw [if_pos (by rw [HM.out]; exact hjm)] at HP
                go_wp2_with fail
                refine HP.mono ?_
                rintro e w7 ⟨qv, gv, rfl, OQ, OG, b7⟩
                have B7 : Hid (Below wr.heap.size wr w7) := b7
                simp only at OQ OG ⊢
                obtain ⟨qa, qc, rfl⟩ := OQ.form
                have hql : (H.take (j + 1)).length = j + 1 := by have := HM.out; simp; omega
                have hjl : j < (H.take (j + 1)).length := by omega
                obtain ⟨e1, e2⟩ | ⟨qb, qc', e1, hqB, hqz, hqc⟩ := OQ.shape
                · exact absurd hjl (by rw [e2]; simp)
                simp only [Value.slice.injEq] at e1
                obtain ⟨e1, -, e3⟩ := e1
                subst e1 e3
                obtain ⟨c0, c1⟩ := RdQ.at (off := 0) (fun k hk j hj => by rw [Nat.zero_add]; exact OQ.cell k hk j hj) j hjl
                simp only [Nat.zero_add] at c0 c1
                have hmem : (H.take (j + 1))[j] ∈ H := List.mem_of_mem_take (List.getElem_mem hjl)
                have hAk := HS.out.ak _ hmem
                rw [HN.out] at hAk
                have hgj : H[j]? = some (H.take (j + 1))[j] := by rw [List.getElem_take]; simp [show j < H.length by rw [HM.out]; exact hjm]
                generalize (H.take (j + 1))[j] = P at *
                obtain ⟨A, B⟩ := P
                simp only at c0 c1 hAk
                have hjb : j + 1 ≤ 16777216 := by have := OQ.2.1; omega
                have hjz1 : (j : Int) + 1 ≤ 16777216 := by omega
                rw [hql] at OQ ⊢
                obtain ⟨An, rfl⟩ : ∃ An : Nat, A = (An : Int) := ⟨A.toNat, by omega⟩
                obtain ⟨Bn, rfl⟩ : ∃ Bn : Nat, B = (Bn : Int) := ⟨B.toNat, by omega⟩
                clear hql hjl hmem OG
                have g1 : decide ((An : Int) < 0) = false := decide_eq_false (by omega)
                have g2 : decide ((Bn : Int) < 0) = false := decide_eq_false (by omega)
                have g3 : decide ((i : Int) ≤ (An : Int)) = false := decide_eq_false (by omega)
                have g4 : decide ((i : Int) ≤ (Bn : Int)) = false := decide_eq_false (by omega)
                have g5 : ((An : Int) == (Bn : Int)) = false := by simp; omega
                have g3n : decide (i ≤ An) = false := decide_eq_false (by omega)
                have g4n : decide (i ≤ Bn) = false := decide_eq_false (by omega)
                have g5n : (An == Bn) = false := by simp; omega
                have hAi : An < i := by omega
                have hBi : Bn < i := by omega
                have hAiz : (An : Int) < (i : Int) := by omega
                have hBiz : (Bn : Int) < (i : Int) := by omega
                have Hjb : Hid (j + 1 ≤ 16777216) := hjb
                have b7z := b7.size
                clear hjb b7 HP
                have Hgj : Hid (H[j]? = some ((An : Int), (Bn : Int))) := hgj
                have HAk : Hid (0 ≤ (Bn : Int) ∧ (Bn : Int) < (An : Int) ∧ (An : Int) < (i : Int)) := hAk
                clear hgj hAk hnn hmy hm1 hbig hbz hK h60
                have x0 : (w7.alloc (.cells #[.int .i64 (An : Int), .int .i64 (Bn : Int)] 43)).cell? ⟨w7.heap.size, 0, none⟩ = some (.int .i64 An) := by rw [World.cell?_alloc_at _ _ _ _ rfl]; rfl
                have x1 : (w7.alloc (.cells #[.int .i64 (An : Int), .int .i64 (Bn : Int)] 43)).cell? ⟨w7.heap.size, 1, none⟩ = some (.int .i64 Bn) := by rw [World.cell?_alloc_at _ _ _ _ rfl]; rfl
                have b8 : Below w7.heap.size w7 (w7.alloc (.cells #[.int .i64 (An : Int), .int .i64 (Bn : Int)] 43)) := (Below.refl _ _).alloc (Nat.le_refl _) _
                have hz8 : w7.heap.size < (w7.alloc (.cells #[.int .i64 (An : Int), .int .i64 (Bn : Int)] 43)).heap.size := by simp
                have B8 : Hid (Below w7.heap.size w7 (w7.alloc (.cells #[.int .i64 (An : Int), .int .i64 (Bn : Int)] 43))) := b8
                clear b8
                go_upto_region 28 with fail
                generalize w7.alloc (.cells #[.int .i64 (An : Int), .int .i64 (Bn : Int)] 43) = w8 at x0 x1 B8 hz8 ⊢
                generalize hX : w7.heap.size = X at x0 x1 hz8 ⊢
                have HX : Hid (w7.heap.size = X) := hX
                clear hX c0 c1
                go_upto_region 30 with fail
                have bA8 : Below wr.heap.size wr w8 := B7.out.trans (B8.out.mono b7z)
                have b48 : Below w4.heap.size w4 w8 := (hB.trans (bA.mono hB.size)).trans (bA8.mono (Nat.le_trans hB.size hzA))
                have bb8 : Below wb.heap.size wb w8 := bA.trans (bA8.mono hzA)
                have OA8 := OA.keep bA8
                have hz88 := bb8.size
                obtain ⟨kb, ko, rfl, hkb, hkc⟩ := RK4.atN (by omega)
                have k1 : w8.cell? ⟨kb, ko + An, none⟩ = some (.int .i64 (K.getD An 0)) := (b48.cell (p := ⟨kb, ko + An, none⟩) hkb).trans (hkc An hAi)
                have k2 : w8.cell? ⟨kb, ko + Bn, none⟩ = some (.int .i64 (K.getD Bn 0)) := (b48.cell (p := ⟨kb, ko + Bn, none⟩) hkb).trans (hkc Bn hBi)
                have Hkl : Hid ((H.take j).map (kl K) ++ [decide (K.getD An 0 < K.getD Bn 0)] = (H.take (j + 1)).map (kl K)) := by
                  show (H.take j).map (kl K) ++ [decide (K.getD An 0 < K.getD Bn 0)] = (H.take (j + 1)).map (kl K)
                  rw [List.take_add_one, Hgj.out]
                  simp [kl]
                generalize K.getD An 0 = KA at k1 k2 Hkl
                generalize K.getD Bn 0 = KB at k2 Hkl
                have hwb8 : kb < wb.heap.size := Nat.lt_of_lt_of_le hkb hB.size
                have hneK : some kb ≠ (Value.slice va j vc).ownBlock := fun e => by have := (OA8.lt _ e.symm).1; omega
                have hneX : some X ≠ (Value.slice va j vc).ownBlock := fun e => by have := (OA.lt _ e.symm).2; have := HX.out; omega
                have ne1 := World.new_ne w8 _ x0
                have ne2 := World.new_ne w8 _ x1
                have ne3 := World.new_ne w8 _ k1
                have ne4 := World.new_ne w8 _ k2
                have hAL : ((H.take j).map (kl K)).length + 1 ≤ 16777216 := by rw [HA.out]; exact Hjb.out
                generalize (H.take j).map (kl K) = AL at *
                clear hkc RK4 bA8 b48 OA OQ bA hB hqc
                go_region_held3 (fun W => W.cell? ⟨X, 0, none⟩ = some (.int .i64 An) ∧ W.cell? ⟨X, 1, none⟩ = some (.int .i64 Bn) ∧ W.cell? ⟨kb, ko + An, none⟩ = some (.int .i64 KA) ∧ W.cell? ⟨kb, ko + Bn, none⟩ = some (.int .i64 KB)) (go_keep) (first | (refine step_append_one (S := shB) (T := 4) (zv := .bool false) (by' := 1) Try.info4 rfl (by decide) rfl (.tmp 198) (.tmp 210) 29 rfl Try.underlying29 wb.heap.size _ AL (decide (KA < KB)) trivial w8.heap.size 1 rfl rfl (by first | exact (OA8.alloc _).drew | exact (OA8.drew).alloc _) (by intro q hq; have hq0 : q = 0 := (by simpa [shB] using hq); subst hq0; first | (show (w8.alloc _).cell? _ = _; rw [World.cell?_alloc_at _ _ _ _ rfl]; rfl) | (show (w8.drew.alloc _).cell? _ = _; rw [World.cell?_alloc_at _ _ _ _ rfl]; rfl)) hAL (by first | (simp; omega) | omega) ?_; intro a9 c9 w9 hO9 hg9; have y1 := hg9.cell (cell_al _ x0) hneX; have y2 := hg9.cell (cell_al _ x1) hneX; have y3 := hg9.cell (cell_al _ k1) hneK; have y4 := hg9.cell (cell_al _ k2) hneK))
                have b9 : Below wb.heap.size wb w9 := by
                  first
                    | exact ((bb8.alloc hz88 _).drew).grown hg9 (by simp; omega) (fun k hk => (OA8.lt k hk).1)
                    | exact ((bb8.drew).alloc hz88 _).grown hg9 (by simp; omega) (fun k hk => (OA8.lt k hk).1)
                clear y1 y2 y3 y4
                go_wp2
                go_roundw
                case rel => exact ⟨j + 1, by omega, by rw [← Hkl.out]; simpa using hO9, b9⟩
                case measure => simp [slM, HA.out]; omega
              · obtain rfl : j = M := by omega
                rw [if_neg (by rw [HM.out]; omega)] at HP
                go_wp2_with fail
                refine HP.mono ?_
                rintro e w7 ⟨qv, gv, rfl, OQ, OG, b7⟩
                simp only at OQ OG ⊢
                obtain ⟨qa, qc, rfl⟩ := OQ.form
                have hMM : ((j : Int) == (j : Int)) = true := by simp
                rw [HM.out] at OQ ⊢
                have b4 : Below w4.heap.size w4 w7 := (hB.trans (bA.mono hB.size)).trans (b7.mono (Nat.le_trans hB.size hzA))
                have HSm := sameInts_any _ _ O w7 (RO.keep b4) OG.rd
                go_wp2_with fail
                refine HSm.mono ?_
                rintro e w8 ⟨rfl, b8⟩
                go_wp2
                go_ret
                exact ⟨rfl, (V4.trans (b4.mono V4.size)).trans (b8.mono (Nat.le_trans V4.size b4.size))⟩
end Go.Proofs.Ytlnekedehalbdaa
