import Derived.Test.YtfbibbjiomfncaaMrT
import Derived.Test.YtfbibbjiomfncaaMrQ
namespace Go.Proofs.Ytfbibbjiomfncaa
open Go.RowKit
set_option linter.unusedVariables false
set_option linter.unusedSimpArgs false

set_option maxRecDepth 100000 in
set_option maxHeartbeats 2000000 in
theorem linesS_any (v : Value) (cs : List Cl) (w : World) (hr : RdC w v cs) (hok : OkCs cs) :
    Calls Try.prog 44 #[v] w fun e w' => ∃ g cap, e = .returned (.slice (some ⟨g, 0, none⟩) cs.length cap) ∧ LLn w' w.heap.size g cs.length cap (lnsC cs cs.length) ∧ Below w.heap.size w w' := by
  obtain ⟨ps, ⟨a, cap, rfl, hl, hz, hn0, hc⟩, hpl, hK⟩ := hr
  obtain ⟨N, hN⟩ : ∃ N, cs.length = N := ⟨_, rfl⟩
  have HN : Hid (cs.length = N) := hN
  have HP : Hid (ps.length = N) := by rw [hpl]; exact hN
  have hN2 : N ≤ 200 := by rw [← hN]; exact hok.1
  rw [hpl, hN] at hl ⊢
  try rw [hN]
  have HO : Hid (OkCs cs) := hok
  clear hN hpl hok
  have bE : Below w.heap.size w (w.alloc (.cells #[] 51)) := (Below.refl _ w).alloc (Nat.le_refl _) _
  have oE := LLn.new w
  go_enter Try.func44, Try.ntmps44
  go_wp2_with fail
  go_loopw [3, 4] (fun v i wr => ∃ (k g c : Nat), k ≤ N ∧ i = .int .i64 k ∧ v = .slice (some ⟨g, 0, none⟩) k c ∧ LLn wr w.heap.size g k c (lnsC cs k) ∧ Below w.heap.size w wr) (fun _ i _ => N - (intOf i).toNat)
  case atStart => exact ⟨0, _, _, Nat.zero_le _, rfl, rfl, oE, bE⟩
  case round =>
    obtain ⟨k, g, oc, hk, rfl, rfl, hL, hB⟩ := hrel
    clear bE oE
    generalize wr = W1 at *
    by_cases hlt : k < N
    · have hlti : (k : Int) < (N : Int) := by omega
      have hkc : k < cs.length := by rw [HN.out]; exact hlt
      have hkp : k < ps.length := by rw [HP.out]; exact hlt
      obtain ⟨b, off, rfl, hb, hcell⟩ := hc (by omega)
      have HAt : Hid (∀ W (h : Below w.heap.size w W), W.cell? ⟨b, off + k * 2, none⟩ = some ps[k].s1) := fun W h => (RdP.at (fun k hk j hj => (h.cell (p := ⟨b, _, none⟩) hb).trans (hcell k hk j hj)) k hkp).1
      have hKk := (hK k hkp hkc).1
      have hbs := HO.out.2 k hkc
      have hlk := lns_succ cs k hkc
      have hlo := fun j h => lns_ok HO.out k (by omega) j h
      have hll := lns_len cs k
      generalize ps[k].s1 = sv at *
      generalize cs[k].b = bs at *
      generalize lnsC cs k = prev at *
      obtain ⟨sa, sc, es⟩ := hKk.form
      subst es
      obtain ⟨BN, hBN⟩ : ∃ BN, bs.length = BN := ⟨_, rfl⟩
      have HBN : Hid (bs.length = BN) := hBN
      have hBk : BN ≤ k := by rw [← hBN]; exact hbs.1.len
      rw [hBN] at HAt hKk
      clear hBN hcell hK hc
      have d0 := HAt.out W1 hB
      have bE : Below W1.heap.size W1 (W1.alloc (.cells #[] 51)) := (Below.refl _ W1).alloc (Nat.le_refl _) _
      have oE := LLn.new W1
      have hz1 := hB.size
      go_wp2_with fail
      go_loopw [5, 6, 7] (fun lv okv kk wq => ∃ (j g2 c2 : Nat), j ≤ BN ∧ kk = .int .i64 j ∧ lv = .slice (some ⟨g2, 0, none⟩) j c2 ∧ okv = .bool (decide (NoE (baseL prev (bs.take j)))) ∧ LLn wq W1.heap.size g2 j c2 (baseL prev (bs.take j)) ∧ Below W1.heap.size W1 wq) (fun _ _ kk _ => BN - (intOf kk).toNat)
      case atStart => exact ⟨0, _, _, Nat.zero_le _, rfl, rfl, by simp [NoE, baseL], oE, bE⟩
      case round =>
        obtain ⟨j, g2, c2, hj, rfl, rfl, rfl, hL2, hB2⟩ := hrel
        clear bE oE d0
        generalize wr = W2 at *
        have hBw := hB.trans (hB2.mono hB.size)
        have d0 := HAt.out W2 hBw
        by_cases hjl : j < BN
        · have hji : (j : Int) < (BN : Int) := by omega
          have hjb : j < bs.length := by rw [HBN.out]; exact hjl
          obtain ⟨hb0, hb1⟩ := hbs.1.1 bs[j] (List.getElem_mem hjb)
          have hbt := base_take prev bs j hjb
          have hLo := hL.keep hB2
          have hKw := hKk.keep hBw
          obtain ⟨a', c', e, _, _, _, hcK⟩ := hKw
          simp only [Value.slice.injEq] at e
          obtain ⟨e1, -, e3⟩ := e
          subst e1 e3
          obtain ⟨sb, so, rfl, hsb, hsc⟩ := hcK (by omega)
          have d1 := hsc j hjb
          have hgd : bs.getD j 0 = bs[j] := by simp [List.getD, hjb]
          rw [hgd] at d1
          obtain ⟨x, hx⟩ : ∃ x : Nat, bs[j] = (x : Int) := ⟨bs[j].toNat, by omega⟩
          rw [hx] at d1 hb0 hb1 hbt
          have hxk : x < prev.length := by omega
          have hpx : prev.getD x [] = prev[x] := by simp [List.getD, hxk]
          simp only [Int.toNat_natCast] at hbt
          rw [hpx] at hbt
          obtain ⟨xa, xc, d2, hrx⟩ := LL.at hLo x hxk
          have hxl := (hlo x hxk).len
          have hxi : (x : Int) < (k : Int) := by omega
          clear hx hgd hpx hsc
          have hXN' : prev[x].length ≤ 201 := by omega
          generalize prev[x] = PX at *
          obtain ⟨XN, hXN⟩ : ∃ XN, PX.length = XN := ⟨_, rfl⟩
          have HXN : Hid (PX.length = XN) := hXN
          rw [hXN] at d2 hrx hXN'
          have hne : PX ≠ [] ↔ 0 < XN := by rw [← hXN]; exact ⟨fun h => List.length_pos_iff.mpr h, fun h => List.length_pos_iff.mp h⟩
          have hdec : decide (NoE (baseL prev (bs.take (j + 1)))) = (decide (NoE (baseL prev (bs.take j))) && decide (0 < XN)) := by
            rw [hbt, ← Bool.decide_and]
            exact decide_eq_decide.mpr (by rw [noE_snoc, hne])
          clear hXN hne hxl
          have Hbt : Hid _ := hbt
          clear hbt
          generalize hokb : decide (NoE (baseL prev (bs.take j))) = okb at *
          clear hokb
          have hz2 := hB2.size
          cases okb
          · simp only [Bool.false_and] at hdec
            go_wp2_with (first
              | (at_builtin; refine wpList_append_rd rfl _ _ 51 rfl Try.underlying51 W2.heap.size _ _ [] PX rfl rfl (Own.empty W2) (hrx.1.alloc _) (by have := HXN.out; simp; omega) (by simp) ?_; intro a3 c3 w3 hO3 hB3; rw [List.nil_append, HXN.out] at hO3 ⊢; have hB3' : Below W2.heap.size W2 w3 := ((Below.refl _ W2).alloc (Nat.le_refl _) _).trans hB3; have hO3' : Own w3 W2.heap.size (.slice a3 XN c3) PX := hO3; have hL3 := (hL2.keep hB3').keep ((Below.refl _ w3).alloc (Nat.le_refl _) (.cells #[.slice a3 XN c3] 51)); have hz3 := hB3'.size; have hX3 : RdX (fun b => b < (w3.alloc (.cells #[.slice a3 XN c3] 51)).heap.size ∧ b ≠ g2) (w3.alloc (.cells #[.slice a3 XN c3] 51)) (.slice a3 XN c3) PX := RdX.of (hO3'.rd.alloc _) (fun b off n c e => (by simp only [Value.slice.injEq] at e; have := hO3'.lt b (by rw [e.1]; rfl); have := (LL.size hL2).2; simp; omega)); have hC3 : (w3.alloc (.cells #[.slice a3 XN c3] 51)).cell? ⟨w3.heap.size, 0, none⟩ = some (.slice a3 XN c3) := (by rw [World.cell?_alloc_at _ _ _ _ rfl]; rfl))
              | (at_builtin; refine wpList_append_LL rfl _ _ 29 rfl Try.underlying29 W1.heap.size g2 j c2 _ rfl hL3 w3.heap.size 1 rfl a3 XN c3 PX hC3 hX3 (by omega) (by simp; omega) ?_; intro g4 c4 w4 hL4 hg4 hw4; have hB4 : Below W1.heap.size W1 w4 := ((hB2.trans (hB3'.mono hz2)).alloc (Nat.le_trans hz2 hz3) _).trans (gb_to hg4 (fun j hj => (by cases hj; exact (LL.size hL2).1)) (by simp; omega))))
            go_roundw
            case rel => exact ⟨j + 1, g4, c4, by omega, by go_num, rfl, by rw [hdec], by rw [Hbt.out]; exact hL4, hB4⟩
            case measure => simp [intOf]; omega
          · simp only [Bool.true_and] at hdec
            by_cases hx0 : 0 < XN
            · have hx0i : (0 : Int) < (XN : Int) := by omega
              rw [decide_eq_true hx0] at hdec
              clear hx0
              go_wp2_with (first
              | (at_builtin; refine wpList_append_rd rfl _ _ 51 rfl Try.underlying51 W2.heap.size _ _ [] PX rfl rfl (Own.empty W2) (hrx.1.alloc _) (by have := HXN.out; simp; omega) (by simp) ?_; intro a3 c3 w3 hO3 hB3; rw [List.nil_append, HXN.out] at hO3 ⊢; have hB3' : Below W2.heap.size W2 w3 := ((Below.refl _ W2).alloc (Nat.le_refl _) _).trans hB3; have hO3' : Own w3 W2.heap.size (.slice a3 XN c3) PX := hO3; have hL3 := (hL2.keep hB3').keep ((Below.refl _ w3).alloc (Nat.le_refl _) (.cells #[.slice a3 XN c3] 51)); have hz3 := hB3'.size; have hX3 : RdX (fun b => b < (w3.alloc (.cells #[.slice a3 XN c3] 51)).heap.size ∧ b ≠ g2) (w3.alloc (.cells #[.slice a3 XN c3] 51)) (.slice a3 XN c3) PX := RdX.of (hO3'.rd.alloc _) (fun b off n c e => (by simp only [Value.slice.injEq] at e; have := hO3'.lt b (by rw [e.1]; rfl); have := (LL.size hL2).2; simp; omega)); have hC3 : (w3.alloc (.cells #[.slice a3 XN c3] 51)).cell? ⟨w3.heap.size, 0, none⟩ = some (.slice a3 XN c3) := (by rw [World.cell?_alloc_at _ _ _ _ rfl]; rfl))
              | (at_builtin; refine wpList_append_LL rfl _ _ 29 rfl Try.underlying29 W1.heap.size g2 j c2 _ rfl hL3 w3.heap.size 1 rfl a3 XN c3 PX hC3 hX3 (by omega) (by simp; omega) ?_; intro g4 c4 w4 hL4 hg4 hw4; have hB4 : Below W1.heap.size W1 w4 := ((hB2.trans (hB3'.mono hz2)).alloc (Nat.le_trans hz2 hz3) _).trans (gb_to hg4 (fun j hj => (by cases hj; exact (LL.size hL2).1)) (by simp; omega))))
              go_roundw
              case rel => exact ⟨j + 1, g4, c4, by omega, by go_num, rfl, by rw [hdec, decide_eq_true (show 0 < XN by omega)], by rw [Hbt.out]; exact hL4, hB4⟩
              case measure => simp [intOf]; omega
            · have hx0i : ¬ (0 : Int) < (XN : Int) := by omega
              rw [decide_eq_false hx0] at hdec
              clear hx0
              go_wp2_with (first
              | (at_builtin; refine wpList_append_rd rfl _ _ 51 rfl Try.underlying51 W2.heap.size _ _ [] PX rfl rfl (Own.empty W2) (hrx.1.alloc _) (by have := HXN.out; simp; omega) (by simp) ?_; intro a3 c3 w3 hO3 hB3; rw [List.nil_append, HXN.out] at hO3 ⊢; have hB3' : Below W2.heap.size W2 w3 := ((Below.refl _ W2).alloc (Nat.le_refl _) _).trans hB3; have hO3' : Own w3 W2.heap.size (.slice a3 XN c3) PX := hO3; have hL3 := (hL2.keep hB3').keep ((Below.refl _ w3).alloc (Nat.le_refl _) (.cells #[.slice a3 XN c3] 51)); have hz3 := hB3'.size; have hX3 : RdX (fun b => b < (w3.alloc (.cells #[.slice a3 XN c3] 51)).heap.size ∧ b ≠ g2) (w3.alloc (.cells #[.slice a3 XN c3] 51)) (.slice a3 XN c3) PX := RdX.of (hO3'.rd.alloc _) (fun b off n c e => (by simp only [Value.slice.injEq] at e; have := hO3'.lt b (by rw [e.1]; rfl); have := (LL.size hL2).2; simp; omega)); have hC3 : (w3.alloc (.cells #[.slice a3 XN c3] 51)).cell? ⟨w3.heap.size, 0, none⟩ = some (.slice a3 XN c3) := (by rw [World.cell?_alloc_at _ _ _ _ rfl]; rfl))
              | (at_builtin; refine wpList_append_LL rfl _ _ 29 rfl Try.underlying29 W1.heap.size g2 j c2 _ rfl hL3 w3.heap.size 1 rfl a3 XN c3 PX hC3 hX3 (by omega) (by simp; omega) ?_; intro g4 c4 w4 hL4 hg4 hw4; have hB4 : Below W1.heap.size W1 w4 := ((hB2.trans (hB3'.mono hz2)).alloc (Nat.le_trans hz2 hz3) _).trans (gb_to hg4 (fun j hj => (by cases hj; exact (LL.size hL2).1)) (by simp; omega))))
              go_roundw
              case rel => exact ⟨j + 1, g4, c4, by omega, by go_num, rfl, by rw [hdec, decide_eq_false (show ¬ 0 < XN by omega)], by rw [Hbt.out]; exact hL4, hB4⟩
              case measure => simp [intOf]; omega
        · obtain rfl : BN = j := by omega
          have hji : ¬ (BN : Int) < (BN : Int) := by omega
          have htk : bs.take BN = bs := by rw [← HBN.out]; exact List.take_length
          rw [htk] at hL2 ⊢
          have hKw := hKk.keep hBw
          have hz2 := hB2.size
          have hbl : BN ≤ 200 := by omega
          have d9 := HAt.out (W2.alloc (.cells #[] 2)) (hBw.alloc (by omega) _)
          by_cases hno : NoE (baseL prev bs)
          · rw [decide_eq_true hno]
            go_wp2_with (first
              | (at_builtin; refine wpList_append_rd rfl _ _ 51 rfl Try.underlying51 W2.heap.size _ _ [] bs rfl rfl (Own.empty W2) (hKw.alloc _) (by have := HBN.out; simp; omega) (by simp) ?_; intro a3 c3 w3 hO3 hB3; rw [List.nil_append, HBN.out] at hO3 ⊢; have hB3' : Below W2.heap.size W2 w3 := ((Below.refl _ W2).alloc (Nat.le_refl _) _).trans hB3; have hO3' : Own w3 W2.heap.size (.slice a3 BN c3) bs := hO3; have hL3 := (hL2.keep hB3').keep ((Below.refl _ w3).alloc (Nat.le_refl _) (.cells #[.slice a3 BN c3] 51)); have hz3 := hB3'.size; have hX3 : RdX (fun b => b < (w3.alloc (.cells #[.slice a3 BN c3] 51)).heap.size ∧ b ≠ g2) (w3.alloc (.cells #[.slice a3 BN c3] 51)) (.slice a3 BN c3) bs := RdX.of (hO3'.rd.alloc _) (fun b off n c e => (by simp only [Value.slice.injEq] at e; have := hO3'.lt b (by rw [e.1]; rfl); have := (LL.size hL2).2; simp; omega)); have hC3 : (w3.alloc (.cells #[.slice a3 BN c3] 51)).cell? ⟨w3.heap.size, 0, none⟩ = some (.slice a3 BN c3) := (by rw [World.cell?_alloc_at _ _ _ _ rfl]; rfl))
              | (at_builtin; refine wpList_append_LL rfl _ _ 29 rfl Try.underlying29 W1.heap.size g2 BN c2 _ rfl hL3 w3.heap.size 1 rfl a3 BN c3 bs hC3 hX3 (by omega) (by simp; omega) ?_; intro g4 c4 w4 hL4 hg4 hw4; have hB4 : Below W1.heap.size W1 w4 := ((hB2.trans (hB3'.mono hz2)).alloc (Nat.le_trans hz2 hz3) _).trans (gb_to hg4 (fun j hj => (by cases hj; exact (LL.size hL2).1)) (by simp; omega))))
            have hmem := base_mem hll hlo hbs.1.1
            refine (mergeS_any W1.heap.size g4 (BN + 1) c4 k (fun b => b < w4.heap.size ∧ b ≠ g4) (baseL prev bs ++ [bs]) w4 hL4 (by rw [List.length_append, base_len, HBN.out]; rfl) (by omega) (fun b hb => hb) (fun l hl => (hmem l hl).1) (by omega)).mono ?_
            rintro e w6 ⟨ma, mm, mc, rfl, hmO, hG6⟩
            have hB6 : Below W1.heap.size W1 w6 := hB4.trans (gb_to hG6 (fun j hj => by cases hj; exact (LL.size hL4).1) hB4.size)
            have hz6 := hB6.size
            have hz64 := hG6.size
            cases hm : merge (baseL prev bs ++ [bs]) with
            | none =>
              have hln : lineC k bs prev = [] := by unfold lineC; rw [if_pos hno, hm]
              have hLo4 := hL.keep hB6
              have bE4 : Below w6.heap.size w6 ((w6.alloc (.cells #[] 2)).alloc (.cells #[.slice (some ⟨w6.heap.size, 0, none⟩) 0 0] 51)) := ((Below.refl _ w6).alloc (Nat.le_refl _) _).alloc (by simp) _
              have hLoE := hLo4.keep bE4
              have hXE : RdX (fun b => b < ((w6.alloc (.cells #[] 2)).alloc (.cells #[.slice (some ⟨w6.heap.size, 0, none⟩) 0 0] 51)).heap.size ∧ b ≠ g) ((w6.alloc (.cells #[] 2)).alloc (.cells #[.slice (some ⟨w6.heap.size, 0, none⟩) 0 0] 51)) (.slice (some ⟨w6.heap.size, 0, none⟩) 0 0) [] := RdX.nilAt _ _ _
              have hCE : ((w6.alloc (.cells #[] 2)).alloc (.cells #[.slice (some ⟨w6.heap.size, 0, none⟩) 0 0] 51)).cell? ⟨w6.heap.size + 1, 0, none⟩ = some (.slice (some ⟨w6.heap.size, 0, none⟩) 0 0) := (by rw [World.cell?_alloc_at _ _ _ _ (by simp)]; rfl)
              clear hmO hno hm hmem
              go_wp2_with (at_builtin; refine wpList_append_LL rfl _ _ 29 rfl Try.underlying29 w.heap.size g k oc prev rfl hLoE (w6.heap.size + 1) 1 rfl (some ⟨w6.heap.size, 0, none⟩) 0 0 [] hCE hXE (by omega) (by simp; omega) ?_; intro g5 c5 w5 hL5 hg5 hw5)
              have hB5 : Below w.heap.size w w5 := ((hB.trans (hB6.mono hB.size)).trans (bE4.mono (by omega))).trans (gb_to hg5 (fun j hj => by cases hj; exact (LL.size hL).1) (by simp; omega))
              go_roundw
              case rel => exact ⟨k + 1, g5, c5, by omega, by go_num, rfl, by rw [hlk, hln]; exact hL5, hB5⟩
              case measure => simp [intOf]; omega
            | some m =>
              have hln : lineC k bs prev = (k : Int) :: m := by unfold lineC; rw [if_pos hno, hm]
              obtain ⟨hmm, hOm⟩ := hmO m hm
              have hTm := (Tk.start (fun l hl => (hmem l hl).1) : Tk k [] (baseL prev bs ++ [bs])).ans (by rw [ans_nil]; exact hm)
              have hml : m.length ≤ k := pigeon k m hTm.1 hTm.2
              have HMM : Hid (m.length = mm) := hmm.symm
              have hmm2 : mm ≤ k := by omega
              have hkk : -9223372036854775808 ≤ (k : Int) ∧ (k : Int) < 9223372036854775808 := by omega
              have hlit := Own.lit1 w6 w6.heap.size rfl hkk.1 hkk.2
              have hRm := hOm.rd.alloc (.cells #[.int .i64 (k : Int)] 2)
              clear hmO hno hm hmem hTm hmm
              go_wp2_with (first
                | (at_builtin; refine wpList_append_rd rfl _ _ 51 rfl Try.underlying51 w6.heap.size _ _ [(k : Int)] m rfl rfl hlit hRm (by have := HMM.out; simp; omega) (by simp) ?_; intro a7 c7 w7 hO7 hB7; have hlen7 : ([(k : Int)] ++ m).length = mm + 1 := (by have := HMM.out; simp; omega); rw [hlen7] at hO7 ⊢; have hB7' : Below w6.heap.size w6 w7 := ((Below.refl _ w6).alloc (Nat.le_refl _) _).trans hB7; have hz7 := hB7'.size; have hLo7 := (hL.keep hB6).keep hB7'; have bE7 : Below w7.heap.size w7 (w7.alloc (.cells #[.slice a7 (mm + 1) c7] 51)) := (Below.refl _ w7).alloc (Nat.le_refl _) _; have hLoE := hLo7.keep bE7; have hXE : RdX (fun b => b < (w7.alloc (.cells #[.slice a7 (mm + 1) c7] 51)).heap.size ∧ b ≠ g) (w7.alloc (.cells #[.slice a7 (mm + 1) c7] 51)) (.slice a7 (mm + 1) c7) ([(k : Int)] ++ m) := RdX.of (hO7.rd.alloc _) (fun b off n c e => (by simp only [Value.slice.injEq] at e; have := hO7.lt b (by rw [e.1]; rfl); have := (LL.size (hL.keep hB6)).2; simp; omega)); have hCE : (w7.alloc (.cells #[.slice a7 (mm + 1) c7] 51)).cell? ⟨w7.heap.size, 0, none⟩ = some (.slice a7 (mm + 1) c7) := (by rw [World.cell?_alloc_at _ _ _ _ rfl]; rfl))
                | (at_builtin; refine wpList_append_LL rfl _ _ 29 rfl Try.underlying29 w.heap.size g k oc prev rfl hLoE w7.heap.size 1 rfl a7 (mm + 1) c7 ([(k : Int)] ++ m) hCE hXE (by omega) (by simp; omega) ?_; intro g5 c5 w5 hL5 hg5 hw5))
              have hB5 : Below w.heap.size w w5 := (((hB.trans (hB6.mono hB.size)).trans (hB7'.mono (by omega))).trans (bE7.mono (by omega))).trans (gb_to hg5 (fun j hj => by cases hj; exact (LL.size hL).1) (by simp; omega))
              go_roundw
              case rel => exact ⟨k + 1, g5, c5, by omega, by go_num, rfl, by rw [hlk, hln]; exact hL5, hB5⟩
              case measure => simp [intOf]; omega
          · rw [decide_eq_false hno]
            have hln : lineC k bs prev = [] := by unfold lineC; rw [if_neg hno]
            clear hno
            go_wp2_with (first
              | (at_builtin; refine wpList_append_rd rfl _ _ 51 rfl Try.underlying51 W2.heap.size _ _ [] bs rfl rfl (Own.empty W2) (hKw.alloc _) (by have := HBN.out; simp; omega) (by simp) ?_; intro a3 c3 w3 hO3 hB3; rw [List.nil_append, HBN.out] at hO3 ⊢; have hB3' : Below W2.heap.size W2 w3 := ((Below.refl _ W2).alloc (Nat.le_refl _) _).trans hB3; have hO3' : Own w3 W2.heap.size (.slice a3 BN c3) bs := hO3; have hL3 := (hL2.keep hB3').keep ((Below.refl _ w3).alloc (Nat.le_refl _) (.cells #[.slice a3 BN c3] 51)); have hz3 := hB3'.size; have hX3 : RdX (fun b => b < (w3.alloc (.cells #[.slice a3 BN c3] 51)).heap.size ∧ b ≠ g2) (w3.alloc (.cells #[.slice a3 BN c3] 51)) (.slice a3 BN c3) bs := RdX.of (hO3'.rd.alloc _) (fun b off n c e => (by simp only [Value.slice.injEq] at e; have := hO3'.lt b (by rw [e.1]; rfl); have := (LL.size hL2).2; simp; omega)); have hC3 : (w3.alloc (.cells #[.slice a3 BN c3] 51)).cell? ⟨w3.heap.size, 0, none⟩ = some (.slice a3 BN c3) := (by rw [World.cell?_alloc_at _ _ _ _ rfl]; rfl))
              | (at_builtin; refine wpList_append_LL rfl _ _ 29 rfl Try.underlying29 W1.heap.size g2 BN c2 _ rfl hL3 w3.heap.size 1 rfl a3 BN c3 bs hC3 hX3 (by omega) (by simp; omega) ?_; intro g4 c4 w4 hL4 hg4 hw4; have hB4 : Below W1.heap.size W1 w4 := ((hB2.trans (hB3'.mono hz2)).alloc (Nat.le_trans hz2 hz3) _).trans (gb_to hg4 (fun j hj => (by cases hj; exact (LL.size hL2).1)) (by simp; omega)); have hLo4 := hL.keep hB4; have bE4 : Below w4.heap.size w4 ((w4.alloc (.cells #[] 2)).alloc (.cells #[.slice (some ⟨w4.heap.size, 0, none⟩) 0 0] 51)) := ((Below.refl _ w4).alloc (Nat.le_refl _) _).alloc (by simp) _; have hLoE := hLo4.keep bE4; have hXE : RdX (fun b => b < ((w4.alloc (.cells #[] 2)).alloc (.cells #[.slice (some ⟨w4.heap.size, 0, none⟩) 0 0] 51)).heap.size ∧ b ≠ g) ((w4.alloc (.cells #[] 2)).alloc (.cells #[.slice (some ⟨w4.heap.size, 0, none⟩) 0 0] 51)) (.slice (some ⟨w4.heap.size, 0, none⟩) 0 0) [] := RdX.nilAt _ _ _; have hCE : ((w4.alloc (.cells #[] 2)).alloc (.cells #[.slice (some ⟨w4.heap.size, 0, none⟩) 0 0] 51)).cell? ⟨w4.heap.size + 1, 0, none⟩ = some (.slice (some ⟨w4.heap.size, 0, none⟩) 0 0) := (by rw [World.cell?_alloc_at _ _ _ _ (by simp)]; rfl); have hz4 := (hB4).size)
              | (at_builtin; refine wpList_append_LL rfl _ _ 29 rfl Try.underlying29 w.heap.size g k oc prev rfl hLoE (w4.heap.size + 1) 1 rfl (some ⟨w4.heap.size, 0, none⟩) 0 0 [] hCE hXE (by omega) (by simp; omega) ?_; intro g5 c5 w5 hL5 hg5 hw5))
            have hB5 : Below w.heap.size w w5 := ((hB.trans (hB4.mono hB.size)).trans (bE4.mono (by omega))).trans (gb_to hg5 (fun j hj => by cases hj; exact (LL.size hL).1) (by simp; omega))
            go_roundw
            case rel => exact ⟨k + 1, g5, c5, by omega, by go_num, rfl, by rw [hlk, hln]; exact hL5, hB5⟩
            case measure => simp [intOf]; omega
    · obtain rfl : N = k := by omega
      have hlti : ¬ (N : Int) < (N : Int) := by omega
      go_wp2_with fail
      go_ret
      exact ⟨g, oc, rfl, hL, hB⟩
end Go.Proofs.Ytfbibbjiomfncaa
