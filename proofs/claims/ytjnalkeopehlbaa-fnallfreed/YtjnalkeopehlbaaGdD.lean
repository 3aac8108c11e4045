import Derived.Test.YtjnalkeopehlbaaGdC
namespace Go.Proofs.Ytjnalkeopehlbaa
open Go.RowKit Go.Maps
set_option linter.unusedVariables false
set_option linter.unusedSimpArgs false

theorem Rd.from {w : World} {g n c r cc k : Nat} {zs : List Int} {A : Option Addr} (h : Rd w (.slice (some ⟨g, 0, none⟩) n c) zs) (hr : k + r = zs.length) (hc : k + cc = c) (hA : 0 < r → A = some ⟨g, k, none⟩) (hn : A ≠ none) : Rd w (.slice A r cc) (zs.drop k) := by
  obtain ⟨a, c', e, hl, hz, hcap, hcell⟩ := h
  simp only [Value.slice.injEq] at e
  obtain ⟨rfl, rfl, rfl⟩ := e
  have hlen : (zs.drop k).length = r := by rw [List.length_drop]; omega
  refine ⟨A, cc, by rw [hlen], by rw [hlen]; omega, hz.drop k, ⟨by rw [hlen]; omega, fun h0 => absurd h0 hn⟩, fun h0 => ?_⟩
  obtain ⟨b, off, e, hb, hcs⟩ := hcell (by omega)
  simp only [Option.some.injEq, Addr.mk.injEq, and_true] at e
  obtain ⟨rfl, rfl⟩ := e
  refine ⟨g, k, hA (by omega), hb, fun i hi => ?_⟩
  have := hcs (k + i) (by omega)
  rw [Nat.zero_add] at this
  rw [this]
  simp [List.getD]
theorem dec_none : ∀ (L : List (Nat × Nat)) (b : Nat), (∀ q (hq : q < L.length), L[q].1 ≠ b) → decL L b = L
  | [], _, _ => rfl
  | p :: r, b, hn => by
    have h0 : p.1 ≠ b := hn 0 (by simp)
    rw [decL, if_neg h0, dec_none r b (fun q hq => hn (q + 1) (by simp; omega))]
set_option maxRecDepth 100000 in
set_option maxHeartbeats 2000000 in
theorem dropG_any (B sb K X Y : Nat) (ov ew : Value) (S : Gs) (hs ts : Nat → Sl) (w : World) (h : SS w B sb ov ew S hs ts) (hI : Iv K S) (hK : K ≤ 2500) (hX : X < S.n) (hY : Y < S.n) (hax : S.al (X + 1) = true) (hBw : B ≤ w.heap.size) :
    Calls Try.prog 44 #[.pointer (some ⟨sb, 0, none⟩), .int .i64 ((X : Int) + 1), .int .i64 ((Y : Int) + 1)] w fun e w' => e = .returned (.bool (decide (Y + 1 ∈ (S.hl (X + 1)).map (·.1)))) ∧ ∃ hs' ts', SS w' B sb ov ew (dropS S (X + 1) (Y + 1)) hs' ts' ∧ Ts sb w ov ew S hs ts w' ov ew (dropS S (X + 1) (Y + 1)) hs' ts' := by
  have hnk := hI.n
  obtain ⟨ob, cap, hov, hobl, hobz⟩ := h.shape (by omega)
  obtain ⟨c, b0, b1, b2, bf⟩ := h.boxc
  obtain ⟨c0, c1, c2, c3, c4, c5, c6⟩ := h.cells hov X hX
  obtain ⟨ah, ch, at', ct, eh, et, hcell⟩ := h.rows (X + 1) hax
  rw [hov] at b0
  rw [eh] at c1
  rw [et] at c2
  have HOV : Hid (ov = .slice (some ⟨ob, 0, none⟩) S.n cap) := hov
  have hXi : (X : Int) < (S.n : Int) := by omega
  obtain ⟨O, hO⟩ : ∃ O, Obj.cells #[.bool true, .slice ah (S.hl (X + 1)).length ch, .slice at' (S.hl (X + 1)).length ct, .int .i64 (S.rt (X + 1) : Nat), .int .i64 (S.wk (X + 1) : Nat), .int .i64 (S.fn (X + 1) : Nat), .bool (S.rn (X + 1))] 80 = O := ⟨_, rfl⟩
  have q1 : (w.alloc O).cell? ⟨w.heap.size, 1, none⟩ = some (.slice ah (S.hl (X + 1)).length ch) := by rw [← hO, World.cell?_alloc_at _ _ _ _ rfl]; rfl
  have q2 : (w.alloc O).cell? ⟨w.heap.size, 2, none⟩ = some (.slice at' (S.hl (X + 1)).length ct) := by rw [← hO, World.cell?_alloc_at _ _ _ _ rfl]; rfl
  have al : Below w.heap.size w (w.alloc O) := (Below.refl _ _).alloc (Nat.le_refl _) _
  have hszA : (w.alloc O).heap.size = w.heap.size + 1 := by simp
  have hA := h.keep al
  have HA : Hid (SS (w.alloc O) B sb ov ew S hs ts) := hA
  have HTA : Hid (Ts sb w ov ew S hs ts (w.alloc O) ov ew S hs ts) := (h.trk al).ts (fun x hx => ⟨hx, rfl, rfl⟩)
  obtain ⟨GB, hGB⟩ : ∃ GB, w.heap.size = GB := ⟨_, rfl⟩
  have hll := hI.len (X + 1)
  have hkb : ∀ p ∈ S.hl (X + 1), p.1 ≤ 2500 ∧ p.2 ≤ 2500 ∧ 1 ≤ p.2 := fun p hp => by have := hI.hl _ p hp; omega
  obtain ⟨HS', hHS⟩ : ∃ H, dropS S (X + 1) (Y + 1) = H := ⟨_, rfl⟩
  have HHS : Hid (dropS S (X + 1) (Y + 1) = HS') := hHS
  rw [hHS]
  obtain ⟨BR, hBR⟩ : ∃ BR, decide (Y + 1 ∈ (S.hl (X + 1)).map (·.1)) = BR := ⟨_, rfl⟩
  have HBR : Hid (decide (Y + 1 ∈ (S.hl (X + 1)).map (·.1)) = BR) := hBR
  rw [hBR]
  clear hBR
  have HEH : Hid ((hs (X + 1)).val = .slice ah (S.hl (X + 1)).length ch) := eh
  have HET : Hid ((ts (X + 1)).val = .slice at' (S.hl (X + 1)).length ct) := et
  obtain ⟨L, hL⟩ : ∃ L, S.hl (X + 1) = L := ⟨_, rfl⟩
  have HL : Hid (S.hl (X + 1) = L) := hL
  have hcell2 : 0 < L.length → ∃ g g', ah = some ⟨g, 0, none⟩ ∧ at' = some ⟨g', 0, none⟩ ∧ ∀ k (hk : k < L.length), (w.alloc O).cell? ⟨g, k, none⟩ = some (.int .i64 ((L[k].1 : Nat) : Int)) ∧ (w.alloc O).cell? ⟨g', k, none⟩ = some (.int .i64 ((L[k].2 : Nat) : Int)) := by
    obtain ⟨a1, c1', a2, c2', e1, e2, h3⟩ := hA.rows (X + 1) hax
    rw [eh] at e1
    rw [et] at e2
    simp only [Value.slice.injEq, true_and] at e1 e2
    rw [hL] at h3
    obtain ⟨rfl, -⟩ := e1
    obtain ⟨rfl, -⟩ := e2
    exact h3
  rw [hL] at c1 c2 hcell q1 q2 hll hkb hO
  obtain ⟨LL, hLL⟩ : ∃ LL, L.length = LL := ⟨_, rfl⟩
  have HLL : Hid (L.length = LL) := hLL
  rw [hLL] at c1 c2 q1 q2 hll hO
  have HHG : Hid (∀ g, (hs (X + 1)).val.ownBlock = some g → g < GB) := fun g e => by have := ((h.hr (X + 1) hax).lt g e).2; omega
  have HTG : Hid (∀ g, (ts (X + 1)).val.ownBlock = some g → g < GB) := fun g e => by have := ((h.tr (X + 1) hax).lt g e).2; omega
  have hsbG : sb < GB := by have := h.lt; omega
  have hobG : ob < GB := by omega
  clear hov al eh et hL hLL hcell hHS hA h
  go_enter Try.func44, Try.ntmps44
  go_upto_region 2 with fail
  try simp only [hO]
  generalize w.alloc O = W1 at *
  rw [hGB] at q1 q2 hszA
  clear c0 c1 c2 c3 c4 c5 c6 b0 b1 b2 bf
  have HC2 : Hid (0 < L.length → ∃ g g', ah = some ⟨g, 0, none⟩ ∧ at' = some ⟨g', 0, none⟩ ∧ ∀ k (hk : k < L.length), W1.cell? ⟨g, k, none⟩ = some (.int .i64 ((L[k].1 : Nat) : Int)) ∧ W1.cell? ⟨g', k, none⟩ = some (.int .i64 ((L[k].2 : Nat) : Int))) := hcell2
  clear hcell2
  go_wp2_with fail
  go_loopw [8] (fun i wq => ∃ k : Nat, k ≤ LL ∧ i = .int .i64 k ∧ (∀ q (hq : q < L.length), q < k → L[q].1 ≠ Y + 1) ∧ wq = W1) (fun i _ => LL - (intOf i).toNat)
  case atStart => exact ⟨0, Nat.zero_le _, rfl, fun q hq h => by omega, rfl⟩
  case round =>
    obtain ⟨k, hk, rfl, hne, hw⟩ := hrel
    obtain rfl : W1 = wr := hw.symm
    clear hw
    have HNE : Hid (∀ q (hq : q < L.length), q < k → L[q].1 ≠ Y + 1) := hne
    clear hne
    by_cases hlt : k < LL
    · have hkL : k < L.length := by rw [HLL.out]; exact hlt
      have hki : (k : Int) < (LL : Int) := by omega
      obtain ⟨g, g', rfl, rfl, hcc⟩ := HC2.out (by omega)
      obtain ⟨r1, r2⟩ := hcc k hkL
      obtain ⟨v1, v2, v3⟩ := hkb L[k] (List.getElem_mem hkL)
      by_cases heq : L[k].1 = Y + 1
      · have hbr : BR = true := by
          rw [← HBR.out, HL.out, decide_eq_true_eq]
          exact mem_keys.2 ⟨k, hkL, heq⟩
        subst hbr
        rw [heq, show ((Y + 1 : Nat) : Int) = (Y : Int) + 1 by omega] at r1
        obtain ⟨c, b0, b1, b2, bf⟩ := HA.out.boxc
        have d2 := (HA.out.cells HOV.out X hX).2.2.1
        rw [HET.out, HL.out, HLL.out] at d2
        rw [HOV.out] at b0
        obtain ⟨V, hV⟩ : ∃ V, L[k].2 = V + 1 := ⟨L[k].2 - 1, by omega⟩
        have hT := HA.out.times (X + 1) hax g' k _ _ V HET.out (by rw [HL.out]; exact hkL) (by omega)
        have f2 : W1.frozen? ⟨g', k, none⟩ = false := by
          have := HA.out.tr (X + 1) hax
          rw [HET.out] at this
          exact this.frozen k
        have hset : ∀ (L2 : List (Nat × Nat)) (h2 : k < L2.length), L2 = L → L2.set k (L2[k].1, V) = L.set k (Y + 1, V) := fun L2 h2 e => by
          subst e
          rw [heq]
        rw [hset _ (by rw [HL.out]; exact hkL) HL.out] at hT
        rw [hV, show ((V + 1 : Nat) : Int) = (V : Int) + 1 by omega] at r2
        have c2V : (W1.setCell ⟨g', k, none⟩ (.int .i64 (V : Nat))).cell? ⟨g', k, none⟩ = some (.int .i64 (V : Nat)) := World.cell?_setCell_same _ _ _ r2
        have HT1 : Hid (SS (W1.setCell ⟨g', k, none⟩ (.int .i64 (V : Nat))) B sb ov ew { S with hl := upd S.hl (X + 1) (L.set k (Y + 1, V)) } hs ts) := hT.1
        have HT2 : Hid (Ts sb w ov ew S hs ts (W1.setCell ⟨g', k, none⟩ (.int .i64 (V : Nat))) ov ew { S with hl := upd S.hl (X + 1) (L.set k (Y + 1, V)) } hs ts) := HTA.out.trans hT.2
        obtain ⟨c', e0, e1, e2, ef⟩ := HT1.out.boxc
        have dd2 := (HT1.out.cells HOV.out X hX).2.2.1
        rw [HET.out, HL.out, HLL.out] at dd2
        rw [HOV.out] at e0
        have HDE : Hid (decL L (Y + 1) = if V + 1 = 1 then L.take k ++ L.drop (k + 1) else L.set k (Y + 1, V)) := by
          show _ = _
          have := dec_at L (Y + 1) k hkL heq HNE.out
          rw [hV] at this
          exact this
        clear hT hcc hset
        by_cases hV0 : V = 0
        · subst hV0
          have e00 : ((0 : Nat) : Int) = 0 := rfl
          rw [e00] at c2V HT1 HT2 e0 dd2 r2
          rw [Int.zero_add] at r2
          have hgG := HTG.out g' (by rw [HET.out]; rfl)
          have hgs := gb_set W1 g' k (.int .i64 0)
          have q1' : (W1.setCell ⟨g', k, none⟩ (.int .i64 0)).cell? ⟨GB, 1, none⟩ = some (.slice (some ⟨g, 0, none⟩) LL ch) := (World.cell?_of_block (a := ⟨GB, 1, none⟩) (hgs.block GB (by omega) (fun e => by have e2 : GB = g' := Option.some.inj e; omega))).trans q1
          have q2' : (W1.setCell ⟨g', k, none⟩ (.int .i64 0)).cell? ⟨GB, 2, none⟩ = some (.slice (some ⟨g', 0, none⟩) LL ct) := (World.cell?_of_block (a := ⟨GB, 2, none⟩) (hgs.block GB (by omega) (fun e => by have e2 : GB = g' := Option.some.inj e; omega))).trans q2
          have hsz2 : (W1.setCell ⟨g', k, none⟩ (.int .i64 0)).heap.size = GB + 1 := by rw [World.size_setCell]; exact hszA
          obtain ⟨r, hr⟩ : ∃ r, LL = k + 1 + r := ⟨LL - (k + 1), by omega⟩
          have HR : Hid (LL = k + 1 + r) := hr
          clear hgs e00 e1 e2 ef hr
          go_upto_region 8 with fail
          generalize W1.setCell ⟨g', k, none⟩ (.int .i64 0) = W2 at *
          clear d2 r1 r2 c2V f2 b0 b1 b2 bf q1 q2
          obtain ⟨S2, hS2⟩ : ∃ S2 : Gs, ({ S with hl := upd S.hl (X + 1) (L.set k (Y + 1, 0)) } : Gs) = S2 := ⟨_, rfl⟩
          have HS2 : Hid (({ S with hl := upd S.hl (X + 1) (L.set k (Y + 1, 0)) } : Gs) = S2) := hS2
          rw [hS2] at HT1 HT2
          have hax2 : S2.al (X + 1) = true := by rw [← hS2]; exact hax
          have hl2 : S2.hl (X + 1) = L.set k (Y + 1, 0) := by rw [← hS2]; exact upd_same _ _ _
          have hX2 : X < S2.n := by rw [← hS2]; exact hX
          have hn2 : S2.n = S.n := by rw [← hS2]
          clear hS2
          have oH := HT1.out.hr (X + 1) hax2
          have oT := HT1.out.tr (X + 1) hax2
          rw [HEH.out, HL.out, HLL.out, hl2] at oH
          rw [HET.out, HL.out, HLL.out, hl2] at oT
          have hset : ksL (L.set k (Y + 1, 0)) = ksL L ∧ vsL (L.set k (Y + 1, 0)) = (vsL L).set k 0 := by
            have := ks_set L k 0 hkL
            rw [heq] at this
            exact this
          rw [hset.1] at oH
          rw [hset.2] at oT
          obtain ⟨KL, hKL⟩ : ∃ KL, ksL L = KL := ⟨_, rfl⟩
          obtain ⟨VL, hVL⟩ : ∃ VL, (vsL L).set k 0 = VL := ⟨_, rfl⟩
          rw [hKL] at oH
          rw [hVL] at oT
          have HKN : Hid (KL.length = LL) := by show _ = _; rw [← hKL, ksL_len]; exact HLL.out
          have HVN : Hid (VL.length = LL) := by show _ = _; rw [← hVL, List.length_set, vsL_len]; exact HLL.out
          have HKD : Hid (ksL (L.take k ++ L.drop (k + 1)) = KL.take k ++ KL.drop (k + 1)) := by show _ = _; rw [← hKL]; unfold ksL; simp [List.map_take, List.map_drop]
          have HVD : Hid (vsL (L.take k ++ L.drop (k + 1)) = VL.take k ++ VL.drop (k + 1)) := by
            show _ = _
            rw [← hVL, List.take_set_of_le (Nat.le_refl _), List.drop_set_of_lt (by omega)]
            unfold vsL; simp [List.map_take, List.map_drop]
          clear hset hKL hVL hl2
          have rH := oH.rd
          have rT := oT.rd
          have hcap : LL ≤ ch ∧ LL ≤ ct := by
            obtain ⟨_, _, e1, _, _, h5, _⟩ := id rH
            obtain ⟨_, _, e2, _, _, h6, _⟩ := id rT
            simp only [Value.slice.injEq] at e1 e2
            obtain ⟨_, e3, rfl⟩ := e1
            obtain ⟨_, e4, rfl⟩ := e2
            omega
          obtain ⟨cc, hcc⟩ : ∃ cc, ch = k + 1 + cc := ⟨ch - (k + 1), by omega⟩
          obtain ⟨cc', hcc'⟩ : ∃ cc', ct = k + 1 + cc' := ⟨ct - (k + 1), by omega⟩
          subst hcc hcc'
          have hrc : r ≤ cc ∧ r ≤ cc' := by have := HR.out; omega
          -- region 8
          have al8 : Below W2.heap.size W2 (W2.alloc (.cells #[] 2)) := (Below.refl _ _).alloc (Nat.le_refl _) _
          have oE8 := Own.empty W2
          rw [hsz2] at oE8
          have rH8 := (rH.keep al8).upto k (by have := HKN.out; omega)
          have hkI : (k : Int) ≤ (LL : Int) := by omega
          have hkC : (k : Int) ≤ ((k + 1 + cc : Nat) : Int) := by omega
          have hsz8 : (W2.alloc (.cells #[] 2)).heap.size = GB + 2 := by rw [World.size_alloc, hsz2]
          have hn8 : ([] : List Int).length + (KL.take k).length = k := by rw [List.length_take]; have := HKN.out; simp; omega
          go_upto_region 9 with (at_builtin; refine wpList_append_rdL rfl (.tmp 60) (.tmp 64) 23 rfl Try.underlying23 (GB + 1) _ _ [] (KL.take k) rfl rfl oE8 rH8 k hn8 (by omega) (by omega) ?_; intro a1 c1 w1' oA hgA hlA)
          have hgA2 : (W2.alloc (.cells #[] 2)).grownBy w1' (some (GB + 1)) := hgA
          rw [List.nil_append] at oA
          have hbw1 : Below (GB + 1) W2 w1' := (al8.mono (by omega)).trans (gb_to hgA2 (fun q hq => by have : GB + 1 = q := Option.some.inj hq; omega) (by omega))
          have hzw1 := hgA2.size
          obtain ⟨z1, hz1⟩ : ∃ z1, w1'.heap.size = z1 := ⟨_, rfl⟩
          rw [hz1, hsz8] at hzw1
          have hH1 : Hid (Own w1' (GB + 1) (.slice a1 k c1) (KL.take k)) := oA
          have q1w := (World.cell?_of_block (a := ⟨GB, 1, none⟩) (hbw1.block GB (by omega))).trans q1'
          have q2w := (World.cell?_of_block (a := ⟨GB, 2, none⟩) (hbw1.block GB (by omega))).trans q2'
          clear oA hgA hgA2 hlA oE8 rH8 al8 hsz8 hn8
          -- region 9
          have al9 : Below w1'.heap.size w1' (w1'.alloc (.cells #[] 2)) := (Below.refl _ _).alloc (Nat.le_refl _) _
          have oE9 := Own.empty w1'
          rw [hz1] at oE9 al9
          have rT9 := ((rT.keep (by rw [hsz2]; exact hbw1)).keep (by rw [hz1]; exact al9)).upto k (by have := HVN.out; omega)
          have q2a := (World.cell?_of_block (a := ⟨GB, 2, none⟩) (al9.block GB (by omega))).trans q2w
          have hkC' : (k : Int) ≤ ((k + 1 + cc' : Nat) : Int) := by omega
          have hsz9 : (w1'.alloc (.cells #[] 2)).heap.size = z1 + 1 := by rw [World.size_alloc, hz1]
          have hn9 : ([] : List Int).length + (VL.take k).length = k := by rw [List.length_take]; have := HVN.out; simp; omega
          go_upto_region 10 with (at_builtin; refine wpList_append_rdL rfl (.tmp 66) (.tmp 70) 23 rfl Try.underlying23 z1 _ _ [] (VL.take k) rfl rfl oE9 rT9 k hn9 (by omega) (by omega) ?_; intro a2 c2 w2' oA hgA hlA)
          have hgA2 : (w1'.alloc (.cells #[] 2)).grownBy w2' (some z1) := hgA
          rw [List.nil_append] at oA
          have hbw2 : Below z1 w1' w2' := al9.trans (gb_to hgA2 (fun q hq => by have : z1 = q := Option.some.inj hq; omega) (by omega))
          have hzw2 := hgA2.size
          obtain ⟨z2, hz2⟩ : ∃ z2, w2'.heap.size = z2 := ⟨_, rfl⟩
          rw [hz2, hsz9] at hzw2
          have hH2 : Hid (Own w2' (GB + 1) (.slice a1 k c1) (KL.take k)) := hH1.out.keep (by rw [hz1]; exact hbw2)
          have hT2 : Hid (Own w2' z1 (.slice a2 k c2) (VL.take k)) := oA
          have hB2 : Below (GB + 1) W2 w2' := hbw1.trans (hbw2.mono (by omega))
          have q1x := (World.cell?_of_block (a := ⟨GB, 1, none⟩) (hbw2.block GB (by omega))).trans q1w
          have q2x := (World.cell?_of_block (a := ⟨GB, 2, none⟩) (hbw2.block GB (by omega))).trans q2w
          have HA1 : Hid (∀ b, (Value.slice a1 k c1).ownBlock = some b → GB + 1 ≤ b ∧ b < z1) := fun b e => by have := hH1.out.lt b e; omega
          have HA2 : Hid (∀ b, (Value.slice a2 k c2).ownBlock = some b → z1 ≤ b ∧ b < z2) := fun b e => by have := hT2.out.lt b e; omega
          clear oA hgA hgA2 hlA oE9 rT9 al9 hsz9 hn9 hH1 hbw1 hbw2 q1w q2w q1' q2' e0 dd2 q2a
          -- region 10
          have hSw := HT1.out.keep (by rw [hsz2]; exact hB2)
          have HSw : Hid (SS w2' B sb ov ew S2 hs ts) := hSw
          have hKp : Kp (fun b => ov.ownBlock = some b ∨ (hs (X + 1)).val.ownBlock = some b ∨ (ts (X + 1)).val.ownBlock = some b) W2 w2' := Kp.of_below (by rw [hsz2]; exact hB2)
          have HKp : Hid (Kp (fun b => ov.ownBlock = some b ∨ (hs (X + 1)).val.ownBlock = some b ∨ (ts (X + 1)).val.ownBlock = some b) W2 w2') := hKp
          obtain ⟨c', b0, b1, b2, bf⟩ := hSw.boxc
          have hcl := hSw.cells (by rw [hn2]; exact HOV.out) X hX2
          have d1 := hcl.2.1
          have d2 := hcl.2.2.1
          have f1 := hSw.frozen (by rw [hn2]; exact HOV.out) (X * 7 + 1)
          have f2 := hSw.frozen (by rw [hn2]; exact HOV.out) (X * 7 + 2)
          rw [HEH.out, HL.out, HLL.out] at d1
          rw [HET.out, HL.out, HLL.out] at d2
          rw [HOV.out] at b0
          have rHw := rH.keep (by rw [hsz2]; exact hB2)
          have rTw := rT.keep (by rw [hsz2]; exact hB2)
          clear hcl hKp hSw
          have wX : IntKind.i64.wrap ((X : Int) + 1 - 1) = (X : Int) := by simp [IntKind.wrap, IntKind.bits, IntKind.signed]; omega
          have wX2 : IntKind.i64.wrap (X : Int) = (X : Int) := by simp [IntKind.wrap, IntKind.bits, IntKind.signed]; omega
          have wk1 : IntKind.i64.wrap ((k : Int) + 1) = (k : Int) + 1 := by simp [IntKind.wrap, IntKind.bits, IntKind.signed]; omega
          have hX0 : (0 : Int) ≤ (X : Int) := by omega
          have hk10 : (0 : Int) ≤ (k : Int) + 1 := by omega
          have hk11 : (k : Int) + 1 ≤ (LL : Int) := by omega
          have hk12 : (LL : Int) ≤ ((k + 1 + cc : Nat) : Int) := by omega
          obtain ⟨A1, hA1⟩ : ∃ A1 : Option Addr, (if cc = 0 then some ⟨g, 0, none⟩ else some ⟨g, k + 1, none⟩) = A1 := ⟨_, rfl⟩
          obtain ⟨A2, hA2⟩ : ∃ A2 : Option Addr, (if cc' = 0 then some ⟨g', 0, none⟩ else some ⟨g', k + 1, none⟩) = A2 := ⟨_, rfl⟩
          have rH3 : Rd w2' (.slice A1 (LL - (k + 1)) cc) (KL.drop (k + 1)) := rHw.from (by have := HKN.out; omega) rfl (fun h0 => by rw [← hA1, if_neg (by omega)]) (by rw [← hA1]; split <;> simp)
          have rT3 : Rd w2' (.slice A2 (LL - (k + 1)) cc') (VL.drop (k + 1)) := rTw.from (by have := HVN.out; omega) rfl (fun h0 => by rw [← hA2, if_neg (by omega)]) (by rw [← hA2]; split <;> simp)
          obtain ⟨m, hm⟩ : ∃ m, LL = m + 1 := ⟨LL - 1, by omega⟩
          have hnH : (KL.take k).length + (KL.drop (k + 1)).length = m := by rw [List.length_take, List.length_drop]; have := HKN.out; omega
          have hnT : (VL.take k).length + (VL.drop (k + 1)).length = m := by rw [List.length_take, List.length_drop]; have := HVN.out; omega
          have hm2 : m ≤ 16777216 := by omega
          clear hm rHw rTw
          obtain ⟨K1, hK1⟩ : ∃ K1, KL.take k = K1 := ⟨_, rfl⟩
          obtain ⟨K2, hK2⟩ : ∃ K2, KL.drop (k + 1) = K2 := ⟨_, rfl⟩
          obtain ⟨V1, hV1⟩ : ∃ V1, VL.take k = V1 := ⟨_, rfl⟩
          obtain ⟨V2, hV2⟩ : ∃ V2, VL.drop (k + 1) = V2 := ⟨_, rfl⟩
          rw [hK1] at hH2 hnH HKD
          rw [hK2] at rH3 hnH HKD
          rw [hV1] at hT2 hnT HVD
          rw [hV2] at rT3 hnT HVD
          clear hK1 hK2 hV1 hV2
          have oH3 := hH2.out.drew
          have rH4 := rH3.drew
          have hobsb : sb ≠ ob := fun e => HSw.out.out_sb (by rw [HOV.out, e]; rfl)
          have HOE : Hid (ov.ownBlock = some ob) := by show _ = _; rw [HOV.out]; rfl
          have hB10 : GB + 1 ≤ w2'.drew.heap.size := by show GB + 1 ≤ w2'.heap.size; omega
          have HKE : Hid (∀ w' v, w2'.drew.grownBy w' (Value.slice a1 k c1).ownBlock → (w'.cell? ⟨sb, 0, none⟩ = some (.slice (some ⟨ob, 0, none⟩) S.n cap) ∧ w'.cell? ⟨GB, 1, none⟩ = some (.slice (some ⟨g, 0, none⟩) LL (k + 1 + cc)) ∧ w'.cell? ⟨ob, X * 7 + 1, none⟩ = some (.slice (some ⟨g, 0, none⟩) LL (k + 1 + cc)) ∧ w'.frozen? ⟨ob, X * 7 + 1, none⟩ = false) ∧
              (w'.setCell ⟨ob, X * 7 + 1, none⟩ v).cell? ⟨sb, 0, none⟩ = some (.slice (some ⟨ob, 0, none⟩) S.n cap) ∧ (w'.setCell ⟨ob, X * 7 + 1, none⟩ v).cell? ⟨GB, 1, none⟩ = some (.slice (some ⟨g, 0, none⟩) LL (k + 1 + cc)) ∧ (w'.setCell ⟨ob, X * 7 + 1, none⟩ v).cell? ⟨GB, 2, none⟩ = some (.slice (some ⟨g', 0, none⟩) LL (k + 1 + cc')) ∧ (w'.setCell ⟨ob, X * 7 + 1, none⟩ v).cell? ⟨ob, X * 7 + 2, none⟩ = some (.slice (some ⟨g', 0, none⟩) LL (k + 1 + cc')) ∧ (w'.setCell ⟨ob, X * 7 + 1, none⟩ v).frozen? ⟨ob, X * 7 + 2, none⟩ = false) := fun w' v hg => by
            have hzd : w2'.drew.heap.size = z2 := hz2
            have e1 := hg.block sb (by omega) (fun e => by have := HA1.out sb e.symm; omega)
            have e2 := hg.block ob (by omega) (fun e => by have := HA1.out ob e.symm; omega)
            have e3 := hg.block GB (by omega) (fun e => by have := HA1.out GB e.symm; omega)
            have k1 := (World.cell?_of_block (a := ⟨sb, 0, none⟩) e1).trans b0
            have k2 := (World.cell?_of_block (a := ⟨GB, 1, none⟩) e3).trans q1x
            have k3 := (World.cell?_of_block (a := ⟨GB, 2, none⟩) e3).trans q2x
            have k4 := (World.cell?_of_block (a := ⟨ob, X * 7 + 1, none⟩) e2).trans d1
            have k5 := (World.frozen?_of_block (a := ⟨ob, X * 7 + 1, none⟩) e2).trans f1
            have k6 := (World.cell?_of_block (a := ⟨ob, X * 7 + 2, none⟩) e2).trans d2
            have k7 := (World.frozen?_of_block (a := ⟨ob, X * 7 + 2, none⟩) e2).trans f2
            have hgs := gb_set w' ob (X * 7 + 1) v
            have hsw := hg.size
            refine ⟨⟨k1, k2, k4, k5⟩, (World.cell?_of_block (a := ⟨sb, 0, none⟩) (hgs.block sb (by omega) (fun e => hobsb (Option.some.inj e)))).trans k1, (World.cell?_of_block (a := ⟨GB, 1, none⟩) (hgs.block GB (by omega) (fun e => by have e2 : GB = ob := Option.some.inj e; omega))).trans k2, (World.cell?_of_block (a := ⟨GB, 2, none⟩) (hgs.block GB (by omega) (fun e => by have e2 : GB = ob := Option.some.inj e; omega))).trans k3, ?_, ?_⟩
            · exact (World.cell?_setCell_other w' (a := ⟨ob, X * 7 + 1, none⟩) (b := ⟨ob, X * 7 + 2, none⟩) v (fun e => by injection e with _ e2; omega)).trans k6
            · rw [World.frozen?_setCell]; exact k7
          have HO2 : Hid (OwnG shX 80 w2'.drew B (.slice (some ⟨ob, 0, none⟩) S.n cap) (txs S2 hs ts)) := by
            have := HSw.out.out.drew
            rw [HOV.out] at this
            exact this
          go_region_held3 (fun W => W.cell? ⟨sb, 0, none⟩ = some (.slice (some ⟨ob, 0, none⟩) S.n cap) ∧ W.cell? ⟨GB, 1, none⟩ = some (.slice (some ⟨g, 0, none⟩) LL (k + 1 + cc))) (go_keep) (first | (refine step_append_rdL rfl (.tmp 78) (.tmp 83) 23 rfl Try.underlying23 (GB + 1) (.slice a1 k c1) (.slice A1 (LL - (k + 1)) cc) K1 K2 (by simp [Act.eval, Act.put]) (by simp [Act.eval, Act.put, hA1]) oH3 rH4 m hnH hm2 hB10 ?_; intro a3 c3 w3 o3 hg3 hl3; obtain ⟨⟨k1, k2, k3, k4⟩, m1, m5, m2, m3, m4⟩ := HKE.out w3 (.slice a3 m c3) hg3))
          have hgs := gb_set w3 ob (X * 7 + 1) (.slice a3 m c3)
          have hsw3 := hg3.size
          have hzd : w2'.drew.heap.size = z2 := hz2
          rw [hzd] at hsw3 hl3
          have HN3 : Hid (∀ b, (Value.slice a3 m c3).ownBlock = some b → (GB + 1 ≤ b ∧ b < z1) ∨ b = z2) := fun b e => by
            rcases hl3 with h5 | h5
            · exact .inl (HA1.out b (by rw [← h5]; exact e))
            · rw [h5] at e; exact .inr (Option.some.inj e).symm
          have HO3 : Hid (OwnG shX 80 (w3.setCell ⟨ob, X * 7 + 1, none⟩ (.slice a3 m c3)) B (.slice (some ⟨ob, 0, none⟩) S.n cap) (txs S2 (upd hs (X + 1) ⟨a3, m, c3⟩) ts)) := out_setH (HO2.out.but hg3 (.inr (fun e => by have := HA1.out ob (by rw [← e]; rfl); omega))) X hX2 ⟨a3, m, c3⟩
          have HH3 : Hid (Own (w3.setCell ⟨ob, X * 7 + 1, none⟩ (.slice a3 m c3)) (GB + 1) (.slice a3 m c3) (K1 ++ K2)) := o3.but hgs (.inr (fun e => by have := HN3.out ob e; omega))
          have oT3 : Own (w3.setCell ⟨ob, X * 7 + 1, none⟩ (.slice a3 m c3)) z1 (.slice a2 k c2) V1 := (hT2.out.drew.but hg3 (by
            by_cases e : (Value.slice a2 k c2).ownBlock = none
            · exact .inl e
            · obtain ⟨q, hq⟩ : ∃ q, (Value.slice a2 k c2).ownBlock = some q := Option.ne_none_iff_exists'.1 e
              refine .inr (fun e2 => ?_)
              have h5 := HA2.out q hq
              have h6 := HA1.out q (by rw [← e2]; exact hq)
              omega)).but hgs (.inr (fun e => by have := HA2.out ob e; omega))
          have HK3 : Hid (Kp (fun b => ov.ownBlock = some b ∨ (hs (X + 1)).val.ownBlock = some b ∨ (ts (X + 1)).val.ownBlock = some b) W2 (w3.setCell ⟨ob, X * 7 + 1, none⟩ (.slice a3 m c3))) := ((HKp.out.below2 (Below.refl _ _).drew).grown2 hg3 (fun q e h => by have := HA1.out q e; omega)).grown2 hgs (fun q e _ => .inl (by rw [HOE.out]; exact e))
          have rT4 : Rd (w3.setCell ⟨ob, X * 7 + 1, none⟩ (.slice a3 m c3)) (.slice A2 (LL - (k + 1)) cc') V2 := by
            obtain ⟨aa, ccc, e, h1, h2, h3, h4⟩ := rT3
            refine ⟨aa, ccc, e, h1, h2, h3, fun h0 => ?_⟩
            obtain ⟨b, off, e5, h6, h7⟩ := h4 h0
            simp only [Value.slice.injEq] at e
            have hbg : b = g' := by
              have h8 : A2 = some ⟨b, off, none⟩ := e.1.trans e5
              rw [← hA2] at h8
              split at h8 <;> (simp only [Option.some.injEq, Addr.mk.injEq] at h8; exact h8.1.symm)
            have hg'ob : g' ≠ ob := fun e9 => by
              have := HSw.out.pf_int (HSw.out.tr (X + 1) hax2) (show (ts (X + 1)).val.ownBlock = some g' by rw [HET.out]; rfl)
              exact this (.inr (.inl (by rw [HOE.out, e9])))
            have e8 : (w3.setCell ⟨ob, X * 7 + 1, none⟩ (.slice a3 m c3)).heap[b]? = w2'.heap[b]? := by
              rw [hgs.block b (by omega) (fun e9 => by have : b = ob := Option.some.inj e9; omega)]
              exact hg3.block b (by show b < w2'.heap.size; omega) (fun e9 => by have := HA1.out b e9.symm; omega)
            refine ⟨b, off, e5, ?_, fun q hq => ?_⟩
            · have := hgs.size; omega
            · rw [World.cell?_of_block (a := ⟨b, off + q, none⟩) e8]; exact h7 q hq
          have hz3 : (w3.setCell ⟨ob, X * 7 + 1, none⟩ (.slice a3 m c3)).heap.size = w3.heap.size := World.size_setCell _ _ _
          have hb3 : ∀ b, (Value.slice a3 m c3).ownBlock = some b → b < w3.heap.size := fun b e => (o3.lt b e).2
          clear k1 k2 k3 k4 m5 o3 hg3 hl3 hgs HKE HO2 HKp oH3 rH4 rH3 rT3 hT2 hH2 b0 q1x q2x d1 d2 f1 f2
          obtain ⟨z3, hz3'⟩ : ∃ z3, w3.heap.size = z3 := ⟨_, rfl⟩
          rw [hz3'] at hz3 hsw3 hb3
          have HB3 : Hid (∀ b, (Value.slice a3 m c3).ownBlock = some b → b < z3) := hb3
          clear hb3
          generalize w3.setCell ⟨ob, X * 7 + 1, none⟩ (.slice a3 m c3) = W3 at *
          have oT4 := oT3.drew
          have rT5 := rT4.drew
          have hB11 : z1 ≤ W3.drew.heap.size := by show z1 ≤ W3.heap.size; omega
          have HKE : Hid (∀ w' v, W3.drew.grownBy w' (Value.slice a2 k c2).ownBlock → (w'.cell? ⟨sb, 0, none⟩ = some (.slice (some ⟨ob, 0, none⟩) S.n cap) ∧ w'.cell? ⟨GB, 2, none⟩ = some (.slice (some ⟨g', 0, none⟩) LL (k + 1 + cc')) ∧ w'.cell? ⟨ob, X * 7 + 2, none⟩ = some (.slice (some ⟨g', 0, none⟩) LL (k + 1 + cc')) ∧ w'.frozen? ⟨ob, X * 7 + 2, none⟩ = false) ∧
              (w'.setCell ⟨ob, X * 7 + 2, none⟩ v).cell? ⟨sb, 0, none⟩ = some (.slice (some ⟨ob, 0, none⟩) S.n cap) ∧ (w'.setCell ⟨ob, X * 7 + 2, none⟩ v).cell? ⟨GB, 2, none⟩ = some (.slice (some ⟨g', 0, none⟩) LL (k + 1 + cc'))) := fun w' v hg => by
            have hzd : W3.drew.heap.size = z3 := hz3
            have e1 := hg.block sb (by omega) (fun e => by have := HA2.out sb e.symm; omega)
            have e2 := hg.block ob (by omega) (fun e => by have := HA2.out ob e.symm; omega)
            have e3 := hg.block GB (by omega) (fun e => by have := HA2.out GB e.symm; omega)
            have k1 := (World.cell?_of_block (a := ⟨sb, 0, none⟩) e1).trans m1
            have k3 := (World.cell?_of_block (a := ⟨GB, 2, none⟩) e3).trans m2
            have k6 := (World.cell?_of_block (a := ⟨ob, X * 7 + 2, none⟩) e2).trans m3
            have k7 := (World.frozen?_of_block (a := ⟨ob, X * 7 + 2, none⟩) e2).trans m4
            have hgs := gb_set w' ob (X * 7 + 2) v
            have hsw := hg.size
            exact ⟨⟨k1, k3, k6, k7⟩, (World.cell?_of_block (a := ⟨sb, 0, none⟩) (hgs.block sb (by omega) (fun e => hobsb (Option.some.inj e)))).trans k1, (World.cell?_of_block (a := ⟨GB, 2, none⟩) (hgs.block GB (by omega) (fun e => by have e2 : GB = ob := Option.some.inj e; omega))).trans k3⟩
          have hk13 : (LL : Int) ≤ ((k + 1 + cc' : Nat) : Int) := by omega
          go_upto_region 11 with fail
          go_region_held3 (fun W => W.cell? ⟨sb, 0, none⟩ = some (.slice (some ⟨ob, 0, none⟩) S.n cap) ∧ W.cell? ⟨GB, 2, none⟩ = some (.slice (some ⟨g', 0, none⟩) LL (k + 1 + cc'))) (go_keep) (first | (refine step_append_rdL rfl (.tmp 93) (.tmp 98) 23 rfl Try.underlying23 z1 (.slice a2 k c2) (.slice A2 (LL - (k + 1)) cc') V1 V2 (by simp [Act.eval, Act.put]) (by simp [Act.eval, Act.put, hA2]) oT4 rT5 m hnT hm2 hB11 ?_; intro a4 c4 w4 o4 hg4 hl4; obtain ⟨⟨k1, k2, k3, k4⟩, n1, n2⟩ := HKE.out w4 (.slice a4 m c4) hg4))
          have hgs := gb_set w4 ob (X * 7 + 2) (.slice a4 m c4)
          have hsw4 := hg4.size
          have hzd3 : W3.drew.heap.size = z3 := hz3
          rw [hzd3] at hsw4 hl4
          have HN4 : ∀ b, (Value.slice a4 m c4).ownBlock = some b → (z1 ≤ b ∧ b < z2) ∨ b = z3 := fun b e => by
            rcases hl4 with h5 | h5
            · exact .inl (HA2.out b (by rw [← h5]; exact e))
            · rw [h5] at e; exact .inr (Option.some.inj e).symm
          have oF := out_setT (HO3.out.drew.but hg4 (.inr (fun e => by have := HA2.out ob (by rw [← e]; rfl); omega))) X hX2 ⟨a4, m, c4⟩
          have hap : NoSh (Value.slice a3 m c3) (Value.slice a2 k c2) := by
            by_cases e : (Value.slice a3 m c3).ownBlock = none
            · exact .inl e
            · obtain ⟨q, hq⟩ : ∃ q, (Value.slice a3 m c3).ownBlock = some q := Option.ne_none_iff_exists'.1 e
              refine .inr (fun e2 => ?_)
              have h5 := HN3.out q hq
              have h6 := HA2.out q (by rw [← e2]; exact hq)
              omega
          have oHF : Own (w4.setCell ⟨ob, X * 7 + 2, none⟩ (.slice a4 m c4)) B (.slice a3 m c3) (K1 ++ K2) := ((HH3.out.drew.but hg4 hap).but hgs (.inr (fun e => by have := HN3.out ob e; omega))).mono (by omega)
          have oTF : Own (w4.setCell ⟨ob, X * 7 + 2, none⟩ (.slice a4 m c4)) B (.slice a4 m c4) (V1 ++ V2) := (o4.but hgs (.inr (fun e => by have := HN4 ob e; omega))).mono (by omega)
          have hKF := ((HK3.out.below2 (Below.refl _ _).drew).grown2 hg4 (fun q e h => by have := HA2.out q e; omega)).grown2 hgs (fun q e _ => .inl (by rw [HOE.out]; exact e))
          have hF := HT1.out.rebuild (w' := w4.setCell ⟨ob, X * 7 + 2, none⟩ (.slice a4 m c4)) (X + 1) hax2 (L.take k ++ L.drop (k + 1)) ⟨a3, m, c3⟩ ⟨a4, m, c4⟩ hKF (by rw [HOV.out]; exact oF) (by rw [HKD.out]; exact oHF) (by rw [HVD.out]; exact oTF) (fun b e => by
              rcases HN3.out b e with h5 | h5
              · exact .inr (by omega)
              · exact .inr (by omega)) (fun b e => by
              rcases HN4 b e with h5 | h5
              · exact .inr (by omega)
              · exact .inr (by omega)) (by
              by_cases e : (Value.slice a3 m c3).ownBlock = none
              · exact .inl e
              · obtain ⟨q, hq⟩ : ∃ q, (Value.slice a3 m c3).ownBlock = some q := Option.ne_none_iff_exists'.1 e
                refine .inr (fun e2 => ?_)
                have h5 := HN3.out q hq
                have h6 := HN4 q (by rw [← hq]; exact e2.symm)
                have h7 := HB3.out q hq
                omega)
          have HE : Hid ({ S2 with hl := upd S2.hl (X + 1) (L.take k ++ L.drop (k + 1)) } = HS') := by
            show _ = _
            rw [← HHS.out, ← HS2.out]
            unfold dropS
            rw [HL.out, HDE.out, if_pos rfl]
            simp only [upd_upd]
          rw [HE.out] at hF
          have HF1 : Hid (SS (w4.setCell ⟨ob, X * 7 + 2, none⟩ (.slice a4 m c4)) B sb ov ew HS' (upd hs (X + 1) ⟨a3, m, c3⟩) (upd ts (X + 1) ⟨a4, m, c4⟩)) := hF.1
          have HF2 : Hid (Ts sb w ov ew S hs ts (w4.setCell ⟨ob, X * 7 + 2, none⟩ (.slice a4 m c4)) ov ew HS' (upd hs (X + 1) ⟨a3, m, c3⟩) (upd ts (X + 1) ⟨a4, m, c4⟩)) := HT2.out.trans hF.2
          clear hF HE hKF oF oHF oTF hap hgs k1 k2 k3 k4 n1 n2 m1 m2 m3 m4 o4 hg4 HKE HO3 HH3 HK3 oT4 rT5
          go_wp2
          go_ret
          exact ⟨rfl, _, _, HF1.out, HF2.out⟩
        · have eV : (((V : Nat) : Int) == 0) = false := by rw [beq_eq_false_iff_ne]; omega
          have HE : Hid ({ S with hl := upd S.hl (X + 1) (L.set k (Y + 1, V)) } = HS') := by
            show _ = _
            rw [← HHS.out]
            unfold dropS
            rw [HL.out, HDE.out, if_neg (by omega)]
          have HF1 : Hid (SS (W1.setCell ⟨g', k, none⟩ (.int .i64 (V : Nat))) B sb ov ew HS' hs ts) := by show SS _ _ _ _ _ _ _ _; rw [← HE.out]; exact HT1.out
          have HF2 : Hid (Ts sb w ov ew S hs ts (W1.setCell ⟨g', k, none⟩ (.int .i64 (V : Nat))) ov ew HS' hs ts) := by show Ts _ _ _ _ _ _ _ _ _ _ _ _ _; rw [← HE.out]; exact HT2.out
          have hVb : V ≤ 2500 := by omega
          clear HT1 HT2 HE hV0 heq hV v2 v3
          go_wp2
          go_ret
          exact ⟨rfl, hs, ts, HF1.out, HF2.out⟩
      · have e1 : (((L[k].1 : Nat) : Int) == (Y : Int) + 1) = false := by rw [beq_eq_false_iff_ne]; omega
        obtain ⟨Z, hZ⟩ : ∃ Z, L[k].1 = Z := ⟨_, rfl⟩
        have HN2 : Hid (∀ q (hq : q < L.length), q < k + 1 → L[q].1 ≠ Y + 1) := fun q hq hqk => by
          by_cases e : q = k
          · subst e; exact heq
          · exact HNE.out q hq (by omega)
        rw [hZ] at r1 e1 v1
        have e2 : ((Z : Int) != (Y : Int) + 1) = true := by rw [bne, e1]; rfl
        clear heq hcc r2 hZ
        go_wp2
        go_roundw
        case rel => exact ⟨k + 1, by omega, by go_num, HN2.out, by first | rfl | trivial⟩
        case measure => simp [intOf]; omega
    · obtain rfl : k = LL := by omega
      have hki : ¬ (k : Int) < (k : Int) := by omega
      have hbr : BR = false := by
        rw [← HBR.out, HL.out, decide_eq_false_iff_not, mem_keys]
        rintro ⟨q, hq, e⟩
        exact HNE.out q hq (by rw [← HLL.out]; exact hq) e
      subst hbr
      have HE : Hid (S = HS') := by
        show _ = _
        rw [← HHS.out]
        unfold dropS
        rw [HL.out, dec_none L (Y + 1) (fun q hq => HNE.out q hq (by rw [← HLL.out]; exact hq)), ← HL.out, upd_id]
      have HF1 : Hid (SS W1 B sb ov ew HS' hs ts) := by show SS _ _ _ _ _ _ _ _; rw [← HE.out]; exact HA.out
      have HF2 : Hid (Ts sb w ov ew S hs ts W1 ov ew HS' hs ts) := by
        have := HTA.out
        show Ts _ _ _ _ _ _ _ _ _ _ _ _ _
        rw [← HE.out]; exact this
      clear HE
      go_wp2
      go_ret
      exact ⟨rfl, hs, ts, HF1.out, HF2.out⟩
end Go.Proofs.Ytjnalkeopehlbaa
