import Derived.Test.YtnpjlmnhailipaaTbF
import Derived.Deep.RegionHeld3
namespace Go.Proofs.Ytnpjlmnhailipaa
open Go.RowKit
set_option linter.unusedVariables false
set_option linter.unusedSimpArgs false

theorem keepc {w w' : World} {a : Addr} {x : Value} (hB : Below w.drew.heap.size w.drew w') (h : w.cell? a = some x) : w'.cell? a = some x := by
  have := hB.cell (p := a) (World.block_lt_of_cell? w a h)
  rw [this]; exact h

set_option maxRecDepth 100000 in
set_option maxHeartbeats 2000000 in
theorem okS_any (v : Value) (d : Dt) (w : World) (hr : RdD w v d) (hb : -9223372036854775808 ≤ d.l ∧ d.l < 9223372036854775808) :
    Calls Try.prog 17 #[v] w fun e w' => e = .returned (.bool (okD d)) ∧ Below w.heap.size w w' := by
  obtain ⟨ds, de, dl⟩ := d
  have hr0 := hr
  obtain ⟨vs, ve, rfl, h1, h2⟩ := hr
  simp only at h1 h2 hb
  generalize hR : okD ⟨ds, de, dl⟩ = R
  have bX := Box3.new w vs ve (.int .i64 dl) 25
  have bW := Below.three (w := w) vs ve (.int .i64 dl) 25
  obtain ⟨a1, c1, e1, hl1, hz1, hn1, hc1⟩ := id h1
  obtain ⟨a2, c2, e2, hl2, hz2, hn2, hc2⟩ := id h2
  subst e1 e2
  unfold dv
  have HSz := fun W => l7Size_any ds.length W hl1
  by_cases hS : Sz ds.length
  · simp only [hS, decide_true] at HSz
    obtain ⟨m, h3, h16, hm⟩ := id hS
    have hsz := sz_le h16
    rw [← hm] at hsz
    by_cases hE : de.length ≤ ds.length * 2 / 3
    · have HR : Hid (okD ⟨ds, de, dl⟩ = R) := hR
      have HM : Hid (ds.length = 2 ^ m) := hm
      have HC1 := hc1
      have HC2 := hc2
      clear hR hm hS hr0
      go_enter Try.func17, Try.ntmps17
      go_wp2_with (go_at_call 47; refine (HSz _).mono ?_; rintro e w2 ⟨rfl, rfl⟩)
      clear HC1 HC2
      go_loopw [4, 5] (fun l i wr => ∃ k : Nat, k ≤ de.length ∧ l = .int .i64 (livN (de.take k)) ∧ i = .int .i64 k ∧ (∀ e ∈ de.take k, e.g = true → e.k = 0 ∧ e.v = 0) ∧ Below (w.heap.size + 1) (w.alloc (.cells #[.slice a1 ds.length c1, .slice a2 de.length c2, .int .i64 dl] 25)) wr)
        (fun _ i _ => de.length - (intOf i).toNat)
      case atStart => exact ⟨0, Nat.zero_le _, rfl, rfl, by simp, Below.refl _ _⟩
      case round =>
        obtain ⟨k, hk, rfl, rfl, hA, hBt⟩ := hrel
        have hB1 : Below w.heap.size w wr := bW.trans (hBt.mono (Nat.le_succ _))
        obtain ⟨hbx, k0, k1, k2⟩ := bX.keep (by simpa using hBt)
        by_cases hlt : k < de.length
        · obtain ⟨b', off', rfl, hb', hcell'⟩ := hc2 (by omega)
          obtain ⟨d0, d1, d2, d3⟩ := RdE.at (fun k hk j hj => (hB1.cell (p := ⟨b', _, none⟩) hb').trans (hcell' k hk j hj)) k hlt
          have htk := List.take_succ_eq_append_getElem hlt
          have hmem := List.getElem_mem hlt
          generalize hEE : de[k] = E at *
          obtain ⟨Eh, Ek, Ev, Eg⟩ := E
          simp only at *
          have hB2 : Below (w.heap.size + 1) (w.alloc (.cells #[.slice a1 ds.length c1, .slice (some ⟨b', off', none⟩) de.length c2, .int .i64 dl] 25)) (wr.alloc (.cells #[.int .u64 Eh, .int .i64 Ek, .int .i64 Ev, .bool Eg] 63)) := hBt.alloc (by omega) _
          clear hc1 hc2 hcell'
          have z1 := oldc k1 (.cells #[.int .u64 0, .int .i64 0, .int .i64 0, .bool false] 63)
          have x0 := oldc d0 (.cells #[.int .u64 0, .int .i64 0, .int .i64 0, .bool false] 63)
          have x1 := oldc d1 (.cells #[.int .u64 0, .int .i64 0, .int .i64 0, .bool false] 63)
          have x2 := oldc d2 (.cells #[.int .u64 0, .int .i64 0, .int .i64 0, .bool false] 63)
          have x3 := oldc d3 (.cells #[.int .u64 0, .int .i64 0, .int .i64 0, .bool false] 63)
          have hlv : (livN (de.take k) : Int) ≤ 16777216 := by
            have : livN (de.take k) ≤ (de.take k).length := List.countP_le_length
            simp at this; omega
          cases Eg
          · clear k0 k2 hB1
            go_wp2
            go_roundw
            case rel =>
              refine ⟨k + 1, by omega, ?_, by go_num, ?_, hB2⟩
              · rw [htk]; simp [livN, List.countP_append]
              · rw [htk]; intro e he hg
                rcases List.mem_append.1 he with h | h
                · exact hA e h hg
                · simp at h; subst h; cases hg
            case measure => simp [intOf]; omega
          · by_cases hz : Ek = 0
            · subst hz
              by_cases hz' : Ev = 0
              · subst hz'
                clear k0 k2 hB1
                go_wp2
                go_roundw
                case rel =>
                  refine ⟨k + 1, by omega, ?_, by go_num, ?_, hB2⟩
                  · rw [htk]; simp [livN, List.countP_append]
                  · rw [htk]; intro e he hg
                    rcases List.mem_append.1 he with h | h
                    · exact hA e h hg
                    · simp at h; subst h; exact ⟨rfl, rfl⟩
                case measure => simp [intOf]; omega
              · have hv : (Ev == 0) = false := by simpa using hz'
                obtain rfl : R = false := by
                  rw [← HR.out]; exact okD_false (fun h => hz' (h.2.2.1 _ hmem rfl).2)
                clear k0 k2 hz'
                go_wp2
                go_ret
                exact ⟨rfl, hB1.alloc hB1.size _⟩
            · have hv : (Ek == 0) = false := by simpa using hz
              obtain rfl : R = false := by
                rw [← HR.out]; exact okD_false (fun h => hz (h.2.2.1 _ hmem rfl).1)
              clear k0 k2 hz
              go_wp2
              go_ret
              exact ⟨rfl, hB1.alloc hB1.size _⟩
        · obtain rfl : k = de.length := by omega
          rw [List.take_length] at hA ⊢
          by_cases hL : dl = livN de
          · have hpos : 0 < ds.length := by rw [HM.out]; exact Nat.two_pow_pos m
            have HTab : ∀ W, RdE W (.slice a2 de.length c2) de → Calls Try.prog 39 #[.slice a2 de.length c2, .int .i64 ds.length] W fun e w' => ∃ a c, e = .returned (.slice a ds.length c) ∧ Own w' W.heap.size (.slice a ds.length c) (tabOf ds.length de) ∧ Below W.heap.size W w' := by
              intro W h; rw [HM.out]; exact l7Table_any _ de m W h h16 (by rw [← HM.out]; omega)
            have HFnd : ∀ W (h k : Int), ds = tabOf ds.length de → RdE W (.slice a2 de.length c2) de → Rd W (.slice a1 ds.length c1) ds → 0 ≤ h → h < 18446744073709551616 → Calls Try.prog 48 #[.agg #[.slice a1 ds.length c1, .slice a2 de.length c2, .int .i64 dl], .int .u64 h, .int .i64 k] W fun e w' => e = .returned (.tuple #[.int .i64 (fnd ⟨ds, de, dl⟩ h k).1, .int .i64 (fnd ⟨ds, de, dl⟩ h k).2]) ∧ Below W.heap.size W w' := by
              intro W h k ht h2 h1 hh0 hh1
              exact l7Find_tab _ ⟨ds, de, dl⟩ h k m W ⟨_, _, rfl, h1, h2⟩ h16 (by show ds = _; rw [← HM.out]; exact ht) (by show de.length < _; rw [← HM.out]; omega) hh0 hh1
            have HTL : (tabOf ds.length de).length = ds.length := tabK_length _ _ _
            have HL' : ((livN de : Int) == dl) = true := by rw [hL]; simp
            have HLh : Hid (dl = livN de) := hL
            clear hL
            generalize hTT : tabOf ds.length de = TT at HTab HTL HFnd
            go_wp2_with (go_at_call 39; refine (HTab _ (h2.keep hB1)).mono ?_; rintro e w3 ⟨aT, cT, rfl, oT, hB3⟩; have hBx := hBt.trans (hB3.mono (by omega)); obtain ⟨hbx3, j0, j1, j2⟩ := bX.keep (by simpa using hBx); clear k0 k1 k2)
            go_loopw [8] (fun i ws => ∃ k : Nat, k ≤ ds.length ∧ i = .int .i64 k ∧ TT.take k = ds.take k ∧ Below w3.heap.size w3 ws) (fun i _ => ds.length - (intOf i).toNat)
            case atStart => exact ⟨0, Nat.zero_le _, rfl, by simp, Below.refl _ _⟩
            case round =>
              obtain ⟨k, hk2, rfl, hEq, hBs⟩ := hrel
              clear hbx3 j0 j1 j2
              have hBy := hBx.trans (hBs.mono (by have := hBx.size; simp at this; omega))
              have hB4 : Below w.heap.size w _ := bW.trans (hBy.mono (Nat.le_succ _))
              obtain ⟨hbx3, j0, j1, j2⟩ := bX.keep (by simpa using hBy)
              by_cases hlt2 : k < ds.length
              · obtain ⟨b, off, rfl, hbb, hcell⟩ := hc1 hpos
                obtain ⟨at', ct', eT, -, -, -, hcT⟩ := oT.rd.keep hBs
                rw [HTL] at hcT eT
                simp only [Value.slice.injEq, true_and] at eT
                obtain ⟨rfl, rfl⟩ := eT
                obtain ⟨bT, offT, rfl, hbT, hcellT⟩ := hcT hpos
                have cS := (hB4.cell (p := ⟨b, off + k, none⟩) hbb).trans (hcell k hlt2)
                have cT' := hcellT k hlt2
                have hsT : k < TT.length := by omega
                have hA2 := hEq
                have HL2 : Hid (TT.length = ds.length) := HTL
                have HT2 : Hid (tabOf ds.length de = TT) := hTT
                clear hcell hcellT hcT hc1 hc2 HTab HFnd HTL hTT hEq HSz
                have e1 : TT.getD k 0 = TT[k] := by simp [List.getD, hsT]
                have e2 : ds.getD k 0 = ds[k] := by simp [List.getD, hlt2]
                rw [e1] at cT'
                rw [e2] at cS
                clear e1 e2
                by_cases hne : TT[k] = ds[k]
                · have hne' : (TT[k] == ds[k]) = true := by simpa using hne
                  have HN2 : Hid (TT[k] = ds[k]) := hne
                  clear hne
                  generalize hx : TT[k] = x at *
                  generalize hy : ds[k] = y at *
                  go_wp2
                  go_region
                  all_goals
                    go_wp2
                    go_roundw
                    case rel =>
                      refine ⟨k + 1, by omega, by go_num, ?_, hBs.drew⟩
                      rw [List.take_succ_eq_append_getElem hsT, List.take_succ_eq_append_getElem hlt2, hA2, hx, hy, HN2.out]
                    case measure => simp [intOf]; omega
                · have hne' : (TT[k] == ds[k]) = false := by simpa using hne
                  obtain rfl : R = false := by
                    rw [← HR.out]; refine okD_false (fun h => hne ?_)
                    have h5 := h.2.2.2.2.1
                    simp only at h5
                    have := HT2.out
                    rw [← h5] at this
                    subst this; rfl
                  clear hne
                  generalize hx : TT[k] = x at *
                  generalize hy : ds[k] = y at *
                  go_wp2
                  go_region
                  all_goals
                    go_wp2
                    go_ret
                    exact ⟨rfl, hB4.drew⟩
              · obtain rfl : k = ds.length := by omega
                rw [List.take_of_length_le (by omega), List.take_of_length_le (by omega)] at hEq
                have hds : ds = tabOf ds.length de := hTT ▸ hEq.symm
                have HF2 := fun W h k h2 h1 g1 g2 => HFnd W h k hEq.symm h2 h1 g1 g2
                have HD : Hid (ds = tabOf ds.length de) := hds
                have H1 := h1.keep hB4
                have H2 := h2.keep hB4
                clear HTab hTT hEq hds HFnd oT hc1 HTL h1 h2 HSz
                go_wp2
                go_loopw [9] (fun i wt => ∃ q : Nat, q ≤ de.length ∧ i = .int .i64 q ∧ (∀ p (hp : p < de.length), p < q → de[p].g = false → (fnd ⟨ds, de, dl⟩ de[p].h de[p].k).1 = p) ∧ Below (w.heap.size + 1) (w.alloc (.cells #[.slice a1 ds.length c1, .slice a2 de.length c2, .int .i64 dl] 25)) wt ∧ Rd wt (.slice a1 ds.length c1) ds ∧ RdE wt (.slice a2 de.length c2) de) (fun i _ => de.length - (intOf i).toNat)
                case atStart => exact ⟨0, Nat.zero_le _, rfl, fun p _ h => by omega, hBy, H1, H2⟩
                case round =>
                  obtain ⟨q, hq, rfl, hF, hBz, G1, G2⟩ := hrel
                  clear hbx3 j0 j1 j2 hB4 hBy H1 H2
                  have hB4 : Below w.heap.size w _ := bW.trans (hBz.mono (Nat.le_succ _))
                  obtain ⟨hbx3, j0, j1, j2⟩ := bX.keep (by simpa using hBz)
                  by_cases hlt3 : q < de.length
                  · obtain ⟨b', off', rfl, hb', hcell'⟩ := hc2 (by omega)
                    obtain ⟨d0, d1, d2, d3⟩ := RdE.at (fun k hk j hj => (hB4.cell (p := ⟨b', _, none⟩) hb').trans (hcell' k hk j hj)) q hlt3
                    have hok := (hz2 de[q] (List.getElem_mem hlt3)).1
                    have HFq : (de[q].g = false → (fnd ⟨ds, de, dl⟩ de[q].h de[q].k).1 = q) → ∀ p (hp : p < de.length), p < q + 1 → de[p].g = false → (fnd ⟨ds, de, dl⟩ de[p].h de[p].k).1 = p := by
                      intro h0 p hp hpq hg
                      rcases Nat.lt_or_ge p q with h | h
                      · exact hF p hp h hg
                      · obtain rfl : p = q := by omega
                        exact h0 hg
                    have HFn : de[q].g = false → ¬ (fnd ⟨ds, de, dl⟩ de[q].h de[q].k).1 = q → R = false := by
                      intro hg hn
                      rw [← HR.out]
                      refine okD_false (fun h => hn ?_)
                      have := (found_iff (m := m) hz2 (by rw [← HM.out]; omega) dl).2 h.2.2.2.2.2 q hlt3 hg
                      rw [← HM.out, ← HD.out] at this
                      exact this
                    have HC := fun W h2 h1 => HF2 W de[q].h de[q].k h2 h1 hok.1 hok.2
                    clear hcell' hc2 hF HF2
                    generalize de[q] = E at *
                    obtain ⟨Eh, Ek, Ev, Eg⟩ := E
                    simp only at *
                    cases Eg
                    · by_cases hfq : (fnd ⟨ds, de, dl⟩ Eh Ek).1 = q
                      · have HX : Hid (∀ p (hp : p < de.length), p < q + 1 → de[p].g = false → (fnd ⟨ds, de, dl⟩ de[p].h de[p].k).1 = p) := HFq (fun _ => hfq)
                        rw [hfq] at HC
                        clear HFq HFn hfq
                        generalize (fnd ⟨ds, de, dl⟩ Eh Ek).2 = lk at *
                        go_wp2
                        go_region_held3 (fun W => W.cell? ⟨w.heap.size, 0, none⟩ = some (.slice a1 ds.length c1) ∧ W.cell? ⟨w.heap.size, 1, none⟩ = some (.slice (some ⟨b', off', none⟩) de.length c2) ∧ W.cell? ⟨w.heap.size, 2, none⟩ = some (.int .i64 dl) ∧ W.cell? ⟨b', off' + q * 4, none⟩ = some (.int .u64 Eh) ∧ W.cell? ⟨b', off' + q * 4 + 1, none⟩ = some (.int .i64 Ek)) (go_keep) ((go_at_call 48; refine (HC _ G2.drew G1.drew).mono ?_; rintro e w5 ⟨rfl, hB5⟩; have y0 := keepc hB5 j0; have y1 := keepc hB5 j1; have y2 := keepc hB5 j2; have y3 := keepc hB5 d0; have y4 := keepc hB5 d1))
                        all_goals
                          go_wp2
                          go_roundw
                          case rel => exact ⟨q + 1, by omega, by go_num, HX.out, hBz.drew.trans (hB5.mono (by simp; have := hBz.size; simp at this; omega)), G1.drew.keep hB5, G2.drew.keep hB5⟩
                          case measure => simp [intOf]; omega
                      · obtain rfl : R = false := HFn rfl hfq
                        clear HFq HFn HR
                        generalize (fnd ⟨ds, de, dl⟩ Eh Ek).2 = lk at *
                        generalize (fnd ⟨ds, de, dl⟩ Eh Ek).1 = fq at *
                        have hfq' : (fq == (q : Int)) = false := by simpa using hfq
                        clear hfq
                        go_wp2
                        go_region_held3 (fun W => W.cell? ⟨w.heap.size, 0, none⟩ = some (.slice a1 ds.length c1) ∧ W.cell? ⟨w.heap.size, 1, none⟩ = some (.slice (some ⟨b', off', none⟩) de.length c2) ∧ W.cell? ⟨w.heap.size, 2, none⟩ = some (.int .i64 dl) ∧ W.cell? ⟨b', off' + q * 4, none⟩ = some (.int .u64 Eh) ∧ W.cell? ⟨b', off' + q * 4 + 1, none⟩ = some (.int .i64 Ek)) (go_keep) ((go_at_call 48; refine (HC _ G2.drew G1.drew).mono ?_; rintro e w5 ⟨rfl, hB5⟩; have y0 := keepc hB5 j0; have y1 := keepc hB5 j1; have y2 := keepc hB5 j2; have y3 := keepc hB5 d0; have y4 := keepc hB5 d1))
                        all_goals
                          go_wp2
                          go_ret
                          exact ⟨rfl, hB4.drew.trans (hB5.mono hB4.size)⟩
                    · have HX : Hid (∀ p (hp : p < de.length), p < q + 1 → de[p].g = false → (fnd ⟨ds, de, dl⟩ de[p].h de[p].k).1 = p) := HFq (fun h => by cases h)
                      clear HFq HFn HC
                      go_wp2
                      go_roundw
                      case rel => exact ⟨q + 1, by omega, by go_num, HX.out, hBz, G1, G2⟩
                      case measure => simp [intOf]; omega
                  · obtain rfl : R = true := by
                      rw [← HR.out]
                      refine okD_true ⟨⟨m, h3, h16, HM.out⟩, hE, hA, HLh.out, HD.out, (found_iff (m := m) hz2 (by show de.length < _; rw [← HM.out]; omega) dl).1 ?_⟩
                      intro i hi hg
                      have := hF i hi (by omega) hg
                      rw [← HM.out, ← HD.out]; exact this
                    clear hc2 hF HF2
                    go_wp2
                    go_ret
                    exact ⟨rfl, hB4⟩
          · obtain rfl : R = false := by
              rw [← HR.out]; exact okD_false (fun h => hL h.2.2.2.1)
            have hL' : ((livN de : Int) == dl) = false := by
              have : ¬ (livN de : Int) = dl := fun e => hL e.symm
              simpa using this
            clear hc1 hc2
            go_wp2
            go_ret
            exact ⟨rfl, hB1⟩
    · obtain rfl : R = false := by rw [← hR]; exact okD_false (fun h => hE h.2.1)
      have hE' : (ds.length : Int) * 2 / 3 < (de.length : Int) := by omega
      clear hc1 hc2 hm hS hr0 hR hE hsz h1 h2 bX
      go_enter Try.func17, Try.ntmps17
      go_wp2_with (go_at_call 47; refine (HSz _).mono ?_; rintro e w2 ⟨rfl, rfl⟩)
      go_ret
      exact ⟨rfl, bW⟩
  · simp only [hS, decide_false] at HSz
    obtain rfl : R = false := by rw [← hR]; exact okD_false (fun h => hS h.1)
    clear hc1 hc2
    go_enter Try.func17, Try.ntmps17
    go_wp2_with (go_at_call 47; refine (HSz _).mono ?_; rintro e w2 ⟨rfl, rfl⟩)
    go_ret
    exact ⟨rfl, bW⟩
end Go.Proofs.Ytnpjlmnhailipaa
