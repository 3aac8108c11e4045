import Derived.Test.YtnpjlmnhailipaaDQ
namespace Go.Proofs.Ytnpjlmnhailipaa
open Go.RowKit
set_option linter.unusedVariables false
set_option linter.unusedSimpArgs false

theorem wrap_u (x : Nat) : IntKind.u64.wrap (x : Int) = ((x % 18446744073709551616 : Nat) : Int) := by
  rw [IntKind.wrap_u64]; omega
theorem wrap_mod {n : Nat} (hm : ∃ m, m ≤ 16 ∧ n = 2 ^ m) (x : Nat) : (IntKind.u64.wrap (x : Int)).tmod n = ((x % n : Nat) : Int) := by
  rw [wrap_u]
  obtain ⟨m, hm, rfl⟩ := hm
  have hd : 2 ^ m ∣ 18446744073709551616 := by
    have : 18446744073709551616 = 2 ^ m * 2 ^ (64 - m) := by rw [← Nat.pow_add, show m + (64 - m) = 64 by omega]
    exact ⟨_, this⟩
  rw [← Int.ofNat_tmod, Nat.mod_mod_of_dvd _ hd]
theorem pow32 (k : Nat) : 32 ^ k = 2 ^ (5 * k) := by rw [show (32 : Nat) = 2 ^ 5 from rfl, ← Nat.pow_mul]

theorem l7Next_any (n s h k : Nat) (w : World) (hm : ∃ m, m ≤ 16 ∧ n = 2 ^ m) (hs : s < n) (hh : h < 2 ^ 64) (hk : k ≤ 100000) :
    Calls Try.prog 66 #[.int .u64 s, .int .u64 h, .int .i64 k, .int .u64 n] w fun e w' => e = .returned (.int .u64 ((5 * s + 1 + h / 32 ^ k) % n : Nat)) ∧ w' = w := by
  have hn : n ≤ 65536 := by
    obtain ⟨m, hm, rfl⟩ := hm
    calc 2 ^ m ≤ 2 ^ 16 := Nat.pow_le_pow_right (by decide) hm
      _ = 65536 := rfl
  by_cases h64 : 5 * k < 64
  · go_enter Try.func66, Try.ntmps66
    go_wp2
    go_ret
    refine ⟨?_, rfl⟩
    have := wrap_mod hm (5 * s + 1 + h / 2 ^ (5 * k))
    rw [pow32]
    push_cast at this ⊢
    rw [this]; rfl
  · go_enter Try.func66, Try.ntmps66
    go_wp2
    go_ret
    refine ⟨?_, rfl⟩
    have h0 : h / 32 ^ k = 0 := by
      rw [pow32]; apply Nat.div_eq_of_lt
      exact Nat.lt_of_lt_of_le hh (Nat.pow_le_pow_right (by decide) (by omega))
    rw [h0]; simp
theorem sz_le {m : Nat} (h : m ≤ 16) : 2 ^ m ≤ 65536 := Nat.pow_le_pow_right (by decide) h
theorem fill_set (n k : Nat) (hk : k < n) : (List.replicate k (-1 : Int) ++ List.replicate (n - k) 0).set k (-1) = List.replicate (k + 1) (-1) ++ List.replicate (n - (k + 1)) 0 := by
  rw [List.set_append_right _ _ (by simp), List.length_replicate, Nat.sub_self, show n - k = (n - (k + 1)) + 1 by omega, List.replicate_succ, List.set_cons_zero, List.replicate_succ', List.append_assoc]
  rfl

set_option maxRecDepth 100000 in
set_option maxHeartbeats 1000000 in
theorem l7Table_any (v : Value) (es : List En) (m : Nat) (w : World) (hr : RdE w v es) (hm : m ≤ 16) (hl : es.length < 2 ^ m) :
    Calls Try.prog 39 #[v, .int .i64 (2 ^ m : Nat)] w fun e w' => ∃ a c, e = .returned (.slice a (2 ^ m) c) ∧ Own w' w.heap.size (.slice a (2 ^ m) c) (tabOf (2 ^ m) es) ∧ Below w.heap.size w w' := by
  obtain ⟨i0, hi, hz0, hz1, hz2⟩ := info_parts Try.info2
  have hsz := sz_le hm
  have hpos := Nat.two_pow_pos m
  have hex : ∃ m', m' ≤ 16 ∧ 2 ^ m = 2 ^ m' := ⟨m, hm, rfl⟩
  obtain ⟨vr, hvr, hr'⟩ : ∃ vr, vr = v ∧ RdE w vr es := ⟨v, rfl, hr⟩
  obtain ⟨a, cap, rfl, hlx, hzx, hnx, hcx⟩ := hr
  have HT := fun k p hp hp2 hk => tab_ff (m := m) (hs := hsOf es) (k := k) hk (p := p) hp hp2
  have HN := fun (s h k : Nat) W hs hh hk => l7Next_any (2 ^ m) s h k W hex hs hh hk
  have HV := fun k s hs => tabK_val (2 ^ m) (hsOf es) hpos k s hs
  have HL := fun k => tabK_length (2 ^ m) (hsOf es) k
  unfold tabOf
  generalize hn : 2 ^ m = n at *
  go_enter Try.func39, Try.ntmps39
  go_wp2_with (at_make; refine wpList_make_full _ rfl _ _ 22 rfl w.heap.size 2 i0 (.int .i64 0) 1 Try.underlying22 hi hz0 hz1 .i64 .i64 _ _ n rfl rfl (by go_num) (by go_num) (by rw [hz2]; omega) (by unfold maxLen; omega) (Nat.le_refl _) ?_; intro w1 hown hgrow)
  have hO1 := Own.made (by omega) hown
  have hB1 := (Below.refl w.heap.size _).grown hgrow (Nat.le_refl _) (by intro k h; cases h)
  clear hown hgrow
  generalize hg : w.heap.size = g at *
  go_loopw [6] (fun i wr => ∃ k : Nat, k ≤ n ∧ i = .int .i64 k ∧ Own wr g (.slice (some ⟨g, 0, none⟩) n n) (List.replicate k (-1) ++ List.replicate (n - k) 0) ∧ Below g w wr)
    (fun i _ => n - (intOf i).toNat)
  case atStart => exact ⟨0, Nat.zero_le _, rfl, by simpa using hO1, hB1⟩
  case round =>
    obtain ⟨k, hk, rfl, hOr, hBr⟩ := hrel
    by_cases hlt : k < n
    · have hc := hOr.cell k (by simp; omega)
      have hf := hOr.frozen k
      have HS : Hid ((List.replicate k (-1 : Int) ++ List.replicate (n - k) 0).set k (-1) = List.replicate (k + 1) (-1) ++ List.replicate (n - (k + 1)) 0) := fill_set n k hlt
      generalize (List.replicate k (-1 : Int) ++ List.replicate (n - k) 0) = L at hc hOr HS
      clear HT HN HV HL hcx
      go_wp2
      go_roundw
      case rel =>
        refine ⟨k + 1, by omega, by go_num, ?_, ?_⟩
        · have := hOr.store k (z := -1) (by omega) (by omega)
          rw [HS.out] at this
          exact this
        · exact hBr.grown (gb_set wr g k _) (by rw [← hg]; exact hBr.size) (fun j hj => by cases hj; exact Nat.le_refl _)
      case measure => simp [intOf]; omega
    · obtain rfl : k = n := by omega
      have hO2 : Own wr g (.slice (some ⟨g, 0, none⟩) k k) (tabK k (hsOf es) 0) := by simpa [tabK] using hOr
      clear hOr hO1 hB1
      go_wp2
      go_loopw [7] (fun i ws => ∃ q : Nat, q ≤ es.length ∧ i = .int .i64 q ∧ Own ws g (.slice (some ⟨g, 0, none⟩) k k) (tabK k (hsOf es) q) ∧ Below g w ws)
        (fun i _ => es.length - (intOf i).toNat)
      case atStart => exact ⟨0, Nat.zero_le _, rfl, hO2, hBr⟩
      case round =>
        obtain ⟨q, hq, rfl, hOs, hBs⟩ := hrel
        clear hO2 hBr
        by_cases hqt : q < es.length
        · obtain ⟨b, off, rfl, hb, hcell⟩ := hcx (by omega)
          have hbw : b < w.heap.size := by omega
          obtain ⟨c0, -, -, -⟩ := RdE.at (fun k hk j hj => ((hBs.cell (p := ⟨b, _, none⟩) hb).trans (hcell k hk j hj))) q hqt
          obtain ⟨H, hH⟩ : ∃ H : Nat, H = es[q].h.toNat := ⟨_, rfl⟩
          have hok := (hzx es[q] (List.getElem_mem hqt)).1
          have hHe : es[q].h = (H : Int) := by omega
          have hH64 : H < 2 ^ 64 := by omega
          have hgd : (hsOf es).getD q 0 = H := by rw [hsOf_getD es q hqt, hH]
          have HC0 : ∀ W, Below g w W → W.cell? ⟨b, off + q * 4, none⟩ = some (.int .u64 H) := fun W hW => by
            rw [hW.cell (p := ⟨b, off + q * 4, none⟩) hb, ← hHe]; exact hcell q hqt 0 (by decide)
          rw [hHe] at c0
          obtain ⟨J, hJ, hF⟩ := HT q (r0 k H) (Nat.mod_lt _ hpos) hH64 (by omega)
          have hlt : ∀ j, (it k (r0 k H) j).1 < k := fun j => it_lt hpos (Nat.mod_lt _ hpos) j
          have hst : tabK k (hsOf es) (q + 1) = (tabK k (hsOf es) q).set (it k (r0 k H) J).1 q := by
            show (tabK k (hsOf es) q).set (slotOf k (tabK k (hsOf es) q) ((hsOf es).getD q 0)) q = _
            unfold slotOf; rw [hgd, ffj_eq hF]
          have hLq := HL q
          have hVq := HV q
          have Hst : Hid (tabK k (hsOf es) (q + 1) = (tabK k (hsOf es) q).set (it k (r0 k H) J).1 q) := hst
          have HNH := fun s j W hs hj => HN s H j W hs hH64 hj
          generalize tabK k (hsOf es) q = L at *
          clear hst HT HV HL hcx hcell hok hH hHe hgd HN
          have hk0 : ¬ ((k : Int) = 0) := by omega
          go_wp2
          go_loopw [8, 9] (fun s c wt => ∃ j : Nat, j ≤ J ∧ s = .int .u64 ((it k (r0 k H) j).1 : Nat) ∧ c = .int .i64 (j + 1 : Nat) ∧ Own wt g (.slice (some ⟨g, 0, none⟩) k k) L ∧ Below g w wt)
            (fun _ c _ => J + 1 - (intOf c).toNat)
          case atStart => exact ⟨0, Nat.zero_le _, by simp [it, r0], rfl, hOs, hBs⟩
          case round =>
            obtain ⟨j, hj, rfl, rfl, hOt, hBt⟩ := hrel
            have hsj := hlt j
            have cj := hOt.cell (it k (r0 k H) j).1 (by omega)
            have fj := hOt.frozen (it k (r0 k H) j).1
            have c0' := HC0 _ hBt
            clear c0
            rcases Nat.lt_or_ge j J with hjJ | hjJ
            · have hv := hF.2 j hjJ
              have hge : 0 ≤ L.getD (it k (r0 k H) j).1 0 := by
                rcases hVq _ hsj with h | h
                · exact absurd h hv
                · exact h.1
              have hnext : (it k (r0 k H) (j + 1)).1 = (5 * (it k (r0 k H) j).1 + 1 + H / 32 ^ (j + 1)) % k := by
                show (5 * (it k (r0 k H) j).1 + 1 + (it k (r0 k H) j).2 / 32) % k = _
                rw [it_rest, Nat.div_div_eq_div_mul, ← Nat.pow_succ]; rfl
              have HC := fun W => HNH (it k (r0 k H) j).1 (j + 1) W hsj (by omega)
              rw [← hnext] at HC
              generalize L.getD (it k (r0 k H) j).1 0 = z at *
              have Hnx : Hid ((it k (r0 k H) (j + 1)).1 = (5 * (it k (r0 k H) j).1 + 1 + H / 32 ^ (j + 1)) % k) := hnext
              clear hnext HNH
              generalize hS : (it k (r0 k H) j).1 = S at *
              rw [show ((j + 1 : Nat) : Int) = (j : Int) + 1 by omega] at HC
              go_wp2_with (go_at_call 66; refine (HC _).mono ?_; rintro e w2 ⟨rfl, rfl⟩)
              go_roundw
              case rel => exact ⟨j + 1, by omega, rfl, by go_num, hOt, hBt⟩
              case measure => simp [intOf]; omega
            · obtain rfl : j = J := by omega
              have hv := hF.1
              rw [hv] at cj
              go_wp2
              go_roundw
              case rel =>
                refine ⟨q + 1, by omega, by go_num, ?_, hBt.grown (gb_set _ g _ _) (by rw [← hg]; exact hBt.size) (fun j hj => by cases hj; exact Nat.le_refl _)⟩
                rw [Hst.out]
                exact hOt.store _ (by omega) (by omega)
              case measure => simp [intOf]; omega
        · obtain rfl : q = es.length := by omega
          clear HT HN HV hcx
          subst hg
          go_wp2
          go_ret
          exact ⟨_, _, rfl, hOs, hBs⟩
end Go.Proofs.Ytnpjlmnhailipaa
