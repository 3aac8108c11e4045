import Derived.Test.YtfbibbjiomfncaaMrE
namespace Go.Proofs.Ytfbibbjiomfncaa
open Go.RowKit Go.Maps
set_option linter.unusedVariables false
set_option linter.unusedSimpArgs false

set_option maxRecDepth 100000 in
set_option maxHeartbeats 2000000 in
theorem linesI_any (v : Value) (cs : List Cl) (w : World) (hr : RdC w v cs) (hok : OkCs cs) :
    Calls Try.prog 45 #[v] w fun e w' => ∃ g cap, e = .returned (.slice (some ⟨g, 0, none⟩) cs.length cap) ∧ LLn w' w.heap.size g cs.length cap (lnsC cs cs.length) ∧ Below w.heap.size w w' := by
  obtain ⟨i0, hi0, hz0, hz1, hz2⟩ := info_parts Try.info51
  obtain ⟨ps, ⟨a, cap, rfl, hl, hz, hn0, hc⟩, hpl, hK⟩ := hr
  obtain ⟨N, hN⟩ : ∃ N, cs.length = N := ⟨_, rfl⟩
  have HN : Hid (cs.length = N) := hN
  have HP : Hid (ps.length = N) := by rw [hpl]; exact hN
  have hN2 : N ≤ 200 := by rw [← hN]; exact hok.1
  rw [hpl, hN] at hl ⊢
  try rw [hN]
  have HO : Hid (OkCs cs) := hok
  clear hN hpl hok
  go_enter Try.func45, Try.ntmps45
  go_wp2_with (at_make; refine wpList_make_own _ rfl _ _ 29 rfl w.heap.size 51 i0 _ 1 Try.underlying29 hi0 hz0 hz1 .i64 .i64 _ N rfl rfl (by go_num) (by rw [hz2]; omega) (by unfold maxLen; omega) (by simp) ?_; intro w1 hown hgrow; have hB1 := (Below.refl w.heap.size w).grown hgrow (Nat.le_refl _) (by intro k h; cases h))
  have hL1 : LLn w1 w.heap.size w.heap.size 0 N [] := LLn.made hown
  clear hown hgrow
  go_loopw [3, 11] (fun v i wr => ∃ (k g c : Nat), k ≤ N ∧ i = .int .i64 k ∧ v = .slice (some ⟨g, 0, none⟩) k c ∧ LLn wr w.heap.size g k c (lnsC cs k) ∧ Below w.heap.size w wr) (fun _ i _ => N - (intOf i).toNat)
  case atStart => exact ⟨0, _, _, Nat.zero_le _, rfl, rfl, by simpa [lnsC] using hL1, hB1⟩
  case round =>
    obtain ⟨k, g, oc, hk, rfl, rfl, hL, hB⟩ := hrel
    clear hL1 hB1
    generalize wr = W1 at *
    have hgz := LL.size hL
    have hz1' := hB.size
    by_cases hlt : k < N
    · have hlti : (k : Int) < (N : Int) := by omega
      have hkc : k < cs.length := by rw [HN.out]; exact hlt
      have hkp : k < ps.length := by rw [HP.out]; exact hlt
      obtain ⟨b, off, rfl, hb, hcell⟩ := hc (by omega)
      obtain ⟨d0, d1⟩ := RdP.at (fun k hk j hj => (hB.cell (p := ⟨b, _, none⟩) hb).trans (hcell k hk j hj)) k hkp
      have hKk := (hK k hkp hkc).1.keep hB
      obtain ⟨aa, ac, ea⟩ := (hK k hkp hkc).2.form
      have hbs := HO.out.2 k hkc
      have Hlk : Hid _ := lns_succ cs k hkc
      have hlo := fun j h => lns_ok HO.out k (by omega) j h
      have hll := lns_len cs k
      generalize ps[k].s1 = sv at *
      generalize ps[k].s2 = sv2 at *
      generalize cs[k].a.length = AN at ea
      subst ea
      generalize hsv2 : (Value.slice aa AN ac) = sv2 at d1
      subst hsv2
      generalize cs[k].b = bs at *
      generalize lnsC cs k = prev at *
      have HLo : Hid _ := hlo
      have HLl : Hid _ := hll
      have hbx := ((Below.refl _ W1).alloc (Nat.le_refl _) (.cells #[sv, .slice aa AN ac] 54) : Below W1.heap.size W1 (W1.alloc (.cells #[sv, .slice aa AN ac] 54)))
      have hL2 := LLn.keep hL hbx
      have hK2 := hKk.keep hbx
      have hB2 := hB.trans (hbx.mono hz1')
      obtain ⟨sa, sc, es⟩ := hKk.form
      subst es
      clear hcell hK hc hlo hll
      go_wp2_with fail
      refine (lineI_any k _ bs _ prev _ hK2 (LLn.rl hL2) HLl.out (by omega) hbs.1.1 hbs.1.len HLo.out).mono ?_
      rintro e w3 ⟨u, rfl, hO3, hB3⟩
      obtain ⟨ua, uc, eu⟩ := hO3.form
      subst eu
      generalize lineC k bs prev = LC at *
      have hL3 := (LLn.keep hL2 hB3).keep ((Below.refl _ w3).alloc (Nat.le_refl _) (.cells #[.slice ua LC.length uc] 51))
      have hz3 := hB3.size
      have hX3 : RdX (fun b => b < (w3.alloc (.cells #[.slice ua LC.length uc] 51)).heap.size ∧ b ≠ g) (w3.alloc (.cells #[.slice ua LC.length uc] 51)) (.slice ua LC.length uc) LC := RdX.of (hO3.rd.alloc _) (fun b off n c e => by simp only [Value.slice.injEq] at e; have := hO3.lt b (by rw [e.1]; rfl); simp at this; simp; omega)
      have hC3 : (w3.alloc (.cells #[.slice ua LC.length uc] 51)).cell? ⟨w3.heap.size, 0, none⟩ = some (.slice ua LC.length uc) := by rw [World.cell?_alloc_at _ _ _ _ rfl]; rfl
      simp at hz3
      go_wp2_with (at_builtin; refine wpList_append_LL rfl _ _ 29 rfl Try.underlying29 w.heap.size g k oc _ rfl hL3 w3.heap.size 1 rfl ua LC.length uc LC hC3 hX3 (by omega) (by simp; omega) ?_; intro g4 c4 w4 hL4 hg4 hw4)
      have hB4 : Below w.heap.size w w4 := ((hB2.trans (hB3.mono hB2.size)).alloc (by omega) _).trans (gb_to hg4 (fun j hj => (by cases hj; exact hgz.1)) (by simp; omega))
      rw [← Hlk.out] at hL4
      go_roundw
      case rel => exact ⟨k + 1, g4, c4, by omega, by go_num, rfl, hL4, hB4⟩
      case measure => simp [intOf]; omega
    · obtain rfl : N = k := by omega
      have hlti : ¬ (N : Int) < (N : Int) := by omega
      go_wp2
      go_ret
      exact ⟨_, _, rfl, hL, hB⟩
end Go.Proofs.Ytfbibbjiomfncaa
