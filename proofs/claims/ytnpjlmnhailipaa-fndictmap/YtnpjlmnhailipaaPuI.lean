import Derived.Test.YtnpjlmnhailipaaRnI
import Derived.Test.YtnpjlmnhailipaaCtS
import Derived.Deep.RegionHeldLaw
import Derived.Deep.RegionLaw
namespace Go.Proofs.Ytnpjlmnhailipaa
open Go.RowKit Go.Maps
set_option linter.unusedVariables false
set_option linter.unusedSimpArgs false

/-- An entry behind all others. -/
noncomputable def addD (d : Dt) (x : En) : Dt := ⟨tabOf d.s.length (d.e ++ [x]), d.e ++ [x], d.l + 1⟩
noncomputable def putD (d : Dt) (h k v : Int) : Dt × Bool :=
  if 0 ≤ (fnd d h k).1 then (⟨d.s, d.e.set (fnd d h k).1.toNat ⟨h, k, v, false⟩, d.l⟩, true)
  else if d.e.length < d.s.length * 2 / 3 then (addD d ⟨h, k, v, false⟩, true)
  else if (rnD d).2 then (addD (rnD d).1 ⟨h, k, v, false⟩, true) else (d, false)

theorem hsOf_append (es fs : List En) : hsOf (es ++ fs) = hsOf es ++ hsOf fs := by simp [hsOf]
theorem tabK_pre (n : Nat) (hs r : List Nat) : ∀ k, k ≤ hs.length → tabK n (hs ++ r) k = tabK n hs k
  | 0, _ => rfl
  | k + 1, h => by
    simp only [tabK]
    rw [tabK_pre n hs r k (by omega)]
    have : (hs ++ r).getD k 0 = hs.getD k 0 := by simp [List.getD, List.getElem?_append_left (show k < hs.length by omega)]
    rw [this]
/-- The table with one more. -/
theorem tab_add (n : Nat) (es : List En) (x : En) : tabOf n (es ++ [x]) = (tabOf n es).set (slotOf n (tabOf n es) x.h.toNat) es.length := by
  have hl : (hsOf es).length = es.length := by simp [hsOf]
  unfold tabOf
  rw [List.length_append, List.length_singleton]
  simp only [tabK]
  rw [hsOf_append, tabK_pre n (hsOf es) _ _ (by omega)]
  have : (hsOf es ++ hsOf [x]).getD es.length 0 = x.h.toNat := by
    rw [List.getD, List.getElem?_append_right (by omega)]; simp [hl, hsOf]
  rw [this]

theorem rn_true {d : Dt} (hl : livN d.e ≤ 43690) (h : (rnD d).2 = true) : ∃ M, M ≤ 16 ∧ (rnD d).1.s = tabOf (2 ^ M) (rnD d).1.e ∧ (rnD d).1.e.length + 1 < 2 ^ M ∧ (rnD d).1.l = d.l := by
  obtain ⟨M, hM, hN⟩ := NM.ex _ hl
  simp only [rnD, nsm_eq hN] at h ⊢
  split at h
  · cases h
  · rename_i h16
    rw [if_neg h16]
    refine ⟨M, by omega, rfl, ?_, rfl⟩
    have h8 : 2 ^ 3 ≤ 2 ^ M := Nat.pow_le_pow_right (by decide) hN.1
    have := hN.2.1
    simp only [liv_len]
    omega
theorem rn_false {d : Dt} (h : (rnD d).2 = false) : (rnD d).1 = d := by
  unfold rnD at h ⊢
  split at h
  · rename_i h16; rw [if_pos h16]
  · cases h

set_option maxRecDepth 100000 in
set_option maxHeartbeats 2000000 in
theorem put_anyF (g : Nat) (d : Dt) (h k v : Int) (w : World) (hM : MapAt w g d) (hok : OkD d) (hh0 : 0 ≤ h) (hh1 : h < 18446744073709551616) (hk : -9223372036854775808 ≤ k ∧ k < 9223372036854775808) (hv : -9223372036854775808 ≤ v ∧ v < 9223372036854775808) :
    Calls Try.prog 54 #[.pointer (some ⟨g, 0, none⟩), .int .u64 h, .int .i64 k, .int .i64 v] w fun e w' => e = .returned (.bool (putD d h k v).2) ∧ MapAt w' g (putD d h k v).1 ∧ Below g w w' ∧ Fr w w' g := by
  obtain ⟨m, hm3, hm, ht, hl, hs, hroom⟩ := hok.tab
  have hsz := sz_le hm
  have hfv := fnd_val hok h k hh0 hh1
  have hlv : d.l = livN d.e := hok.2.2.2.1
  have hll : livN d.e ≤ 43690 := Nat.le_trans (List.countP_le_length) (by omega)
  obtain ⟨vs, ve, bM, oS, oE, hne, hfz⟩ := id hM
  have HF := fun W b r1 r2 => find_tab g m vs ve (.int .i64 d.l) d h k W b r1 r2 hm ht hl hh0 hh1
  generalize hZ : putD d h k v = Z
  simp only [putD] at hZ
  generalize hFn : fnd d h k = F at hfv hZ HF
  obtain ⟨F0, F1⟩ := F
  simp only at hfv hZ HF
  have HZ : Hid _ := hZ
  have HLV : Hid (d.l = livN d.e) := hlv
  have HT : Hid (d.s = tabOf (2 ^ m) d.e) := ht
  have HS : Hid (d.s.length = 2 ^ m) := hs
  clear hZ hlv ht hs hFn
  go_enter Try.func54, Try.ntmps54
  go_wp2_with fail
  refine (HF _ bM oS.rd oE.rd).mono ?_
  rintro e w1 ⟨rfl, hB1⟩
  have hM1 := hM.keep hB1
  have bM1 := bM.keep hB1
  have oS1 := oS.keep hB1
  have oE1 := oE.keep hB1
  have hB1' : Below g w w1 := hB1.mono (Nat.le_of_lt bM.1)
  have f1 : ∀ o, w1.frozen? ⟨g, o, none⟩ = false := fun o => (hB1.frozen (p := ⟨g, o, none⟩) bM.1).trans (hfz o)
  have hsz1 := hB1'.size
  have hgz : g < w1.heap.size := bM1.1
  have hFr1 : Fr w w1 g := Fr.keep hB1 bM.1
  clear HF hM bM oS oE hfz hB1
  obtain ⟨sa, sc, rfl⟩ := oS1.form
  obtain ⟨ea, ec, rfl⟩ := oE1.form
  rcases hfv with rfl | ⟨hF0, hlt, hgo, hhh, hkk⟩
  · have hZ := HZ.out
    rw [if_neg (by omega)] at hZ
    clear HZ
    obtain ⟨-, k0, k1, k2⟩ := id bM1
    have hl16 : d.s.length ≤ 16777216 := oS1.2.1
    have HR := fun W => roomOf_any d.s.length W hl16
    have hZH : Hid _ := hZ
    clear hZ
    go_wp2_with fail
    go_cut [45] from 12 (fun s45 wc => Below g w wc ∧ Fr w wc g ∧ w.heap.size ≤ wc.heap.size ∧ ((s45 = .bool true ∧ MapAt wc g d ∧ Z = (d, false)) ∨ (s45 = .bool false ∧ ∃ (D : Dt) (M : Nat), MapAt wc g D ∧ M ≤ 16 ∧ D.s = tabOf (2 ^ M) D.e ∧ D.e.length + 1 < 2 ^ M ∧ 0 ≤ D.l ∧ D.l ≤ 65536 ∧ Z = (addD D ⟨h, k, v, false⟩, true))))
    case first =>
      by_cases hr : d.e.length < d.s.length * 2 / 3
      · have hr' : decide ((d.s.length : Int) * 2 / 3 ≤ (d.e.length : Int)) = false := by simp; omega
        have hZ := hZH.out
        rw [if_pos hr] at hZ
        go_quiet (first | (go_at_call 71; refine Calls.quiet_of_same (HR _)))
        go_wp2_with fail
        go_meet
        case rel =>
          have h8 : 2 ^ 3 ≤ 2 ^ m := Nat.pow_le_pow_right (by decide) hm3
          have hs := HS.out
          have hlv := HLV.out
          exact ⟨below_dw hB1' _, hFr1.trans (Fr.keep (below_dw (Below.refl _ _) _) hgz) hsz1, hsz1, .inr ⟨rfl, d, m, hM1.keep (below_dw (Below.refl _ _) _), hm, HT.out, by omega, by omega, by omega, hZ.symm⟩⟩
      · have hr' : decide ((d.s.length : Int) * 2 / 3 ≤ (d.e.length : Int)) = true := by simp; omega
        have hZ := hZH.out
        rw [if_neg hr] at hZ
        have HN := fun W hM' => renew_anyF g d W hM' HLV.out hll
        have hrt := @rn_true d hll
        have hrf := @rn_false d
        generalize rnD d = N at hZ HN hrt hrf
        obtain ⟨Nd, Nb⟩ := N
        simp only at hZ HN hrt hrf
        have hZ2 : Hid _ := hZ
        clear hZ
        cases Nb
        · go_region_with (first | (go_at_call 71; refine (HR _).mono ?_; rintro e w2 ⟨rfl, rfl⟩) | (go_at_call 78; refine (HN _ (hM1.keep (Below.refl _ _).drew)).mono ?_; rintro e w3 ⟨rfl, hM3, hB3, hF3⟩))
          all_goals
            go_wp2_with fail
            go_meet
          all_goals
            have hZ := hZ2.out
            rw [hrf trivial] at hM3
            exact ⟨hB1'.drew.trans hB3, (hFr1.trans (Fr.keep (Below.refl _ _).drew hgz) hsz1).trans hF3 hsz1, Nat.le_trans hsz1 hB3.size, .inl ⟨rfl, hM3, by rw [← hZ]; rfl⟩⟩
        · go_region_with (first | (go_at_call 71; refine (HR _).mono ?_; rintro e w2 ⟨rfl, rfl⟩) | (go_at_call 78; refine (HN _ (hM1.keep (Below.refl _ _).drew)).mono ?_; rintro e w3 ⟨rfl, hM3, hB3, hF3⟩))
          all_goals
            go_wp2_with fail
            go_meet
          all_goals
            obtain ⟨M, hMM, hMs, hMl, hl2⟩ := hrt trivial
            have hZ := hZ2.out
            have hlv := HLV.out
            exact ⟨hB1'.drew.trans hB3, (hFr1.trans (Fr.keep (Below.refl _ _).drew hgz) hsz1).trans hF3 hsz1, Nat.le_trans hsz1 hB3.size, .inr ⟨rfl, Nd, M, hM3, hMM, hMs, hMl, by omega, by omega, by rw [← hZ]; rfl⟩⟩
    case rest =>
      obtain ⟨hBc, hFc, hszc, hc⟩ := hcut
      rcases hc with ⟨rfl, hMc, rfl⟩ | ⟨rfl, D, M, hMc, hM16, hDs, hDl, hl0, hl1, rfl⟩
      · go_wp2
        go_ret
        exact ⟨rfl, hMc, hBc, hFc⟩
      · clear k0 k1 k2 hM1 bM1 oS1 oE1 hB1' f1 hne hl16 HR hsz1 hgz hFr1 w1
        obtain ⟨ds, de, dl⟩ := D
        simp only at hDs hDl hl0 hl1 ⊢
        obtain ⟨vs2, ve2, bMc, oSc, oEc, hnec, hfc⟩ := id hMc
        simp only at bMc oSc oEc
        obtain ⟨sa, sc, rfl⟩ := oSc.form
        obtain ⟨ea, ec, rfl⟩ := oEc.form
        have hlenS : ds.length = 2 ^ M := by rw [hDs]; exact tabK_length _ _ _
        have hexM : ∃ m', m' ≤ 16 ∧ 2 ^ M = 2 ^ m' := ⟨M, hM16, rfl⟩
        obtain ⟨H, rfl⟩ : ∃ H : Nat, h = (H : Int) := ⟨h.toNat, by omega⟩
        have hH64 : H < 2 ^ 64 := by omega
        have hNpos := Nat.two_pow_pos M
        have hNle := sz_le hM16
        have HRow := fun W => rowOf_any (2 ^ M) H W hexM hH64
        obtain ⟨j, hj, hFF⟩ := tab_ff (hs := hsOf de) (k := de.length) (m := M) (by omega) (p := r0 (2 ^ M) H) (Nat.mod_lt _ hNpos) hH64
        have hFF' : FF (2 ^ M) ds (r0 (2 ^ M) H) j := by rw [hDs]; exact hFF
        have hslot : slotOf (2 ^ M) (tabOf (2 ^ M) de) H = (it (2 ^ M) (r0 (2 ^ M) H) j).1 := by unfold slotOf; rw [ffj_eq (show FF (2 ^ M) (tabOf (2 ^ M) de) (r0 (2 ^ M) H) j from hFF)]
        have hst : (it (2 ^ M) (r0 (2 ^ M) H) j).1 < 2 ^ M := it_lt hNpos (Nat.mod_lt _ hNpos) j
        have HFr := fun W b r => firstFree_any g (2 ^ M) (.slice sa ds.length sc) (.slice ea de.length ec) (.int .i64 dl) ds (r0 (2 ^ M) H) j W hexM (Nat.mod_lt _ hNpos) hH64 b r hlenS hFF'
        have hAD : addD ⟨ds, de, dl⟩ ⟨H, k, v, false⟩ = ⟨ds.set (it (2 ^ M) (r0 (2 ^ M) H) j).1 de.length, de ++ [⟨H, k, v, false⟩], dl + 1⟩ := by
          unfold addD
          simp only [hlenS]
          rw [tab_add, Int.toNat_natCast, hslot, ← hDs]
        have HAD : Hid _ := hAD
        have hlenH : Hid (ds.length = 2 ^ M) := hlenS
        simp only [rowv] at HRow HFr
        generalize it (2 ^ M) (r0 (2 ^ M) H) j = S at *
        generalize hN : 2 ^ M = N at *
        obtain ⟨hgc, k0, k1, k2⟩ := id bMc
        rw [hlenS] at k0
        clear hDs hFF hFF' hslot hexM hN hAD hlenS hMc
        go_wp2_with (first | (go_at_call 75; refine (HRow _).mono ?_; rintro e w2 ⟨rfl, hB2⟩))
        have bM2 := bMc.keep hB2
        have hB2' : Below g w w2 := hBc.trans (hB2.mono (Nat.le_of_lt hgc))
        refine (HFr _ bM2 (oSc.rd.keep hB2)).mono ?_
        rintro e w3 ⟨rfl, hB3⟩
        have hK3 : Below wc.heap.size wc w3 := hB2.trans (hB3.mono hB2.size)
        have bM3 := bMc.keep hK3
        have oS3 := oSc.keep hK3
        have oE3 := oEc.keep hK3
        have hB3' : Below g w w3 := hBc.trans (hK3.mono (Nat.le_of_lt hgc))
        have f3 : ∀ o, w3.frozen? ⟨g, o, none⟩ = false := fun o => (hK3.frozen (p := ⟨g, o, none⟩) hgc).trans (hfc o)
        have hF3 : Fr w w3 g := hFc.trans (Fr.keep hK3 hgc) hszc
        have hsz3 : w.heap.size ≤ w3.heap.size := Nat.le_trans hszc hK3.size
        clear hFc hszc hB2 hB2' hB3 hK3 bM2 bMc oSc oEc HRow HFr hfc k0 k1 k2 hBc hgc
        have bR4 := Box3.new w3 (.int .u64 (S.1 : Nat)) (.int .u64 (S.2 : Nat)) (.int .u64 ((N : Int) - 1)) 106
        have bM4 := bM3.alloc (.cells #[.int .u64 (S.1 : Nat), .int .u64 (S.2 : Nat), .int .u64 ((N : Int) - 1)] 106)
        have oS4 := oS3.alloc (.cells #[.int .u64 (S.1 : Nat), .int .u64 (S.2 : Nat), .int .u64 ((N : Int) - 1)] 106)
        have oE4 := oE3.alloc (.cells #[.int .u64 (S.1 : Nat), .int .u64 (S.2 : Nat), .int .u64 ((N : Int) - 1)] 106)
        have hz3 := hB3'.size
        have hB4' := hB3'.alloc (by have := bM3.1; omega) (.cells #[.int .u64 (S.1 : Nat), .int .u64 (S.2 : Nat), .int .u64 ((N : Int) - 1)] 106)
        have f4 : ∀ o, (w3.alloc (.cells #[.int .u64 (S.1 : Nat), .int .u64 (S.2 : Nat), .int .u64 ((N : Int) - 1)] 106)).frozen? ⟨g, o, none⟩ = false := fun o => by rw [World.frozen?_alloc_past _ _ _ bM3.1]; exact f3 o
        have hF4 : Fr w (w3.alloc (.cells #[.int .u64 (S.1 : Nat), .int .u64 (S.2 : Nat), .int .u64 ((N : Int) - 1)] 106)) g := hF3.trans (Fr.keep ((Below.refl _ _).alloc (Nat.le_refl _) _) bM3.1) hsz3
        rcases oS3.shape with ⟨-, he⟩ | ⟨sb, cap, he, hsb, hss, hcap⟩
        · have := hlenH.out; rw [he] at this; simp at this; omega
        simp only [Value.slice.injEq, true_and] at he
        obtain ⟨rfl, rfl⟩ := he
        have hgw3 := bM3.1
        clear bM3 oS3 oE3 hB3' f3
        obtain ⟨-, k0, k1, k2⟩ := id bM4
        obtain ⟨-, r0', r1', r2'⟩ := id bR4
        have hlenS := hlenH.out
        have cS := oS4.cell S.1 (by omega)
        have fS := oS4.frozen S.1
        have oS5 := oS4.store S.1 (z := (de.length : Int)) (by omega) (by omega)
        rw [hlenS] at k0
        generalize hU : ds.getD S.1 0 = U at cS
        clear hlenS hU
        have hz4 : w3.heap.size < (w3.alloc (.cells #[.int .u64 (S.1 : Nat), .int .u64 (S.2 : Nat), .int .u64 ((N : Int) - 1)] 106)).heap.size := by simp
        have hne1 : sb ≠ g := by omega
        have hne2 : sb ≠ w3.heap.size := by omega
        have hne3 : g ≠ w3.heap.size := by omega
        go_wp2_with fail
        generalize (w3.alloc (.cells #[.int .u64 (S.1 : Nat), .int .u64 (S.2 : Nat), .int .u64 ((N : Int) - 1)] 106)) = W4 at *
        have hneE : (Value.slice ea de.length ec).ownBlock = none ∨ (Value.slice ea de.length ec).ownBlock ≠ some sb := by
          rcases hnec with h | h
          · cases h
          · exact .inr (fun e => h (by rw [e]; rfl))
        have oE5 := (oE4.but (gb_set _ sb S.1 (.int .i64 (de.length : Int))) hneE).drew
        have bM5 := (bM4.far (c := sb) (o := S.1) hne1 (.int .i64 (de.length : Int))).drew
        have oS5' := oS5.drew
        go_region_held3 (fun W => W.cell? ⟨g, 0, none⟩ = some (.slice (some ⟨sb, 0, none⟩) N sc) ∧ W.cell? ⟨g, 1, none⟩ = some (.slice ea de.length ec) ∧ W.cell? ⟨w3.heap.size, 0, none⟩ = some (.int .u64 (S.1 : Nat))) (go_keep) (fail)
        rename_i hHd
        clear k0 k1 k2 r0' r1' r2' cS fS hHd
        have f5 : ∀ o, (W4.setCell ⟨sb, S.1, none⟩ (.int .i64 (de.length : Int))).drew.frozen? ⟨g, o, none⟩ = false := fun o => (World.frozen?_setCell _ _ _ _).trans (f4 o)
        have hB5 : Below g w (W4.setCell ⟨sb, S.1, none⟩ (.int .i64 (de.length : Int))).drew := (below_set hB4' (by omega) (by omega) _).drew
        have hz5 : W4.heap.size ≤ (W4.setCell ⟨sb, S.1, none⟩ (.int .i64 (de.length : Int))).drew.heap.size := by show _ ≤ (W4.setCell _ _).heap.size; simp [World.setCell]
        have hF5 : Fr w (W4.setCell ⟨sb, S.1, none⟩ (.int .i64 (de.length : Int))).drew g := hF4.trans (fun b hb hn ho => Off.of bM5 (ho.1 _ _ _ bM4) ho ((gb_set W4 sb S.1 (.int .i64 (de.length : Int))).block b hb (fun e => ho.1 _ _ _ bM4 (by rw [e]; rfl)))) (by omega)
        clear oS5 oS4 oE4 bM4 bR4 f4 hB4' hF4
        generalize (W4.setCell ⟨sb, S.1, none⟩ (.int .i64 (de.length : Int))).drew = W6 at *
        obtain ⟨hg6, k0, k1, k2⟩ := id bM5
        have q1 := f5 1
        have hneH : Hid (sb ≠ g ∧ sb ≠ w3.heap.size ∧ g ≠ w3.heap.size) := ⟨hne1, hne2, hne3⟩
        clear hne1 hne2 hne3
        have hokN : shE.ok ⟨(H : Int), k, v, false⟩ := ⟨⟨hh0, hh1⟩, hk, hv⟩
        have hgn : some g ≠ (Value.slice ea de.length ec).ownBlock := fun e => by have := oE5.lt g e.symm; omega
        have hloE := oE5.lt
        go_wp2_with (at_builtin; refine wpList_append_one (S := shE) Try.info97 rfl (by omega) rfl _ _ 91 rfl Try.underlying91 (g + 1) _ de ⟨(H : Int), k, v, false⟩ hokN W6.heap.size 1 rfl rfl (oE5.alloc _) (en_new _ ⟨(H : Int), k, v, false⟩ _ _ rfl) (by omega) (by simp; omega) ?_; intro a' c' w' hO' hg'; have hga := gb_trans (World.grownBy_alloc W6 (.cells #[.int .u64 (H : Int), .int .i64 k, .int .i64 v, .bool false] 97) (Value.slice ea de.length ec).ownBlock) hg'; have bM7 := bM5.but hga hgn; have f7 : ∀ o, w'.frozen? ⟨g, o, none⟩ = false := (fun o => (World.frozen?_of_block (hga.block g hg6 hgn)).trans (f5 o)); obtain ⟨-, y0, y1, y2⟩ := id bM7; have y3 := f7 1; have y4 := f7 2)
        go_ret
        have hB7 : Below g w w' := hB5.grown hga (by omega) (fun k hk => by have := hloE k hk; omega)
        have hz7 : g ≤ w'.heap.size := by have := bM7.1; omega
        have hs7 := oS5'.but hga hnec
        refine ⟨rfl, ?_, below_set (below_set hB7 hz7 (Nat.le_refl _) _) (by simpa [World.setCell] using hz7) (Nat.le_refl _) _, hF5.trans (fun b hb hn ho => ?_) (by omega)⟩
        rotate_left
        · have n4 : some b ≠ some g := fun e => hn (by simpa using e)
          have hbw : b < w'.heap.size := Nat.lt_of_lt_of_le hb hga.size
          refine Off.of ((bM7.p1 _).p2 _) (ho.1 _ _ _ bM5) ho ?_
          rw [(gb_set _ g 2 _).block b (by simpa [World.setCell] using hbw) n4, (gb_set _ g 1 _).block b hbw n4, hga.block b hb (fun e => ho.ne oE5 e.symm)]
        rw [HAD.out]
        rw [show (de ++ [(⟨(H : Int), k, v, false⟩ : En)]).length = de.length + 1 by simp] at hO'
        have hs8 := (hs7.setBelow (a := ⟨g, 1, none⟩) (by show g < g + 1; omega) (.slice a' (de.length + 1) c')).setBelow (a := ⟨g, 2, none⟩) (by show g < g + 1; omega) (.int .i64 (dl + 1))
        have he8 := (hO'.setBelow (a := ⟨g, 1, none⟩) (by show g < g + 1; omega) (.slice a' (de.length + 1) c')).setBelow (a := ⟨g, 2, none⟩) (by show g < g + 1; omega) (.int .i64 (dl + 1))
        exact ⟨_, _, (bM7.p1 _).p2 _, hs8, he8, apart hs8 he8 (by decide), fun o => by rw [World.frozen?_setCell, World.frozen?_setCell]; exact f7 o⟩
  · have hZ := HZ.out
    rw [if_pos hF0] at hZ
    subst hZ
    clear HZ
    obtain ⟨P, rfl⟩ : ∃ P : Nat, F0 = (P : Int) := ⟨F0.toNat, by omega⟩
    simp only [Int.toNat_natCast] at hlt hgo hhh hkk ⊢
    rcases oE1.shape with ⟨-, he⟩ | ⟨gb, cap, he, hgb, hgs, hcap⟩
    · rw [he] at hlt; simp at hlt
    simp only [Value.slice.injEq, true_and] at he
    obtain ⟨rfl, rfl⟩ := he
    obtain ⟨-, k0, k1, k2⟩ := id bM1
    obtain ⟨c0, c1, c2, c3⟩ := RdE.at (off := 0) (fun k hk j hj => by rw [Nat.zero_add]; exact oE1.cell k hk j hj) P hlt
    simp only [Nat.zero_add] at c0 c1 c2 c3
    have z2 := oE1.frozen (P * 4 + 2)
    have hEok := oE1.2.2 d.e[P] (List.getElem_mem hlt)
    have hE : d.e[P] = ⟨h, k, d.e[P].v, false⟩ := by rw [← hgo, ← hhh, ← hkk]
    have oE2 := oE1.put P hlt 2 (by decide) (.int .i64 v) ⟨h, k, v, false⟩ ⟨⟨hh0, hh1⟩, hk, hv⟩ (by rw [hE]; rfl)
    have hgg : g ≠ gb := by omega
    have hob : (Value.slice (some ⟨gb, 0, none⟩) d.e.length ec).ownBlock = some gb := rfl
    clear hgo hhh hkk hE hEok
    generalize hL : d.l = L at *
    go_wp2_with fail
    go_ret
    exact ⟨rfl, ⟨_, _, bM1.far (by omega) _, oS1.but (gb_set _ _ _ _) hne, oE2, hne, fun o => (World.frozen?_setCell _ _ _ _).trans (f1 o)⟩, below_set hB1' (by omega) (by omega) _, hFr1.trans (fun b hb hn ho => Off.of (bM1.far (by omega) _) (ho.1 _ _ _ bM1) ho ((gb_set _ gb _ _).block b hb (fun e => ho.ne oE1 (by rw [e]; rfl)))) hsz1⟩
theorem put_any (g : Nat) (d : Dt) (h k v : Int) (w : World) (hM : MapAt w g d) (hok : OkD d) (hh0 : 0 ≤ h) (hh1 : h < 18446744073709551616) (hk : -9223372036854775808 ≤ k ∧ k < 9223372036854775808) (hv : -9223372036854775808 ≤ v ∧ v < 9223372036854775808) :
    Calls Try.prog 54 #[.pointer (some ⟨g, 0, none⟩), .int .u64 h, .int .i64 k, .int .i64 v] w fun e w' => e = .returned (.bool (putD d h k v).2) ∧ MapAt w' g (putD d h k v).1 ∧ Below g w w' :=
  (put_anyF g d h k v w hM hok hh0 hh1 hk hv).mono fun _ _ ⟨a, b, c, _⟩ => ⟨a, b, c⟩
end Go.Proofs.Ytnpjlmnhailipaa
