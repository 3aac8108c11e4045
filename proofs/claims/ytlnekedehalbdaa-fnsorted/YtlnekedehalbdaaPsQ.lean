import Derived.Test.YtlnekedehalbdaaPsO
namespace Go.Proofs.Ytlnekedehalbdaa
open Go.RowKit
set_option linter.unusedVariables false
set_option linter.unusedSimpArgs false

theorem toS_any (v : Value) (zs : List Int) (w : World) (hr : Rd w v zs) :
    Calls Try.prog 7 #[v] w fun e w' => ∃ a c, e = .returned (.slice a zs.length c) ∧ Own w' w.heap.size (.slice a zs.length c) zs ∧ Below w.heap.size w w' := by
  obtain ⟨a, cap, rfl, hl, hz, hn0, hc⟩ := hr
  obtain ⟨i0, hi, hz0, hz1, hz2⟩ := info_parts Try.info2
  go_enter Try.func7, Try.ntmps7
  go_wp2_with (at_make; refine wpList_make_full _ rfl _ _ 22 rfl w.heap.size 2 i0 (.int .i64 0) 1 Try.underlying22 hi hz0 hz1 .i64 .i64 _ _ zs.length rfl rfl rfl rfl (by rw [hz2]; omega) (by unfold maxLen; omega) (Nat.le_refl _) ?_; intro w1 hown hgrow)
  have hO : Own w1 w.heap.size _ (List.replicate zs.length 0) := Own.made hl hown
  have hB : Below w.heap.size w w1 := (Below.refl _ _).grown hgrow (Nat.le_refl _) (by intro k h; cases h)
  clear hown hgrow
  go_loopw [4] (fun i wr => ∃ k : Nat, k ≤ zs.length ∧ i = .int .i64 k ∧ Own wr w.heap.size (.slice (some ⟨w.heap.size, 0, none⟩) zs.length zs.length) (zs.take k ++ List.replicate (zs.length - k) 0) ∧ Below w.heap.size w wr)
    (fun i _ => zs.length - (intOf i).toNat)
  case atStart => exact ⟨0, Nat.zero_le _, rfl, by simpa using hO, hB⟩
  case round =>
    obtain ⟨k, hk, rfl, hOr, hBr⟩ := hrel
    clear hO hB
    by_cases hlt : k < zs.length
    · obtain ⟨b, off, rfl, hb, hcell⟩ := hc (by omega)
      have hce : wr.cell? ⟨b, off + k, none⟩ = some (.int .i64 (zs.getD k 0)) := (hBr.cell (p := ⟨b, off + k, none⟩) hb).trans (hcell k hlt)
      obtain ⟨u, hu⟩ : ∃ u, wr.cell? ⟨w.heap.size, k, none⟩ = some u := ⟨_, hOr.cell k (by simp; omega)⟩
      have hfz := hOr.frozen k
      have hzk := hz.get k
      go_wp2
      go_roundw
      case rel =>
        refine ⟨k + 1, by omega, by go_num, ?_, hBr.setCell (Nat.le_refl _) _⟩
        have := hOr.store k hzk.1 hzk.2
        rw [set_take_replicate zs _ k rfl hlt] at this
        simpa [List.getD, hlt] using this
      case measure => simp [intOf]; omega
    · go_wp2
      go_ret
      have hk' : k = zs.length := by omega
      subst hk'
      exact ⟨_, _, rfl, by simpa using hOr, hBr⟩



theorem allS_head (t : Tl) (n : Nat) : ((sortS t n).1.headD []).length ≤ n := by
  have h1 := runsS_tot t n (nums n) ⟨[], false⟩ (by simp [nums])
  have h2 : ∀ (f : Nat) (rs : List (List Int)) (s : St), tot (allS t f rs s).1 = tot rs := by
    intro f
    induction f with
    | zero => intro rs s; rfl
    | succ f ih => intro rs s; simp only [allS]; split; rfl; rw [ih, pairS_tot]
  have h3 : tot (sortS t n).1 = n := by unfold sortS; rw [h2, h1]; simp [nums]
  cases hS : (sortS t n).1 with
  | nil => simp
  | cons l r => rw [hS] at h3; simp only [tot, List.map_cons, List.sum_cons] at h3; simp only [List.headD_cons]; omega
theorem ansK_len (keys : List Int) : (ansK keys).1.length ≤ 2000 := by
  unfold ansK
  split
  · simp
  · have := allS_head (tellK keys) keys.length
    simp only
    omega
set_option maxRecDepth 100000 in
set_option maxHeartbeats 2000000 in
theorem law_sortkeys (a : Option Addr) (c : Nat) (zs : List Int) (w : World) (hl : zs.length ≤ 9223372036854775807) (hr : zs.length ≤ 1048576 → Rd w (.slice a zs.length c) zs) :
    Calls Try.prog 3 #[.slice a zs.length c] w fun e w' => e = .returned (.bool true) ∧ Below w.heap.size w w' := by
  by_cases hbig : 1048576 < zs.length
  · have hbi : (1048576 : Int) < (zs.length : Int) := by omega
    go_enter Try.func3, Try.ntmps3
    go_wp2
    go_ret
    exact ⟨rfl, Below.refl _ _⟩
  have hR := hr (by omega)
  have hbi : ¬ (1048576 : Int) < (zs.length : Int) := by omega
  have HT := fun W (h : Below w.heap.size w W) => toS_any (.slice a zs.length c) zs W (hR.keep h)
  have HI := fun W v (h : Rd W v zs) => keysI_any W v zs h
  have HSp := fun W v (h : Rd W v zs) => keysS_any W v zs h
  have hAl := ansK_len zs
  generalize ansK zs = AA at *
  obtain ⟨AL, AN⟩ := AA
  simp only at HI HSp hAl
  have hzl : zs.length ≤ 1048576 := by omega
  obtain ⟨NZ, hNZ⟩ : ∃ NZ, zs.length = NZ := ⟨_, rfl⟩
  have HNZ : Hid (zs.length = NZ) := hNZ
  rw [hNZ] at hbi HT hzl ⊢
  clear hr hR hl hbig hNZ
  go_enter Try.func3, Try.ntmps3
  go_wp2_with fail
  refine (HT _ (Below.refl _ _)).mono ?_
  rintro e w2 ⟨b0, d0, rfl, O2, hB2⟩
  have V2 := (Below.refl w.heap.size w).trans hB2
  go_wp2_with fail
  refine (HSp _ _ O2.rd).mono ?_
  rintro e w3 ⟨vS, rfl, R3, hB3⟩
  have V3 := V2.trans (hB3.mono V2.size)
  obtain ⟨sa, sc, rfl⟩ : ∃ a c, vS = .slice a AL.length c := by obtain ⟨a, c, e, _⟩ := R3; exact ⟨a, c, e⟩
  clear O2 hB2 hB3
  go_wp2_with fail
  refine (HT _ V3).mono ?_
  rintro e w4 ⟨b1, d1, rfl, O4, hB4⟩
  have V4 := V3.trans (hB4.mono V3.size)
  have R4 := O4.rd
  have S4 := R3.keep hB4
  go_wp2_with fail
  refine (HI _ _ R4).mono ?_
  rintro e w5 ⟨vI, rfl, G5, hB5⟩
  obtain ⟨ga, gc, rfl⟩ := G5.form
  have V5 := V4.trans (hB5.mono V4.size)
  have S5 := S4.keep hB5
  have O5 := O4.keep hB5
  have hAA : (AN == AN) = true := by simp
  go_wp2_with fail
  refine (eqS_any _ _ _ _ _ G5.rd S5).mono ?_
  rintro e w6 ⟨rfl, hB6⟩
  have V6 := V5.trans (hB6.mono V5.size)
  have S6 := S5.keep hB6
  have O6 := O5.keep hB6
  have G6 := G5.keep hB6
  rw [decide_eq_true (rfl : AL = AL)]
  go_wp2_with fail
  refine (HT _ V6).mono ?_
  rintro e w7 ⟨b2, d2, rfl, O7, hB7⟩
  have V7 := V6.trans (hB7.mono V6.size)
  have S7 := S6.keep hB7
  have P7 := O6.keep hB7
  have G7 := G6.keep hB7
  go_wp2_with fail
  refine (eqS_any _ _ _ _ _ P7.rd O7.rd).mono ?_
  rintro e w8 ⟨rfl, hB8⟩
  have V8 := V7.trans (hB8.mono V7.size)
  have S8 := S7.keep hB8
  have P8 := P7.keep hB8
  have G8 := G7.keep hB8
  have hz34 := hB4.size
  have hz45 := hB5.size
  have hz56 := hB6.size
  have hz67 := hB7.size
  have hz78 := hB8.size
  rw [decide_eq_true (rfl : zs = zs)]
  have T8 : Below w3.heap.size w3 w8 := (((hB4.trans (hB5.mono hz34)).trans (hB6.mono (Nat.le_trans hz34 hz45))).trans (hB7.mono (by omega))).trans (hB8.mono (by omega))
  have hO4lt := O4.lt
  clear O7 O6 O5 O4 R4 S4 S5 S6 S7 P7 G5 G6 G7 hB6 hB7 hB8
  go_wp2_with fail
  refine (markS_any w3.heap.size NZ d1 b1 zs 1 _ P8 (by omega) (by omega)).mono ?_
  rintro e w9 ⟨rfl, P9, hg9⟩
  have hg9' : w8.grownBy w9 (Value.slice b1 NZ d1).ownBlock := hg9
  have hg9s := hg9'.size
  have b9 : Below w3.heap.size w8 w9 := gb_to hg9' (fun q hq => (hO4lt q hq).1) T8.size
  have T9 : Below w3.heap.size w3 w9 := T8.trans b9
  have V9 : Below w.heap.size w w9 := V8.trans (b9.mono V3.size)
  have S9 := R3.keep T9
  have G9 : Own w9 w4.heap.size (.slice ga AL.length gc) AL := G8.but hg9' (ob_ne (fun q hq => G8.lt q hq) hO4lt (by right; exact Nat.le_refl _))
  have hk9 : ¬ (1 + (NZ : Int)) < 0 := by omega
  rw [HNZ.out]
  clear S8 P8 G8 P9 hg9 hg9' b9 T8 V8
  go_wp2_with fail
  refine (eqS_any _ _ _ _ _ G9.rd S9).mono ?_
  rintro e wA ⟨rfl, hBA⟩
  have VA := V9.trans (hBA.mono V9.size)
  have TA := T9.trans (hBA.mono T9.size)
  have GA := G9.keep hBA
  have hz9A := hBA.size
  have hz89 := hg9s
  have hzT := T9.size
  rw [decide_eq_true (rfl : AL = AL)]
  obtain ⟨LA, hLA⟩ : ∃ LA, AL.length = LA := ⟨_, rfl⟩
  have HLA : Hid (AL.length = LA) := hLA
  rw [hLA] at GA hAl R3 ⊢
  clear hLA G9 S9
  go_wp2_with fail
  refine (markS_any w4.heap.size LA gc ga AL 1 _ GA (by omega) (by omega)).mono ?_
  rintro e wB ⟨rfl, GB, hgB⟩
  have hgB' : wA.grownBy wB (Value.slice ga LA gc).ownBlock := hgB
  have hzw4 : w4.heap.size ≤ wA.heap.size := by omega
  have bB : Below w4.heap.size wA wB := gb_to hgB' (fun q hq => (GA.lt q hq).1) hzw4
  have VB : Below w.heap.size w wB := VA.trans (bB.mono V4.size)
  have TB : Below w3.heap.size w3 wB := TA.trans (bB.mono hz34)
  rw [HLA.out] at GB ⊢
  have hq1 : ¬ (1 + (LA : Int)) < 0 := by omega
  have hqq : ((1 + (LA : Int)) == (1 + (LA : Int))) = true := by simp
  clear GA hgB hgB' bB
  go_wp2_with fail
  refine (heldS_any _ _ 1 LA _ GB.rd (by omega) (by omega) rfl).mono ?_
  rintro e wC ⟨rfl, hBC⟩
  have VC := VB.trans (hBC.mono VB.size)
  have TC := TB.trans (hBC.mono TB.size)
  have GC := GB.keep hBC
  go_wp2_with fail
  refine (HT _ VC).mono ?_
  rintro e wD ⟨b4, d4, rfl, OD, hBD⟩
  have VD := VC.trans (hBD.mono VC.size)
  have TD := TC.trans (hBD.mono TC.size)
  have GD := GC.keep hBD
  go_wp2_with fail
  refine (HI _ _ OD.rd).mono ?_
  rintro e wE ⟨vE, rfl, KE, hBE⟩
  obtain ⟨ea, ec, rfl⟩ := KE.form
  rw [HLA.out] at KE ⊢
  have VE := VD.trans (hBE.mono VD.size)
  have TE := TD.trans (hBE.mono TD.size)
  have GE := GD.keep hBE
  have SE := R3.keep TE
  go_wp2_with fail
  refine (eqS_any _ _ _ _ _ KE.rd SE).mono ?_
  rintro e wF ⟨rfl, hBF⟩
  have VF := VE.trans (hBF.mono VE.size)
  have GF := GE.keep hBF
  rw [decide_eq_true (rfl : AL = AL)]
  clear KE SE GD GC GB OD GE
  go_wp2_with fail
  refine (heldS_any _ _ 1 LA _ GF.rd (by omega) (by omega) rfl).mono ?_
  rintro e wG ⟨rfl, hBG⟩
  have VG := VF.trans (hBG.mono VF.size)
  go_wp2_with fail
  go_ret
  exact ⟨rfl, VG⟩
end Go.Proofs.Ytlnekedehalbdaa
