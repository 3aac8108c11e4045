import Derived.Test.YtlnekedehalbdaaPsF
namespace Go.Proofs.Ytlnekedehalbdaa
open Go.RowKit
set_option linter.unusedVariables false
set_option linter.unusedSimpArgs false

theorem qi_ne {w : World} {B B' : Nat} {v u : Value} {q : List (Int × Int)} {zs : List Int} (h : OwnG shQ 43 w B v q) (k : Own w B' u zs) : (u.ownBlock = none ∨ u.ownBlock ≠ v.ownBlock) ∧ (v.ownBlock = none ∨ v.ownBlock ≠ u.ownBlock) := by
  have H : ∀ x, v.ownBlock = some x → u.ownBlock = some x → False := fun x h1 h2 => by
    obtain ⟨c1, p1, k1⟩ := own_ask h x h1
    obtain ⟨c2, p2, k2⟩ := own_int k x h2
    rw [k1] at k2
    simp only [Option.some.injEq, Obj.cells.injEq] at k2
    exact absurd k2.2.1 (by decide)
  constructor
  · cases e : u.ownBlock with
    | none => exact .inl rfl
    | some x => exact .inr (fun e2 => H x e2.symm e)
  · cases e : v.ownBlock with
    | none => exact .inl rfl
    | some x => exact .inr (fun e2 => H x e e2.symm)
theorem ansA_len (n : Int) (ans : List Bool) : (ansA n ans).1.length ≤ 34000 ∧ (ansA n ans).2.1.length ≤ 2000 := by
  unfold ansA
  split
  · simp
  · rename_i h
    have h1 := sortS_asks (tellA ans) n.toNat (by omega)
    have h2 := allS_head (tellA ans) n.toNat
    simp only
    refine ⟨by omega, ?_⟩
    split
    · simp
    · omega
set_option maxRecDepth 100000 in
set_option maxHeartbeats 2000000 in
theorem law_sortplan (n : Int) (a : Option Addr) (c : Nat) (bs : List Bool) (w : World) (hn : -9223372036854775808 ≤ n ∧ n ≤ 9223372036854775807) (hl : bs.length ≤ 9223372036854775807) (hr : bs.length ≤ 1048576 → RdG shB w (.slice a bs.length c) bs) :
    Calls Try.prog 4 #[.int .i64 n, .slice a bs.length c] w fun e w' => e = .returned (.bool true) ∧ Below w.heap.size w w' := by
  by_cases hbig : 1048576 < bs.length
  · have hbi : (1048576 : Int) < (bs.length : Int) := by omega
    go_enter Try.func4, Try.ntmps4
    go_wp2
    go_ret
    exact ⟨rfl, Below.refl _ _⟩
  have hR := hr (by omega)
  have hbi : ¬ (1048576 : Int) < (bs.length : Int) := by omega
  have HT := fun W (h : Below w.heap.size w W) => toB_any (.slice a bs.length c) bs W (hR.keep h)
  have HI := fun W v (h : RdG shB W v bs) => planI_any W n v bs h hn.1 (by omega)
  have HSp := fun W v (h : RdG shB W v bs) => planS_any W n v bs h hn.1 (by omega)
  obtain ⟨hAl, hAm⟩ := ansA_len n bs
  generalize ansA n bs = AA at *
  obtain ⟨AQ, AL, AB⟩ := AA
  unfold PlanQ at HI
  unfold PlanP at HSp
  simp only at HI HSp hAl hAm
  have hzl : bs.length ≤ 1048576 := by omega
  obtain ⟨NZ, hNZ⟩ : ∃ NZ, bs.length = NZ := ⟨_, rfl⟩
  have HNZ : Hid (bs.length = NZ) := hNZ
  rw [hNZ] at hbi HT hzl ⊢
  clear hr hR hl hbig hNZ
  go_enter Try.func4, Try.ntmps4
  go_wp2_with fail
  refine (HT _ (Below.refl _ _)).mono ?_
  rintro e w2 ⟨b0, d0, rfl, O2, hB2⟩
  have V2 := (Below.refl w.heap.size w).trans hB2
  go_wp2_with fail
  refine (HSp _ _ O2.rd).mono ?_
  rintro e w3 ⟨vS, vT, rfl, R3, R3', hB3⟩
  have V3 := V2.trans (hB3.mono V2.size)
  obtain ⟨LQ, hLQ⟩ : ∃ LQ, AQ.length = LQ := ⟨_, rfl⟩
  obtain ⟨LA, hLA⟩ : ∃ LA, AL.length = LA := ⟨_, rfl⟩
  have HLQ : Hid (AQ.length = LQ) := hLQ
  have HLA : Hid (AL.length = LA) := hLA
  obtain ⟨sa, sc, rfl⟩ := R3.form
  obtain ⟨ta, tc, rfl⟩ : ∃ a c, vT = .slice a AL.length c := by obtain ⟨a, c, e, _⟩ := R3'; exact ⟨a, c, e⟩
  rw [hLQ] at R3 hAl ⊢
  rw [hLA] at R3' hAm ⊢
  clear O2 hB2 hB3 hLQ hLA
  go_wp2_with fail
  refine (HT _ V3).mono ?_
  rintro e w4 ⟨b1, d1, rfl, O4, hB4⟩
  have V4 := V3.trans (hB4.mono V3.size)
  have R4 := O4.rd
  have S4 := R3.keep hB4
  have S4' := R3'.keep hB4
  go_wp2_with fail
  refine (HI _ _ R4).mono ?_
  rintro e w5 ⟨vI, vJ, rfl, G5, G5', hB5⟩
  obtain ⟨ga, gc, rfl⟩ := G5.form
  obtain ⟨ja, jc, rfl⟩ := G5'.form
  rw [HLQ.out] at G5 ⊢
  rw [HLA.out] at G5' ⊢
  have V5 := V4.trans (hB5.mono V4.size)
  have S5 := S4.keep hB5
  have S5' := S4'.keep hB5
  have O5 := O4.keep hB5
  have hAA : (AB == AB) = true := by simp
  go_wp2_with fail
  refine (eqQS_any _ _ _ _ G5.rd S5).mono ?_
  rintro e w6 ⟨rfl, hB6⟩
  go_wp2_with fail
  refine (eqS_any _ _ _ _ _ (G5'.keep hB6).rd (S5'.keep hB6)).mono ?_
  rintro e w7 ⟨rfl, hB7⟩
  have B57 : Below w5.heap.size w5 w7 := hB6.trans (hB7.mono hB6.size)
  have V7 := V5.trans (B57.mono V5.size)
  have S7 := S5.keep B57
  have S7' := S5'.keep B57
  have O7 := O5.keep B57
  have G7 := G5.keep B57
  have G7' := G5'.keep B57
  rw [decide_eq_true (rfl : AL = AL)]
  go_wp2_with fail
  refine (HT _ V7).mono ?_
  rintro e w8 ⟨b2, d2, rfl, O8, hB8⟩
  have V8 := V7.trans (hB8.mono V7.size)
  go_wp2_with fail
  refine (eqB_any _ _ _ _ (O7.keep hB8).rd O8.rd).mono ?_
  rintro e w9 ⟨rfl, hB9⟩
  have B79 : Below w7.heap.size w7 w9 := hB8.trans (hB9.mono hB8.size)
  have V9 := V7.trans (B79.mono V7.size)
  have P9 := O7.keep B79
  have G9 := G7.keep B79
  have G9' := G7'.keep B79
  have hz34 := hB4.size
  have hz45 := hB5.size
  have hz57 := B57.size
  have hz79 := B79.size
  have T9 : Below w3.heap.size w3 w9 := ((hB4.trans (hB5.mono hz34)).trans (B57.mono (by omega))).trans (B79.mono (by omega))
  have hO4lt := O4.lt
  clear O8 O7 O5 O4 R4 S4 S4' S5 S5' S7 S7' G5 G5' G7 G7' hB6 hB7 hB8 hB9 B57 B79 V8 V7
  go_wp2_with fail
  refine (markB_any w3.heap.size NZ d1 b1 bs 1 _ P9 (by omega) (by omega)).mono ?_
  rintro e wA ⟨rfl, -, hgA⟩
  have hgA' : w9.grownBy wA (Value.slice b1 NZ d1).ownBlock := hgA
  have hgAs := hgA'.size
  have bA : Below w3.heap.size w9 wA := gb_to hgA' (fun q hq => (hO4lt q hq).1) T9.size
  have TA : Below w3.heap.size w3 wA := T9.trans bA
  have VA : Below w.heap.size w wA := V9.trans (bA.mono V3.size)
  have SA1 := R3.keep TA
  have SA2 := R3'.keep TA
  have GA : OwnG shQ 43 wA w4.heap.size (.slice ga LQ gc) AQ := G9.but hgA' (ob_ne (fun q hq => G9.lt q hq) hO4lt (by right; exact Nat.le_refl _))
  have GA' : Own wA w4.heap.size (.slice ja LA jc) AL := G9'.but hgA' (ob_ne (fun q hq => G9'.lt q hq) hO4lt (by right; exact Nat.le_refl _))
  have hk9 : ¬ (1 + (NZ : Int)) < 0 := by omega
  rw [HNZ.out]
  clear P9 G9 G9' hgA hgA' bA T9 V9
  go_wp2_with fail
  refine (eqQS_any _ _ _ _ GA.rd SA1).mono ?_
  rintro e wB ⟨rfl, hBB⟩
  go_wp2_with fail
  refine (eqS_any _ _ _ _ _ (GA'.keep hBB).rd (SA2.keep hBB)).mono ?_
  rintro e wC ⟨rfl, hBC⟩
  have BAC : Below wA.heap.size wA wC := hBB.trans (hBC.mono hBB.size)
  have VC := VA.trans (BAC.mono VA.size)
  have TC := TA.trans (BAC.mono TA.size)
  have GC := GA.keep BAC
  have GC' := GA'.keep BAC
  have hzAC := BAC.size
  rw [decide_eq_true (rfl : AL = AL)]
  clear GA GA' SA1 SA2 hBB hBC
  have hz4C : w4.heap.size ≤ wC.heap.size := by omega
  go_wp2_with fail
  refine (markQS_any w4.heap.size LQ gc ga AQ 1 _ GC (by omega) (by omega)).mono ?_
  rintro e wD ⟨rfl, GD, hgD⟩
  have hgD' : wC.grownBy wD (Value.slice ga LQ gc).ownBlock := hgD
  have bD : Below w4.heap.size wC wD := gb_to hgD' (fun q hq => (GC.lt q hq).1) hz4C
  have VD : Below w.heap.size w wD := VC.trans (bD.mono V4.size)
  have TD : Below w3.heap.size w3 wD := TC.trans (bD.mono hz34)
  have GD' : Own wD w4.heap.size (.slice ja LA jc) AL := GC'.but hgD' (qi_ne GC GC').1
  have hz4D : w4.heap.size ≤ wD.heap.size := Nat.le_trans hz4C hgD'.size
  rw [HLQ.out] at GD ⊢
  clear GC GC' hgD hgD' bD VC TC
  go_wp2_with fail
  refine (markS_any w4.heap.size LA jc ja AL (1 + 2 * (LQ : Int)) _ GD' (by omega) (by omega)).mono ?_
  rintro e wE ⟨rfl, GE', hgE⟩
  have hgE' : wD.grownBy wE (Value.slice ja LA jc).ownBlock := hgE
  have bE : Below w4.heap.size wD wE := gb_to hgE' (fun q hq => (GD'.lt q hq).1) hz4D
  have VE : Below w.heap.size w wE := VD.trans (bE.mono V4.size)
  have TE : Below w3.heap.size w3 wE := TD.trans (bE.mono hz34)
  have GE : OwnG shQ 43 wE w4.heap.size (.slice ga LQ gc) (marksQ 1 LQ) := GD.but hgE' (qi_ne GD GD').2
  rw [HLA.out] at GE' ⊢
  clear GD GD' hgE hgE' bE VD TD
  have hq1 : ¬ (1 + 2 * (LQ : Int)) < 0 := by omega
  have hq2 : ¬ (1 + 2 * (LQ : Int) + (LA : Int)) < 0 := by omega
  have hqq : ((1 + 2 * (LQ : Int) + (LA : Int)) == (1 + 2 * (LQ : Int) + (LA : Int))) = true := by simp
  go_wp2_with fail
  refine (heldQ_any _ 1 LQ _ GE.rd (by omega) (by omega)).mono ?_
  rintro e wF ⟨rfl, hBF⟩
  have VF := VE.trans (hBF.mono VE.size)
  have TF := TE.trans (hBF.mono TE.size)
  have GF := GE.keep hBF
  have GF' := GE'.keep hBF
  go_wp2_with fail
  refine (heldS_any _ _ (1 + 2 * (LQ : Int)) LA _ GF'.rd (by omega) (by omega) rfl).mono ?_
  rintro e wG ⟨rfl, hBG⟩
  have VG := VF.trans (hBG.mono VF.size)
  have TG := TF.trans (hBG.mono TF.size)
  have GG := GF.keep hBG
  have GG' := GF'.keep hBG
  clear GE GE' GF GF' VF TF VE TE
  go_wp2_with fail
  refine (HT _ VG).mono ?_
  rintro e wH ⟨b4, d4, rfl, OH, hBH⟩
  have VH := VG.trans (hBH.mono VG.size)
  have TH := TG.trans (hBH.mono TG.size)
  have GH := GG.keep hBH
  have GH' := GG'.keep hBH
  go_wp2_with fail
  refine (HI _ _ OH.rd).mono ?_
  rintro e wI ⟨vE, vF, rfl, KE, KE', hBI⟩
  obtain ⟨ea, ec, rfl⟩ := KE.form
  obtain ⟨fa, fc, rfl⟩ := KE'.form
  rw [HLQ.out] at KE ⊢
  rw [HLA.out] at KE' ⊢
  have VI := VH.trans (hBI.mono VH.size)
  have TI := TH.trans (hBI.mono TH.size)
  have GI := GH.keep hBI
  have GI' := GH'.keep hBI
  have SI := R3.keep TI
  have SI' := R3'.keep TI
  clear GG GG' GH GH' OH VG TG
  go_wp2_with fail
  refine (eqQS_any _ _ _ _ KE.rd SI).mono ?_
  rintro e wJ ⟨rfl, hBJ⟩
  go_wp2_with fail
  refine (eqS_any _ _ _ _ _ (KE'.keep hBJ).rd (SI'.keep hBJ)).mono ?_
  rintro e wK ⟨rfl, hBK⟩
  have BIK : Below wI.heap.size wI wK := hBJ.trans (hBK.mono hBJ.size)
  have VK := VI.trans (BIK.mono VI.size)
  have GK := GI.keep BIK
  have GK' := GI'.keep BIK
  rw [decide_eq_true (rfl : AL = AL)]
  clear KE KE' SI SI' GI GI'
  go_wp2_with fail
  refine (heldQ_any _ 1 LQ _ GK.rd (by omega) (by omega)).mono ?_
  rintro e wL ⟨rfl, hBL⟩
  have VL := VK.trans (hBL.mono VK.size)
  have GL' := GK'.keep hBL
  go_wp2_with fail
  refine (heldS_any _ _ (1 + 2 * (LQ : Int)) LA _ GL'.rd (by omega) (by omega) rfl).mono ?_
  rintro e wM ⟨rfl, hBM⟩
  have VM := VL.trans (hBM.mono VL.size)
  go_wp2_with fail
  go_ret
  exact ⟨rfl, VM⟩
end Go.Proofs.Ytlnekedehalbdaa
