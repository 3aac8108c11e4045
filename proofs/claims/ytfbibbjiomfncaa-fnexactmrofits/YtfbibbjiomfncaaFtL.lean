import Derived.Test.YtfbibbjiomfncaaFtN
import Derived.Test.YtfbibbjiomfncaaFtB
import Derived.Test.YtfbibbjiomfncaaClZ
import Derived.Test.YtfbibbjiomfncaaClT
import Derived.Test.YtfbibbjiomfncaaClE
namespace Go.Proofs.Ytfbibbjiomfncaa
open Go.RowKit
set_option linter.unusedVariables false
set_option linter.unusedSimpArgs false

set_option maxRecDepth 100000 in
set_option maxHeartbeats 2000000 in
theorem law_mrofits (a : Option Addr) (c : Nat) (cs : List Cl) (w : World) (hr : UbC w (.slice a cs.length c) cs) :
    Calls Try.prog 5 #[.slice a cs.length c] w fun e w' => e = .returned (.bool true) ∧ Below w.heap.size w w' := by
  have HT := fun W g => toC_any (.slice a cs.length c) cs W g
  go_enter Try.func5, Try.ntmps5
  go_wp2_with fail
  refine (szC_any _ _ _ _ hr (by omega) (by omega)).mono ?_
  rintro e w1 ⟨x, rfl, hx, V1⟩
  rcases hx with rfl | ⟨hx0, hx1, g⟩
  · go_wp2
    go_ret
    exact ⟨rfl, V1⟩
  have hxn : ¬ x < 0 := by omega
  have hmx := g.max
  clear hr
  go_wp2_with fail
  refine (HT _ (g.keep V1)).mono ?_
  rintro e w2 ⟨b0, d0, rfl, O2, hB2⟩
  have V2 := V1.trans (hB2.mono V1.size)
  go_wp2_with fail
  refine (fitsS_any _ cs _ O2.rd).mono ?_
  rintro e w3 ⟨v0, rfl, F3, hB3⟩
  have V3 := V2.trans (hB3.mono V2.size)
  obtain ⟨f0, f0c, ef0⟩ := F3.form
  subst ef0
  clear O2 hB2 hB3
  go_wp2_with fail
  refine (HT _ (g.keep V3)).mono ?_
  rintro e w4 ⟨b1, d1, rfl, O4, hB4⟩
  have V4 := V3.trans (hB4.mono V3.size)
  have F4 := F3.keep hB4
  have z34 := hB4.size
  have R4 := O4.rd
  go_wp2_with fail
  refine (fitsI_any _ cs _ R4).mono ?_
  rintro e w5 ⟨v1, rfl, G5, hB5⟩
  have V5 := V4.trans (hB5.mono V4.size)
  have F5 := F4.keep hB5
  have R5 := R4.keep hB5
  have z45 := hB5.size
  obtain ⟨f1, f1c, ef1⟩ := G5.form
  subst ef1
  have G5r := G5.rd
  have F5r := F5.rd
  go_wp2_with fail
  refine (eqB_any _ _ _ _ G5r F5r).mono ?_
  rintro e w6 ⟨rfl, hB6⟩
  have V6 := V5.trans (hB6.mono V5.size)
  have R6 := R5.keep hB6
  have B46 := hB5.trans (hB6.mono hB5.size)
  go_wp2_with fail
  refine (HT _ (g.keep V6)).mono ?_
  rintro e w7 ⟨b2, d2, rfl, O7, hB7⟩
  have V7 := V6.trans (hB7.mono V6.size)
  have R67 := R6.keep hB7
  have R7 := O7.rd
  have B47 := B46.trans (hB7.mono B46.size)
  go_wp2_with fail
  refine (eqC_any _ _ _ _ R67 R7).mono ?_
  rintro e w8 ⟨rfl, hB8⟩
  have V8 := V7.trans (hB8.mono V7.size)
  have B48 := B47.trans (hB8.mono B47.size)
  have B58 := ((hB6.trans (hB7.mono hB6.size)).trans (hB8.mono (Nat.le_trans hB6.size hB7.size)))
  have G8 := G5.keep B58
  have F8 := F5.keep B58
  clear R67 R7 O7 R6 R5 hB6 hB7 hB8 B46 B47
  go_wp2_with fail
  refine (markC_w w3.heap.size w4.heap.size _ cs w4 _ O4 rfl B48 hmx).mono ?_
  rintro e w9 ⟨m9, rfl, hOn⟩
  have V9 : Below w.heap.size w w9 := V8.trans ((hOn.below (by have := V8.size; have := B48.size; omega)).mono V3.size)
  have G9 := hOn.own G8 (Nat.le_refl _)
  have F9 : OwnG shB 4 w9 w2.heap.size (.slice f0 (fitsC cs).length f0c) (fitsC cs) := by
    rcases F8.shape with ⟨e, e2⟩ | ⟨gf, cf, e, hg, hl, _⟩
    · rw [e, e2]; exact OwnG.nil _ _ _ _
    · rw [e] at F8 F3 ⊢
      exact F8.keepAt (hOn.block gf hl (.inl (F3.lt gf rfl).2))
  have hz9 := hOn.size
  have hm9 : ¬ (m9 : Int) < 0 := by omega
  clear G8 F8 O4 R4 F4 F5 F5r G5r hOn
  go_wp2_with fail
  refine (eqB_any _ _ _ _ G9.rd F9.rd).mono ?_
  rintro e wA ⟨rfl, hBA⟩
  have VA := V9.trans (hBA.mono V9.size)
  have GA := G9.keep hBA
  have FA := F9.keep hBA
  have hzA := hBA.size
  have hfl := GA.2.1
  clear G9 F9
  go_wp2_with fail
  refine (markB_any w4.heap.size _ f1c f1 (fitsC cs) 1 _ GA (by omega) (by omega)).mono ?_
  rintro e wB ⟨rfl, GB, hgB⟩
  have hGr : ∀ j, (Value.slice f1 (fitsC cs).length f1c).ownBlock = some j → w4.heap.size ≤ j := fun j hj => (GA.lt j hj).1
  have hz4w := V4.size
  have hz48 := B48.size
  have VB : Below w.heap.size w wB := VA.trans (gb_to hgB (fun j hj => by have := hGr j hj; omega) (by omega))
  have FB : OwnG shB 4 wB w2.heap.size (.slice f0 (fitsC cs).length f0c) (fitsC cs) := FA.but hgB (by
    rcases F3.shape with ⟨e, _⟩ | ⟨gf, cf, e, hg, hl, _⟩
    · left; rw [e]; rfl
    · right
      rw [e] at F3 ⊢
      have := (F3.lt gf rfl).2
      intro e2
      have := hGr gf e2.symm
      omega)
  have hzB := hgB.size
  generalize hFL : (fitsC cs).length = FL at *
  have HFL : Hid ((fitsC cs).length = FL) := hFL
  have HB := fun W (h : RdG shB W (.slice f1 FL f1c) (bmarks 1 FL)) => heldB_any (.slice f1 FL f1c) 1 FL W h (by omega) (by omega)
  clear hFL GA FA
  go_wp2_with fail
  refine (HB _ GB.rd).mono ?_
  rintro e wC ⟨rfl, hBC⟩
  have VC := VB.trans (hBC.mono VB.size)
  have GC := GB.keep hBC
  have FC := FB.keep hBC
  have hq1 : ¬ (1 + (FL : Int)) < 0 := by omega
  go_wp2_with fail
  refine (HT _ (g.keep VC)).mono ?_
  rintro e wD ⟨b3, d3, rfl, OD, hBD⟩
  have VD := VC.trans (hBD.mono VC.size)
  have GD := GC.keep hBD
  have FD := FC.keep hBD
  go_wp2_with fail
  refine (fitsI_any _ cs _ OD.rd).mono ?_
  rintro e wE ⟨v2, rfl, HE, hBE⟩
  have VE := VD.trans (hBE.mono VD.size)
  have GE := GD.keep hBE
  have FE := FD.keep hBE
  obtain ⟨f2, f2c, ef2⟩ := HE.form
  subst ef2
  rw [HFL.out] at HE ⊢
  go_wp2_with fail
  refine (eqB_any _ _ _ _ HE.rd FE.rd).mono ?_
  rintro e wF ⟨rfl, hBF⟩
  have VF := VE.trans (hBF.mono VE.size)
  have GF := GE.keep hBF
  clear GB GC GD GE FB FC FD FE HE OD
  go_wp2_with fail
  refine (HB _ GF.rd).mono ?_
  rintro e wG ⟨rfl, hBG⟩
  have VG := VF.trans (hBG.mono VF.size)
  go_wp2
  go_ret
  exact ⟨rfl, VG⟩
end Go.Proofs.Ytfbibbjiomfncaa
