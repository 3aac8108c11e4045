import Derived.Test.YtfbibbjiomfncaaMoC
import Derived.Test.YtfbibbjiomfncaaClZ
import Derived.Test.YtfbibbjiomfncaaClT
import Derived.Test.YtfbibbjiomfncaaClE
namespace Go.Proofs.Ytfbibbjiomfncaa
open Go.RowKit
set_option linter.unusedVariables false
set_option linter.unusedSimpArgs false

theorem mro_b (cs : List Cl) : (mroA cs).1.length ≤ 300 ∧ ∀ l ∈ (mroA cs).1, l.length ≤ 300 := by
  unfold mroA
  by_cases hok : OkCs cs
  · rw [dec_true hok]
    simp only [if_true]
    cases badL (lnsC cs cs.length) with
    | some k => exact ⟨by simp, fun l hl => by simp at hl⟩
    | none =>
      have h2 := hok.1
      refine ⟨by show (lnsC cs cs.length).length ≤ 300; rw [lns_len]; omega, fun l hl => ?_⟩
      obtain ⟨k, hk, rfl⟩ := List.getElem_of_mem hl
      have := (lns_ok hok cs.length (Nat.le_refl _) k hk).len
      have hk2 : k < cs.length := by have := lns_len cs cs.length; simp only at hk; omega
      show (lnsC cs cs.length)[k].length ≤ 300
      omega
  · rw [dec_false hok]
    exact ⟨by simp, fun l hl => by simp at hl⟩
theorem OnlyIn.ownI {B N B' : Nat} {w w' : World} {v : Value} {zs : List Int} (h : OnlyIn B N w w') (hO : Own w B' v zs) (hN : N ≤ B') : Own w' B' v zs := by
  rcases hO.shape with ⟨rfl, rfl⟩ | ⟨g, cap, rfl, hg, hl, hc⟩
  · exact Own.nil _ _
  · have hb := h.block g hl (.inr (by omega))
    obtain ⟨⟨h1, h2⟩, h3⟩ := hO
    refine ⟨⟨h1, ?_⟩, h3⟩
    rcases h2 with h2 | ⟨g', cap', cur, e, hg', hh, r⟩
    · exact .inl h2
    · have e' := e
      simp at e'
      obtain ⟨rfl, _⟩ := e'
      exact .inr ⟨_, cap', cur, e, hg', hb.trans hh, r⟩
theorem OnlyIn.lo {B N B' : Nat} {w w' : World} {g n cap : Nat} {sls : List Sl} {Ls : List (List Int)} (h : OnlyIn B N w w') (hL : LO w B' g n cap sls Ls) (hN : N ≤ B') : LO w' B' g n cap sls Ls :=
  ⟨h.own hL.out hN, hL.len, fun k hk hk' => h.ownI (hL.row k hk hk') hN, hL.apart⟩

set_option maxRecDepth 100000 in
set_option maxHeartbeats 2000000 in
theorem law_mro (a : Option Addr) (c : Nat) (cs : List Cl) (w : World) (hr : UbC w (.slice a cs.length c) cs) :
    Calls Try.prog 4 #[.slice a cs.length c] w fun e w' => e = .returned (.bool true) ∧ Below w.heap.size w w' := by
  have HT := fun W g => toC_any (.slice a cs.length c) cs W g
  go_enter Try.func4, Try.ntmps4
  go_wp2_with fail
  refine (szC_any _ _ _ _ hr (by omega) (by omega)).mono ?_
  rintro e w1 ⟨x, rfl, hx, V1⟩
  rcases hx with rfl | ⟨hx0, hx1, g⟩
  · go_wp2
    go_ret
    exact ⟨rfl, V1⟩
  have hxn : ¬ x < 0 := by omega
  have hmx := g.max
  clear hr
  go_wp2_with fail
  refine (HT _ (g.keep V1)).mono ?_
  rintro e w2 ⟨b0, d0, rfl, O2, hB2⟩
  have V2 := V1.trans (hB2.mono V1.size)
  have HI := fun W v (h : RdC W v cs) => mroI_any v cs W h
  have hmb := mro_b cs
  go_wp2_with fail
  refine (mroS_any _ cs _ O2.rd).mono ?_
  rintro e w3 ⟨gS, nS, cS, rfl, F3, hB3⟩
  have V3 := V2.trans (hB3.mono V2.size)
  generalize hA : mroA cs = A at *
  obtain ⟨Ls, A2⟩ := A
  simp only at HI F3 hmb ⊢
  obtain ⟨hm1, hm2⟩ := hmb
  clear O2 hB2 hB3 hA
  go_wp2_with fail
  refine (HT _ (g.keep V3)).mono ?_
  rintro e w4 ⟨b1, d1, rfl, O4, hB4⟩
  have V4 := V3.trans (hB4.mono V3.size)
  have z34 := hB4.size
  have R4 := O4.rd
  go_wp2_with fail
  refine (HI _ _ R4).mono ?_
  rintro e w5 ⟨gI, nI, cI, rfl, ⟨sls, G5⟩, hB5⟩
  have V5 := V4.trans (hB5.mono V4.size)
  have T5 := hB4.trans (hB5.mono z34)
  have F5 := F3.keep T5
  have R5 := R4.keep hB5
  have z45 := hB5.size
  have G5r := LLn.rl G5.ln
  have hAA : (A2 == A2) = true := by simp
  go_wp2_with fail
  refine (eqSS_any _ _ _ _ G5r F5).mono ?_
  rintro e w6 ⟨rfl, hB6⟩
  have V6 := V5.trans (hB6.mono V5.size)
  have R6 := R5.keep hB6
  have B46 := hB5.trans (hB6.mono hB5.size)
  go_wp2_with fail
  refine (HT _ (g.keep V6)).mono ?_
  rintro e w7 ⟨b2, d2, rfl, O7, hB7⟩
  have V7 := V6.trans (hB7.mono V6.size)
  have R67 := R6.keep hB7
  have R7 := O7.rd
  have B47 := B46.trans (hB7.mono B46.size)
  go_wp2_with fail
  refine (eqC_any _ _ _ _ R67 R7).mono ?_
  rintro e w8 ⟨rfl, hB8⟩
  have V8 := V7.trans (hB8.mono V7.size)
  have B48 := B47.trans (hB8.mono B47.size)
  have B58 := ((hB6.trans (hB7.mono hB6.size)).trans (hB8.mono (Nat.le_trans hB6.size hB7.size)))
  have G8 := G5.keep B58
  have T8 := T5.trans (B58.mono T5.size)
  clear R67 R7 O7 R6 R5 hB6 hB7 hB8 B46 B47 F5 G5r
  go_wp2_with fail
  refine (markC_w w3.heap.size w4.heap.size _ cs w4 _ O4 rfl B48 hmx).mono ?_
  rintro e w9 ⟨m9, rfl, hOn⟩
  have hb9 := hOn.below (B := w3.heap.size) (by have := T8.size; omega)
  have V9 : Below w.heap.size w w9 := V8.trans (hb9.mono V3.size)
  have T9 : Below w3.heap.size w3 w9 := T8.trans hb9
  have G9 := hOn.lo G8 (Nat.le_refl _)
  have F9 := F3.keep T9
  have hz9 := hOn.size
  have hm9 : ¬ (m9 : Int) < 0 := by omega
  clear G8 O4 R4 hOn hb9
  go_wp2_with fail
  refine (eqSS_any _ _ _ _ (LLn.rl G9.ln) F9).mono ?_
  rintro e wA ⟨rfl, hBA⟩
  have VA := V9.trans (hBA.mono V9.size)
  have TA := T9.trans (hBA.mono T9.size)
  have GA := G9.keep hBA
  have hzA := hBA.size
  have hz48 := B48.size
  have hB4A : w4.heap.size ≤ wA.heap.size := by omega
  clear G9 F9
  go_wp2_with fail
  refine (markSS_any w4.heap.size gI nI cI sls Ls _ GA hm1 hm2 hB4A).mono ?_
  rintro e wB ⟨rfl, GB, hbB⟩
  have hz4w := V4.size
  have VB : Below w.heap.size w wB := VA.trans (hbB.mono hz4w)
  have TB : Below w3.heap.size w3 wB := TA.trans (hbB.mono z34)
  have HB := fun W v (h : RL W v (mks 1 Ls)) => heldSS_any v Ls W h hm1 hm2
  generalize totL Ls = TL at *
  have hq1 : ¬ (1 + (TL : Int)) < 0 := by omega
  have hqq : ((1 + (TL : Int)) == (1 + (TL : Int))) = true := by simp
  clear GA
  go_wp2_with fail
  refine (HB _ _ (LLn.rl GB.ln)).mono ?_
  rintro e wC ⟨rfl, hBC⟩
  have VC := VB.trans (hBC.mono VB.size)
  have TC := TB.trans (hBC.mono TB.size)
  have GC := GB.keep hBC
  go_wp2_with fail
  refine (HT _ (g.keep VC)).mono ?_
  rintro e wD ⟨b3, d3, rfl, OD, hBD⟩
  have VD := VC.trans (hBD.mono VC.size)
  have TD := TC.trans (hBD.mono TC.size)
  have GD := GC.keep hBD
  go_wp2_with fail
  refine (HI _ _ OD.rd).mono ?_
  rintro e wE ⟨gE, nE, cE, rfl, ⟨slE, HE⟩, hBE⟩
  have VE := VD.trans (hBE.mono VD.size)
  have TE := TD.trans (hBE.mono TD.size)
  have GE := GD.keep hBE
  have FE := F3.keep TE
  go_wp2_with fail
  refine (eqSS_any _ _ _ _ (LLn.rl HE.ln) FE).mono ?_
  rintro e wF ⟨rfl, hBF⟩
  have VF := VE.trans (hBF.mono VE.size)
  have GF := GE.keep hBF
  clear GB GC GD GE FE HE OD
  go_wp2_with fail
  refine (HB _ _ (LLn.rl GF.ln)).mono ?_
  rintro e wG ⟨rfl, hBG⟩
  have VG := VF.trans (hBG.mono VF.size)
  go_wp2
  go_ret
  exact ⟨rfl, VG⟩
end Go.Proofs.Ytfbibbjiomfncaa
