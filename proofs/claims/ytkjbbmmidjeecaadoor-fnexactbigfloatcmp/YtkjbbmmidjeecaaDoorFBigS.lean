import Derived.Test.YtkjbbmmidjeecaaDoorFBigM
namespace Go.Proofs.YtkjbbmmidjeecaaDoor
open Go.RowKit
set_option linter.unusedVariables false
set_option linter.unusedSimpArgs false

theorem fb_bad {x : Nat} (hb : fbad x = true) : fbS x = false ∧ fbL x = [] ∧ fbC x = 1 := by
  unfold fbS fbL fbC; rw [hb]; exact ⟨rfl, rfl, rfl⟩
theorem fb_good {x : Nat} (hb : fbad x = false) : fbS x = nz (fneg x) (fq x) ∧ fbL x = lim (fq x) ∧ fbC x = 0 := by
  unfold fbS fbL fbC; rw [hb]; exact ⟨rfl, rfl, rfl⟩
set_option maxHeartbeats 1000000 in
set_option maxRecDepth 100000 in
theorem floatBigS_any (x : Int) (w : World) (h0 : 0 ≤ x) (h1 : x ≤ 18446744073709551615) :
    Calls Tryd.prog 9 #[.int .u64 x] w fun e w' => ∃ a c, e = .returned (.tuple #[.agg #[.bool (fbS x.toNat), .slice a (fbL x.toNat).length c], .int .i64 (fbC x.toNat)]) ∧ Own w' w.heap.size (.slice a (fbL x.toNat).length c) (fbL x.toNat) ∧ Below w.heap.size w w' := by
  have hN := fun W => isNanS_any x W h0 h1
  have hI := fun W => isInfS_any x W h0 h1
  have hW0 := (Below.refl w.heap.size w).alloc (Nat.le_refl _) (Obj.cells #[.bool false, .slice none 0 0] 25)
  cases hn : isN x.toNat with
  | true =>
    obtain ⟨e1, e2, e3⟩ := fb_bad (x := x.toNat) (by unfold fbad; rw [hn]; rfl)
    rw [hn] at hN
    rw [e1, e2, e3]
    go_enter Tryd.func9, Tryd.ntmps9
    go_wp2_with fail
    refine (hN _).mono ?_
    rintro e w1 ⟨rfl, rfl⟩
    go_wp2
    refine bodyPost_ret (v := .tuple #[.agg #[.bool false, .slice none 0 0], .int .i64 1]) (by simp [results, Tryd.results9, go_sem]) rfl ⟨none, 0, rfl, Own.nil _ _, hW0⟩
  | false =>
    rw [hn] at hN
    cases hi : isI x.toNat with
    | true =>
      obtain ⟨e1, e2, e3⟩ := fb_bad (x := x.toNat) (by unfold fbad; rw [hn, hi]; rfl)
      rw [hi] at hI
      rw [e1, e2, e3]
      go_enter Tryd.func9, Tryd.ntmps9
      go_wp2_with fail
      refine (hN _).mono ?_
      rintro e w1 ⟨rfl, rfl⟩
      go_wp2_with fail
      refine (hI _).mono ?_
      rintro e w1 ⟨rfl, rfl⟩
      go_wp2
      refine bodyPost_ret (v := .tuple #[.agg #[.bool false, .slice none 0 0], .int .i64 1]) (by simp [results, Tryd.results9, go_sem]) rfl ⟨none, 0, rfl, Own.nil _ _, hW0⟩
    | false =>
      have hb : fbad x.toNat = false := by unfold fbad; rw [hn, hi]; rfl
      obtain ⟨e1, e2, e3⟩ := fb_good hb
      rw [hi] at hI
      rw [e1, e2, e3]
      have hU := fun W => unitsS_any x W h0 h1
      have hul := lim_len_fu _ (fbad_lt hb)
      have hll := low_len
      have hD := fun v u W h h2 => divMag_any v u (lim (fu x.toNat)) (lim lowP) W h h2 (lim_norm _) (lim_norm _) (by omega) (by omega) (by rw [val_lim]; exact lowP_pos)
      rw [val_lim, val_lim] at hD
      have hG := fun W => negS_any x W h0 h1
      have hB := fun neg v W h => l1Big_any neg v (lim (fu x.toNat / lowP)) W h
      rw [val_lim] at hB
      rw [show fu x.toNat / lowP = fq x.toNat from rfl] at hD hB
      generalize lim (fu x.toNat % lowP) = RR at hD
      have hB1 := fun v W h => hB (fneg x.toNat) v W h
      clear hB
      generalize nz (fneg x.toNat) (fq x.toNat) = sg at hB1 ⊢
      generalize lim (fq x.toNat) = Q at hD hB1 ⊢
      generalize lim (fu x.toNat) = U at hU hD
      have hO := fun W => oneS_any W
      generalize lim lowP = O at hO hD
      generalize fneg x.toNat = ng at hG hB1
      clear e1 e2 e3 hul hll hn hi hb
      go_enter Tryd.func9, Tryd.ntmps9
      go_wp2_with fail
      refine (hN _).mono ?_
      rintro e w1 ⟨rfl, rfl⟩
      go_wp2_with fail
      refine (hI _).mono ?_
      rintro e w1 ⟨rfl, rfl⟩
      go_wp2_with fail
      refine (hU _).mono ?_
      rintro e w2 ⟨a2, c2, rfl, o2, hB2⟩
      go_wp2_with fail
      refine (hO _).mono ?_
      rintro e w3 ⟨a3, c3, rfl, o3, hB3⟩
      have k2 := o2.keep hB3
      go_wp2_with fail
      refine (hD _ _ _ k2.rd o3.rd).mono ?_
      rintro e w4 ⟨a4, c4, a5, c5, rfl, o4, o5, hB4⟩
      go_wp2_with fail
      refine (hG _).mono ?_
      rintro e w5 ⟨rfl, rfl⟩
      go_wp2_with fail
      refine (hB1 _ _ o4.rd).mono ?_
      rintro e w6 ⟨a6, c6, rfl, o6, hB6⟩
      have hW2 := hW0.trans (hB2.mono hW0.size)
      have hW3 := hW2.trans (hB3.mono hW2.size)
      have hW4 := hW3.trans (hB4.mono hW3.size)
      have hW6 := hW4.trans (hB6.mono hW4.size)
      have bx := (((((Box.new w (.bool false) (.slice none 0 0) 25).keep hB2).keep hB3).keep hB4).keep hB6)
      have hs4 := ((((Box.new w (.bool false) (.slice none 0 0) 25).keep hB2).keep hB3).keep hB4).1
      have fx := ((((Unf.new w #[.bool false, .slice none 0 0] 25).keep hB2).keep hB3).keep hB4).keep hB6
      obtain ⟨hz1, p0, p1⟩ := bx
      have hf1 := fx.2
      clear hU hO hD hG hB1 hN hI
      go_wp2
      refine bodyPost_ret (v := .tuple #[.agg #[.bool sg, .slice a6 Q.length c6], .int .i64 0]) (by simp [results, Tryd.results9, go_sem, p0, p1, hz1]) rfl ⟨a6, c6, rfl, ?_, ?_⟩
      · exact (((o6.setBelow hs4 _).setBelow hs4 _)).mono (by have := hW4.size; omega)
      · exact (hW6.setCell (by simp) _).setCell (by simp) _
end Go.Proofs.YtkjbbmmidjeecaaDoor
