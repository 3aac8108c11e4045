import Derived.Test.YtfcoffllelgakaaDoorFBigS
namespace Go.Proofs.YtfcoffllelgakaaDoor
open Go.RowKit
set_option linter.unusedVariables false
set_option linter.unusedSimpArgs false

theorem shr63 (x : Int) (h0 : 0 ≤ x) (h1 : x ≤ 18446744073709551615) : ((x / 9223372036854775808) == 1) = fneg x.toNat := by
  unfold fneg
  rcases Int.lt_or_le x 9223372036854775808 with h | h
  · have e1 : x / 9223372036854775808 = 0 := by omega
    have e2 : x.toNat / 9223372036854775808 % 2 = 0 := by omega
    rw [e1, e2]; rfl
  · have e1 : x / 9223372036854775808 = 1 := by omega
    have e2 : x.toNat / 9223372036854775808 % 2 = 1 := by omega
    rw [e1, e2]; rfl
set_option maxHeartbeats 1000000 in
set_option maxRecDepth 100000 in
theorem wholePart_any (x : Int) (aA : Addr) (w : World) (h0 : 0 ≤ x) (h1 : x ≤ 18446744073709551615) (hE : ErrA w aA) :
    Calls Tryd.prog 42 #[.int .u64 x] w fun e w' => ∃ a c u, e = .returned (.tuple #[.agg #[.bool (fbS x.toNat), .slice a (fbL x.toNat).length c], u]) ∧ (u = if fbad x.toNat then errAt aA else .nilIface) ∧ Own w' w.heap.size (.slice a (fbL x.toNat).length c) (fbL x.toNat) ∧ Below w.heap.size w w' := by
  have hW0 := (Below.refl w.heap.size w).alloc (Nat.le_refl _) (Obj.cells #[.bool false, .slice none 0 0] 29)
  have hP := fun W h => floatParts_any x aA W h0 h1 h
  cases hb : fbad x.toNat with
  | true =>
    obtain ⟨e1, e2, e3⟩ := fb_bad hb
    rw [hb] at hP
    simp only [if_true] at hP
    rw [e1, e2]
    go_enter Tryd.func42, Tryd.ntmps42
    go_wp2_with fail
    refine (hP _ (hE.below hW0)).mono ?_
    rintro e w1 ⟨rfl, hB1⟩
    obtain ⟨hz1, p0, p1⟩ := (Box.new w (.bool false) (.slice none 0 0) 29).keep hB1
    have hf1 := ((Unf.new w #[.bool false, .slice none 0 0] 29).keep hB1).2
    have hW1 := hW0.trans (hB1.mono hW0.size)
    clear hP
    go_wp2
    refine bodyPost_ret (v := .tuple #[.agg #[.bool false, .slice none 0 0], errAt aA]) (by simp [results, Tryd.results42, go_sem, p0, p1, hz1]) rfl ⟨none, 0, _, rfl, by simp, Own.nil _ _, ?_⟩
    exact (hW1.setCell (by simp) _).setCell (by simp) _
  | false =>
    obtain ⟨e1, e2, e3⟩ := fb_good hb
    have hfm := fmag_lt x.toNat
    have hqu := fq_up x.toNat
    have hqd := fq_down x.toNat
    have hge := fpl_ge x.toNat
    have hle : fpl x.toNat ≤ 971 := by
      have := fexp_le _ (fbad_lt hb)
      unfold fpl; split <;> omega
    have hlen := fq_len hb
    rw [hb] at hP
    simp only [Bool.false_eq_true, if_false] at hP
    rw [e1, e2]
    have h63 := shr63 x h0 h1
    have hL := fun W => limbsOf_any (fmag x.toNat : Int) W (by omega) (by omega)
    rw [Int.natAbs_natCast] at hL
    have hml : (lim (fmag x.toNat)).length ≤ 2 := lim_len_gen _ 0 2 (by omega) (by decide)
    by_cases hp : 0 ≤ fpl x.toNat
    · obtain ⟨n, hn⟩ : ∃ n : Nat, fpl x.toNat = (n : Int) := ⟨(fpl x.toNat).toNat, by omega⟩
      have hQ := hqu n hn
      have hM := fun v W h => movedUp_any v (lim (fmag x.toNat)) n W h (by omega) (by omega)
      rw [val_lim, ← hQ] at hM
      rw [hn] at hP
      have hS := fun a c W B h hB => signed_any (fneg x.toNat) B (lim (fq x.toNat)).length c a (lim (fq x.toNat)) (fq x.toNat) W h (val_lim _) hB
      obtain ⟨q1, q2, q3⟩ := fit_yes (n := fq x.toNat) (by omega) (fneg x.toNat)
      rw [q1, q2, q3] at hS
      clear q1 q2 q3 hqu hqd hQ e1 e2 e3 hlen hge hle hn hml
      generalize nz (fneg x.toNat) (fq x.toNat) = sg at hS ⊢
      generalize lim (fq x.toNat) = Q at hS hM ⊢
      generalize lim (fmag x.toNat) = M at hL hM
      generalize fmag x.toNat = fm at hP hL hfm
      generalize fneg x.toNat = ng at hS h63
      have hn0 : (0 : Int) ≤ (n : Int) := by omega
      clear hp
      go_enter Tryd.func42, Tryd.ntmps42
      go_wp2_with fail
      refine (hP _ (hE.below hW0)).mono ?_
      rintro e w1 ⟨rfl, hB1⟩
      have hW1 := hW0.trans (hB1.mono hW0.size)
      go_wp2_with fail
      refine (hL _).mono ?_
      rintro e w2 ⟨a2, c2, rfl, o2, hB2⟩
      have hW2 := hW1.trans (hB2.mono hW1.size)
      go_wp2_with fail
      refine (hM _ _ o2.rd).mono ?_
      rintro e w3 ⟨a3, c3, rfl, o3, hB3⟩
      have hW3 := hW2.trans (hB3.mono hW2.size)
      go_wp2_with fail
      refine (hS _ _ _ _ o3 hB3.size).mono ?_
      rintro e w4 ⟨a4, c4, rfl, o4, hB4⟩
      have hW4 := hW3.trans (hB4.mono hW3.size)
      have bx := ((((Box.new w (.bool false) (.slice none 0 0) 29).keep hB1).keep hB2).keep hB3)
      have fx := (((Unf.new w #[.bool false, .slice none 0 0] 29).keep hB1).keep hB2).keep hB3
      have hs2 := ((((Box.new w (.bool false) (.slice none 0 0) 29).keep hB1).keep hB2)).1
      obtain ⟨hz1, p0, p1⟩ := bx.keep hB4
      have hf1 := (fx.keep hB4).2
      clear hP hL hM hS bx fx
      go_wp2
      refine bodyPost_ret (v := .tuple #[.agg #[.bool sg, .slice a4 Q.length c4], .nilIface]) (by simp [results, Tryd.results42, go_sem, p0, p1, hz1]) rfl ⟨a4, c4, _, rfl, by simp, ?_, ?_⟩
      · exact ((((o4.setBelow hs2 _).setBelow hs2 _)).alloc _).mono (by have := hW2.size; omega)
      · exact ((hW4.setCell (Nat.le_refl _) _).setCell (Nat.le_refl _) _).alloc ((hW4.setCell (Nat.le_refl _) _).setCell (Nat.le_refl _) _).size _
    · obtain ⟨n, hn⟩ : ∃ n : Nat, fpl x.toNat = -(n : Int) := ⟨(-fpl x.toNat).toNat, by omega⟩
      have hQ := hqd n hn
      have hM := fun v W h => movedDown_any v (lim (fmag x.toNat)) n W h (by omega) (by omega)
      rw [val_lim, ← hQ] at hM
      rw [hn] at hP
      have hS := fun a c W B h hB => signed_any (fneg x.toNat) B (lim (fq x.toNat)).length c a (lim (fq x.toNat)) (fq x.toNat) W h (val_lim _) hB
      obtain ⟨q1, q2, q3⟩ := fit_yes (n := fq x.toNat) (by omega) (fneg x.toNat)
      rw [q1, q2, q3] at hS
      have hn0 : ¬ (0 : Int) ≤ -(n : Int) := by omega
      have hwn : wrap64 (n : Int) = (n : Int) := by unfold wrap64; omega
      clear q1 q2 q3 hqu hqd hQ e1 e2 e3 hlen hge hle hn hml hp
      generalize nz (fneg x.toNat) (fq x.toNat) = sg at hS ⊢
      generalize lim (fq x.toNat) = Q at hS hM ⊢
      generalize lim (fmag x.toNat) = M at hL hM
      generalize fmag x.toNat = fm at hP hL hfm
      generalize fneg x.toNat = ng at hS h63
      go_enter Tryd.func42, Tryd.ntmps42
      go_wp2_with fail
      refine (hP _ (hE.below hW0)).mono ?_
      rintro e w1 ⟨rfl, hB1⟩
      have hW1 := hW0.trans (hB1.mono hW0.size)
      go_wp2_with fail
      refine (hL _).mono ?_
      rintro e w2 ⟨a2, c2, rfl, o2, hB2⟩
      have hW2 := hW1.trans (hB2.mono hW1.size)
      go_wp2_with fail
      refine (hM _ _ o2.rd).mono ?_
      rintro e w3 ⟨a3, c3, rfl, o3, hB3⟩
      have hW3 := hW2.trans (hB3.mono hW2.size)
      go_wp2_with fail
      refine (hS _ _ _ _ o3 hB3.size).mono ?_
      rintro e w4 ⟨a4, c4, rfl, o4, hB4⟩
      have hW4 := hW3.trans (hB4.mono hW3.size)
      have bx := ((((Box.new w (.bool false) (.slice none 0 0) 29).keep hB1).keep hB2).keep hB3)
      have fx := (((Unf.new w #[.bool false, .slice none 0 0] 29).keep hB1).keep hB2).keep hB3
      have hs2 := ((((Box.new w (.bool false) (.slice none 0 0) 29).keep hB1).keep hB2)).1
      obtain ⟨hz1, p0, p1⟩ := bx.keep hB4
      have hf1 := (fx.keep hB4).2
      clear hP hL hM hS bx fx
      go_wp2
      refine bodyPost_ret (v := .tuple #[.agg #[.bool sg, .slice a4 Q.length c4], .nilIface]) (by simp [results, Tryd.results42, go_sem, p0, p1, hz1]) rfl ⟨a4, c4, _, rfl, by simp, ?_, ?_⟩
      · exact ((((o4.setBelow hs2 _).setBelow hs2 _)).alloc _).mono (by have := hW2.size; omega)
      · exact ((hW4.setCell (Nat.le_refl _) _).setCell (Nat.le_refl _) _).alloc ((hW4.setCell (Nat.le_refl _) _).setCell (Nat.le_refl _) _).size _
end Go.Proofs.YtfcoffllelgakaaDoor
