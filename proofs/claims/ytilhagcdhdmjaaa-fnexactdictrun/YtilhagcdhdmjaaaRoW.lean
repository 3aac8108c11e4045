import Derived.Test.YtilhagcdhdmjaaaRoS
namespace Go.Proofs.Ytilhagcdhdmjaaa
open Go.RowKit Go.Maps
set_option linter.unusedVariables false
set_option linter.unusedSimpArgs false

set_option maxRecDepth 100000 in
set_option maxHeartbeats 2000000 in
theorem law_dictrun (a1 : Option Addr) (c1 : Nat) (os : List Op) (w : World) (h1 : os.length ≤ 9223372036854775807) (hr : os.length ≤ 1048576 → RdO w (.slice a1 os.length c1) os) :
    Calls Try.prog 8 #[.slice a1 os.length c1] w fun e w' => e = .returned (.bool true) ∧ Below w.heap.size w w' := by
  have HZ := fun W => szOS_any a1 os.length c1 1048576 W h1 (by omega) (by omega)
  have HT := fun W g => toOS_any (.slice a1 os.length c1) os W g
  have HS := fun V W r => runS_any V os W r
  have HI := fun V W r => runI_any V os W r
  generalize (if 5000 < os.length then [] else outK os os.length) = Z at HS HI
  by_cases hl : (1048576 : Int) < os.length
  · simp only [if_pos hl] at HZ
    go_enter Try.func8, Try.ntmps8
    go_wp2_with fail
    refine (HZ _).mono ?_
    rintro e w ⟨rfl, rfl⟩
    go_wp2_with fail
    go_ret
    exact ⟨rfl, Below.refl _ _⟩
  · simp only [if_neg hl] at HZ
    have hr0 := hr (by omega)
    have hx0 : ¬ ((1048576 : Int) - os.length < 0) := by omega
    go_enter Try.func8, Try.ntmps8
    go_wp2_with fail
    refine (HZ _).mono ?_
    rintro e w ⟨rfl, rfl⟩
    go_wp2_with fail
    refine (HT _ hr0).mono ?_
    rintro e w2 ⟨a2, c2, rfl, O2, hB2⟩
    go_wp2_with fail
    refine (HS _ _ O2.rd).mono ?_
    rintro e w3 ⟨u0, rfl, OW, hB3⟩
    have V3 := hB2.trans (hB3.mono hB2.size)
    have R0 := OW.rd
    obtain ⟨a3, c3, rfl⟩ := OW.form
    clear O2 OW hB3
    go_wp2_with fail
    refine (HT _ (hr0.keep V3)).mono ?_
    rintro e w4 ⟨a4, c4, rfl, OX, hB4⟩
    have V4 := V3.trans (hB4.mono V3.size)
    have Y4 := hB4
    have V3z := V3.size
    have V4z := V4.size
    have Y4z := Y4.size
    go_wp2_with fail
    refine (HI _ _ OX.rd).mono ?_
    rintro e w5 ⟨u1, rfl, OG, hB5⟩
    have V5 := V4.trans (hB5.mono V4.size)
    have Y5 := Y4.trans (hB5.mono Y4.size)
    obtain ⟨a5, c5, rfl⟩ := OG.form
    have OX5 := OX.keep hB5
    have loX := OX.lt
    go_wp2_with fail
    refine (eqS_any _ _ _ _ _ OG.rd (R0.keep Y5)).mono ?_
    rw [decide_eq_true rfl]
    rintro e w6 ⟨rfl, hB6⟩
    have V6 := V5.trans (hB6.mono V5.size)
    have Y6 := Y5.trans (hB6.mono Y5.size)
    have OX6 := OX5.keep hB6
    have OG6 := OG.keep hB6
    go_wp2_with fail
    refine (HT _ (hr0.keep V6)).mono ?_
    rintro e w7 ⟨a7, c7, rfl, O7, hB7⟩
    have V7 := V6.trans (hB7.mono V6.size)
    have Y7 := Y6.trans (hB7.mono Y6.size)
    have OX7 := OX6.keep hB7
    have OG7 := OG6.keep hB7
    go_wp2_with fail
    refine (eqOS_any _ _ _ _ _ OX7.rd O7.rd).mono ?_
    rw [decide_eq_true rfl]
    rintro e w8 ⟨rfl, hB8⟩
    have V8 := V7.trans (hB8.mono V7.size)
    have Y8 := Y7.trans (hB8.mono Y7.size)
    have OX8 := OX7.keep hB8
    have OG8 := OG7.keep hB8
    clear OX5 OX6 OX7 OG OG6 OG7 V3 V4 V5 V6 V7 Y4 Y5 Y6 Y7 hB2 hB4 hB5 hB6 hB7 hB8 O7 OX
    go_wp2_with fail
    refine (markOS_any 59 w3.heap.size _ _ _ _ 1 _ OX8 (by omega) (by omega) rfl).mono ?_
    rintro e w9 ⟨rfl, -, hg9⟩
    have V9 : Below w.heap.size w w9 := V8.grown hg9 V8.size (fun k hk => Nat.le_trans V3z (OX8.lt k hk).1)
    have Y9 : Below w3.heap.size w3 w9 := Y8.grown hg9 Y8.size (fun k hk => (OX8.lt k hk).1)
    have OG9 := OG8.but hg9 (apart OG8 OX8 (by decide))
    have hk0 : ¬ ((1 : Int) + 4 * (os.length : Int) < 0) := by omega
    clear V8 Y8 OX8 OG8 hg9
    go_wp2_with fail
    refine (eqS_any _ _ _ _ _ OG9.rd (R0.keep Y9)).mono ?_
    rw [decide_eq_true rfl]
    rintro e w10 ⟨rfl, hB10⟩
    have V10 := V9.trans (hB10.mono V9.size)
    have Y10 := Y9.trans (hB10.mono Y9.size)
    have OG10 := OG9.keep hB10
    clear V9 Y9 OG9 hB10
    go_wp2_with fail
    refine (markS_any w4.heap.size _ _ _ _ 1 _ OG10 (by omega) (by omega)).mono ?_
    rintro e w11 ⟨rfl, OG11, hg11⟩
    have V11 : Below w.heap.size w w11 := V10.grown hg11 V10.size (fun k hk => Nat.le_trans V4z (OG10.lt k hk).1)
    have Y11 : Below w3.heap.size w3 w11 := Y10.grown hg11 Y10.size (fun k hk => Nat.le_trans Y4z (OG10.lt k hk).1)
    clear V10 Y10 OG10 hg11
    go_wp2_with fail
    refine (heldS_any _ _ 1 Z.length _ OG11.rd (by omega) (by omega) rfl).mono ?_
    rintro e w12 ⟨rfl, hB12⟩
    have V12 := V11.trans (hB12.mono V11.size)
    have Y12 := Y11.trans (hB12.mono Y11.size)
    have OG12 := OG11.keep hB12
    have hk1 : ¬ ((1 : Int) + (Z.length : Int) < 0) := by omega
    clear V11 Y11 OG11 hB12
    go_wp2_with fail
    refine (HT _ (hr0.keep V12)).mono ?_
    rintro e w13 ⟨a8, c8, rfl, O13, hB13⟩
    have V13 := V12.trans (hB13.mono V12.size)
    have Y13 := Y12.trans (hB13.mono Y12.size)
    have OG13 := OG12.keep hB13
    go_wp2_with fail
    refine (HI _ _ O13.rd).mono ?_
    rintro e w14 ⟨u2, rfl, O14, hB14⟩
    obtain ⟨a9, c9, rfl⟩ := O14.form
    have V14 := V13.trans (hB14.mono V13.size)
    have Y14 := Y13.trans (hB14.mono Y13.size)
    have OG14 := OG13.keep hB14
    go_wp2_with fail
    refine (eqS_any _ _ _ _ _ O14.rd (R0.keep Y14)).mono ?_
    rw [decide_eq_true rfl]
    rintro e w15 ⟨rfl, hB15⟩
    have V15 := V14.trans (hB15.mono V14.size)
    have OG15 := OG14.keep hB15
    go_wp2_with fail
    refine (heldS_any _ _ 1 Z.length _ OG15.rd (by omega) (by omega) rfl).mono ?_
    rintro e w16 ⟨rfl, hB16⟩
    go_wp2_with fail
    go_ret
    exact ⟨rfl, V15.trans (hB16.mono V15.size)⟩
end Go.Proofs.Ytilhagcdhdmjaaa
