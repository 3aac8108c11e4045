import Derived.Test.YtjnalkeopehlbaaGnA
import Derived.Test.YtjnalkeopehlbaaHelpZ
namespace Go.Proofs.Ytjnalkeopehlbaa
open Go.RowKit Go.Maps
set_option linter.unusedVariables false
set_option linter.unusedSimpArgs false

set_option maxRecDepth 100000 in
theorem heldGeS_any (v : Value) (n : Nat) (k0 : Int) (w : World) (hr : RdGe w v (mksGe k0 n)) (h0 : 0 ≤ k0) (h1 : k0 ≤ 33554432) :
    Calls Try.prog 21 #[v, .int .i64 k0] w fun e w' => e = .returned (.int .i64 (k0 + 2 * n)) ∧ Below w.heap.size w w' := by
  obtain ⟨a, cap, rfl, hl, hz, hn0, hc⟩ := hr
  rw [mksGe_length] at *
  go_enter Try.func21, Try.ntmps21
  go_wp2
  go_loopw [1, 5] (fun q i wr => ∃ k : Nat, k ≤ n ∧ q = .int .i64 (k0 + 2 * k) ∧ i = .int .i64 k ∧ Below w.heap.size w wr)
    (fun _ i _ => n - (intOf i).toNat)
  case atStart => exact ⟨0, Nat.zero_le _, by simp, rfl, Below.refl _ _⟩
  case round =>
    obtain ⟨k, hk, rfl, rfl, hBr⟩ := hrel
    by_cases hlt : k < n
    · obtain ⟨b, off, rfl, hb, hcell⟩ := hc (by first | omega | (rw [mksGe_length]; omega))
      have hkl : k < (mksGe k0 n).length := by rw [mksGe_length]; exact hlt
      obtain ⟨c0, c1⟩ := RdGe.at (fun k hk j hj => (hBr.cell (p := ⟨b, _, none⟩) hb).trans (hcell k hk j hj)) k hkl
      have hg : (mksGe k0 n)[k] = mkGe k0 k := by simp [mksGe]
      rw [hg] at c0 c1
      simp only [mkGe] at c0 c1
      clear hcell hc hg
      go_wp2
      go_roundw
      case rel => exact ⟨k + 1, by omega, by go_num, by go_num, hBr⟩
      case measure => simp [intOf]; omega
    · obtain rfl : k = n := by omega
      go_wp2
      go_ret
      exact ⟨rfl, hBr⟩
theorem apartI {α : Type} {S : Sh α} {T : TypeId} {w : World} {B B' : Nat} {v u : Value} {xs : List Int} {ys : List α} (h : Own w B v xs) (k : OwnG S T w B' u ys) (hT : T ≠ 2) : v.ownBlock = none ∨ v.ownBlock ≠ u.ownBlock := by
  rcases h.1.2 with ⟨e, _⟩ | ⟨g, cap, cur, e, _, hh, _⟩
  · subst e; exact .inl rfl
  · rcases k.1.2 with ⟨e', _⟩ | ⟨g', cap', cur', e', _, hh', _⟩
    · subst e e'; right; simp [Value.ownBlock]
    · subst e e'
      right
      intro hb
      simp [Value.ownBlock] at hb
      subst hb
      rw [hh] at hh'
      simp at hh'
      exact hT hh'.2.symm
theorem apartG {α β : Type} {S : Sh α} {S' : Sh β} {T T' : TypeId} {w : World} {B B' : Nat} {v u : Value} {xs : List α} {ys : List β} (h : OwnG S T w B v xs) (k : OwnG S' T' w B' u ys) (hT : T ≠ T') : v.ownBlock = none ∨ v.ownBlock ≠ u.ownBlock := by
  cases hv : v.ownBlock with
  | none => exact .inl rfl
  | some g =>
    right
    intro e
    obtain ⟨cur, h1⟩ := h.objT hv
    obtain ⟨cur', h2⟩ := k.objT e.symm
    rw [h1] at h2
    simp only [Option.some.injEq, Obj.cells.injEq] at h2
    exact hT h2.2.1
theorem apartH {α : Type} {S : Sh α} {T : TypeId} {w : World} {B B' : Nat} {v u : Value} {xs : List α} {ys : List Int} (h : OwnG S T w B v xs) (k : Own w B' u ys) (hT : T ≠ 2) : v.ownBlock = none ∨ v.ownBlock ≠ u.ownBlock := by
  cases hv : v.ownBlock with
  | none => exact .inl rfl
  | some g =>
    right
    intro e
    rcases apartI k h hT with h1 | h1
    · rw [h1] at e; cases e
    · exact h1 (by rw [← e, hv])
theorem ansG_len (es : List Gp) : (ansG es).length ≤ 2000 := by
  unfold ansG
  split
  · rw [outA_len]; assumption
  · exact Nat.zero_le _
set_option maxRecDepth 100000 in
set_option maxHeartbeats 2000000 in
theorem law_gcrun (a1 : Option Addr) (c1 : Nat) (hs : List Gp) (w : World) (h1 : hs.length ≤ 9223372036854775807) (hr1 : hs.length ≤ 1048576 → RdGo w (.slice a1 hs.length c1) hs) :
    Calls Try.prog 4 #[.slice a1 hs.length c1] w fun e w' => e = .returned (.bool true) ∧ Below w.heap.size w w' := by
  have HZ := fun W => szGoS_any a1 hs.length c1 1048576 W h1 (by omega) (by omega)
  have HT := fun W g => toGoS_any (.slice a1 hs.length c1) hs W g
  by_cases hl : (1048576 : Int) < hs.length
  · simp only [if_pos hl] at HZ
    go_enter Try.func4, Try.ntmps4
    go_wp2_with fail
    refine (HZ _).mono ?_
    rintro e w ⟨rfl, rfl⟩
    go_wp2_with fail
    go_ret
    exact ⟨rfl, Below.refl _ _⟩
  · simp only [if_neg hl] at HZ
    have hr0 := hr1 (by omega)
    have HS := fun V W r => gcRunS_any V hs W r
    have HI := fun V W r => gcRunI_any V hs W r
    have hzl := ansG_len hs
    unfold RnP at HS HI
    generalize ansG hs = Z at HS HI hzl
    generalize evG hs = E at HS HI
    have hx0 : ¬ ((1048576 : Int) - hs.length < 0) := by omega
    go_enter Try.func4, Try.ntmps4
    go_wp2_with fail
    refine (HZ _).mono ?_
    rintro e w ⟨rfl, rfl⟩
    go_wp2_with fail
    refine (HT _ hr0).mono ?_
    rintro e w2 ⟨b2, d2, rfl, O2, hB2⟩
    go_wp2_with fail
    refine (HS _ _ O2.rd).mono ?_
    rintro e w4 ⟨b4, d4, f4, g4, rfl, OW, PW, hB4⟩
    have V4 := hB2.trans (hB4.mono hB2.size)
    have R0 := OW.rd
    have P0 := PW.rd
    clear O2 hB2 hB4
    go_wp2_with fail
    refine (HT _ (hr0.keep V4)).mono ?_
    rintro e w5 ⟨b5, d5, rfl, OX, hB5⟩
    have V5 := V4.trans (hB5.mono V4.size)
    have Y5 := hB5
    go_wp2_with fail
    refine (HI _ _ OX.rd).mono ?_
    rintro e w7 ⟨b7, d7, f7, g7, rfl, OG, PG, hB7⟩
    have hel := PG.2.1
    have V7 := V5.trans (hB7.mono V5.size)
    have Y7 := Y5.trans (hB7.mono Y5.size)
    have OX7 := OX.keep hB7
    have V4z := V4.size
    have V5z := V5.size
    have Y5z := Y5.size
    clear OX V4 V5 Y5 hB5 hB7
    go_wp2_with fail
    refine (eqS_any _ _ _ _ _ OG.rd (R0.keep Y7)).mono ?_
    rw [decide_eq_true rfl]
    rintro e w8 ⟨rfl, hB8⟩
    have V8 := V7.trans (hB8.mono V7.size)
    have Y8 := Y7.trans (hB8.mono Y7.size)
    have OX8 := OX7.keep hB8
    have OG8 := Own.keep OG hB8
    have PG8 := PG.keep hB8
    clear OX7 OG PG V7 Y7 hB8
    go_wp2_with fail
    refine (eqGeS_any _ _ _ _ _ PG8.rd (P0.keep Y8)).mono ?_
    rw [decide_eq_true rfl]
    rintro e w9 ⟨rfl, hB9⟩
    have V9 := V8.trans (hB9.mono V8.size)
    have Y9 := Y8.trans (hB9.mono Y8.size)
    have OX9 := OX8.keep hB9
    have OG9 := Own.keep OG8 hB9
    have PG9 := PG8.keep hB9
    clear OX8 OG8 PG8 V8 Y8 hB9
    go_wp2_with fail
    refine (HT _ (hr0.keep V9)).mono ?_
    rintro e w10 ⟨b10, d10, rfl, O10, hB10⟩
    have V10 := V9.trans (hB10.mono V9.size)
    have Y10 := Y9.trans (hB10.mono Y9.size)
    have OX10 := OX9.keep hB10
    have OG10 := Own.keep OG9 hB10
    have PG10 := PG9.keep hB10
    clear OX9 OG9 PG9 V9 Y9 hB10
    go_wp2_with fail
    refine (eqGoS_any _ _ _ _ _ OX10.rd O10.rd).mono ?_
    rw [decide_eq_true rfl]
    rintro e w11 ⟨rfl, hB11⟩
    have V11 := V10.trans (hB11.mono V10.size)
    have Y11 := Y10.trans (hB11.mono Y10.size)
    have OX11 := OX10.keep hB11
    have OG11 := Own.keep OG10 hB11
    have PG11 := PG10.keep hB11
    clear OX10 OG10 PG10 V10 Y10 hB11 O10
    go_wp2_with fail
    refine (markGoS_any 45 w4.heap.size _ _ _ _ 1 _ OX11 (by omega) (by omega) rfl).mono ?_
    rintro e w13 ⟨rfl, -, hg13⟩
    have V13 : Below w.heap.size w w13 := V11.grown hg13 V11.size (fun k hk => Nat.le_trans V4z (OX11.lt k hk).1)
    have Y13 : Below w4.heap.size w4 w13 := Y11.grown hg13 Y11.size (fun k hk => (OX11.lt k hk).1)
    have OG13 := Own.but OG11 hg13 (apartI OG11 OX11 (by decide))
    have PG13 := PG11.but hg13 (apartG PG11 OX11 (by decide))
    have hk0 : ¬ ((1 : Int) + 3 * (hs.length : Int) < 0) := by omega
    clear V11 Y11 OX11 OG11 PG11 hg13
    go_wp2_with fail
    refine (eqS_any _ _ _ _ _ OG13.rd (R0.keep Y13)).mono ?_
    rw [decide_eq_true rfl]
    rintro e w14 ⟨rfl, hB14⟩
    have V14 := V13.trans (hB14.mono V13.size)
    have Y14 := Y13.trans (hB14.mono Y13.size)
    have OG14 := Own.keep OG13 hB14
    have PG14 := PG13.keep hB14
    clear V13 Y13 OG13 PG13 hB14
    go_wp2_with fail
    refine (eqGeS_any _ _ _ _ _ PG14.rd (P0.keep Y14)).mono ?_
    rw [decide_eq_true rfl]
    rintro e w15 ⟨rfl, hB15⟩
    have V15 := V14.trans (hB15.mono V14.size)
    have Y15 := Y14.trans (hB15.mono Y14.size)
    have OG15 := Own.keep OG14 hB15
    have PG15 := PG14.keep hB15
    clear V14 Y14 OG14 PG14 hB15
    go_wp2_with fail
    refine (markS_any w5.heap.size _ _ _ _ 1 _ OG15 (by omega) (by omega)).mono ?_
    rintro e w16 ⟨rfl, OG16, hg16⟩
    have V16 : Below w.heap.size w w16 := V15.grown hg16 V15.size (fun k hk => Nat.le_trans V5z (Own.lt OG15 k hk).1)
    have Y16 : Below w4.heap.size w4 w16 := Y15.grown hg16 Y15.size (fun k hk => Nat.le_trans Y5z (Own.lt OG15 k hk).1)
    have PG16 := PG15.but hg16 (apartH PG15 OG15 (by decide))
    clear V15 Y15 OG15 PG15 hg16
    go_wp2_with fail
    refine (markGeS_any 49 w5.heap.size _ _ _ _ (1 + (Z.length : Int)) _ PG16 (by omega) (by omega) rfl).mono ?_
    rintro e w17 ⟨rfl, PG17, hg17⟩
    have V17 : Below w.heap.size w w17 := V16.grown hg17 V16.size (fun k hk => Nat.le_trans V5z (PG16.lt k hk).1)
    have Y17 : Below w4.heap.size w4 w17 := Y16.grown hg17 Y16.size (fun k hk => Nat.le_trans Y5z (PG16.lt k hk).1)
    have OG17 := Own.but OG16 hg17 (apartI OG16 PG16 (by decide))
    clear V16 Y16 OG16 PG16 hg17
    have hk1 : ¬ ((1 : Int) + (Z.length : Int) < 0) := by omega
    have hk2 : ¬ ((1 : Int) + (Z.length : Int) + 2 * (E.length : Int) < 0) := by omega
    go_wp2_with fail
    refine (heldS_any _ _ 1 Z.length _ OG17.rd (by omega) (by omega) rfl).mono ?_
    rintro e w18 ⟨rfl, hB18⟩
    have V18 := V17.trans (hB18.mono V17.size)
    have Y18 := Y17.trans (hB18.mono Y17.size)
    have OG18 := Own.keep OG17 hB18
    have PG18 := PG17.keep hB18
    clear V17 Y17 OG17 PG17 hB18
    go_wp2_with fail
    refine (heldGeS_any _ E.length (1 + (Z.length : Int)) _ PG18.rd (by omega) (by omega)).mono ?_
    rintro e w19 ⟨rfl, hB19⟩
    have V19 := V18.trans (hB19.mono V18.size)
    have Y19 := Y18.trans (hB19.mono Y18.size)
    have OG19 := Own.keep OG18 hB19
    have PG19 := PG18.keep hB19
    clear V18 Y18 OG18 PG18 hB19
    go_wp2_with fail
    refine (HT _ (hr0.keep V19)).mono ?_
    rintro e w20 ⟨b20, d20, rfl, O20, hB20⟩
    have V20 := V19.trans (hB20.mono V19.size)
    have Y20 := Y19.trans (hB20.mono Y19.size)
    have OG20 := Own.keep OG19 hB20
    have PG20 := PG19.keep hB20
    clear V19 Y19 OG19 PG19 hB20
    go_wp2_with fail
    refine (HI _ _ O20.rd).mono ?_
    rintro e w21 ⟨b21, d21, f21, g21, rfl, O21, P21, hB21⟩
    have V21 := V20.trans (hB21.mono V20.size)
    have Y21 := Y20.trans (hB21.mono Y20.size)
    have OG21 := Own.keep OG20 hB21
    have PG21 := PG20.keep hB21
    clear V20 Y20 OG20 PG20 hB21 O20
    go_wp2_with fail
    refine (eqS_any _ _ _ _ _ O21.rd (R0.keep Y21)).mono ?_
    rw [decide_eq_true rfl]
    rintro e w22 ⟨rfl, hB22⟩
    have V22 := V21.trans (hB22.mono V21.size)
    have Y22 := Y21.trans (hB22.mono Y21.size)
    have OG22 := Own.keep OG21 hB22
    have PG22 := PG21.keep hB22
    have P22 := P21.keep hB22
    clear V21 Y21 OG21 PG21 P21 hB22
    go_wp2_with fail
    refine (eqGeS_any _ _ _ _ _ P22.rd (P0.keep Y22)).mono ?_
    rw [decide_eq_true rfl]
    rintro e w23 ⟨rfl, hB23⟩
    have V23 := V22.trans (hB23.mono V22.size)
    have OG23 := Own.keep OG22 hB23
    have PG23 := PG22.keep hB23
    clear V22 Y22 OG22 PG22 hB23
    go_wp2_with fail
    refine (heldS_any _ _ 1 Z.length _ OG23.rd (by omega) (by omega) rfl).mono ?_
    rintro e w24 ⟨rfl, hB24⟩
    have V24 := V23.trans (hB24.mono V23.size)
    have PG24 := PG23.keep hB24
    go_wp2_with fail
    refine (heldGeS_any _ E.length (1 + (Z.length : Int)) _ PG24.rd (by omega) (by omega)).mono ?_
    rintro e w25 ⟨rfl, hB25⟩
    go_wp2_with fail
    go_ret
    exact ⟨rfl, V24.trans (hB25.mono V24.size)⟩
end Go.Proofs.Ytjnalkeopehlbaa
