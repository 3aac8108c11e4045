import Derived.Test.YtjnalkeopehlbaaGrN
import Derived.Test.YtjnalkeopehlbaaHelpZ
namespace Go.Proofs.Ytjnalkeopehlbaa
open Go.RowKit Go.Maps
set_option linter.unusedVariables false
set_option linter.unusedSimpArgs false

theorem toS_any (v : Value) (zs : List Int) (w : World) (hr : Rd w v zs) :
    Calls Try.prog 10 #[v] w fun e w' => ∃ a c, e = .returned (.slice a zs.length c) ∧ Own w' w.heap.size (.slice a zs.length c) zs ∧ Below w.heap.size w w' := by
  obtain ⟨a, cap, rfl, hl, hz, hn0, hc⟩ := hr
  obtain ⟨i0, hi, hz0, hz1, hz2⟩ := info_parts Try.info2
  go_enter Try.func10, Try.ntmps10
  go_wp2_with (at_make; refine wpList_make_full _ rfl _ _ 23 rfl w.heap.size 2 i0 (.int .i64 0) 1 Try.underlying23 hi hz0 hz1 .i64 .i64 _ _ zs.length rfl rfl rfl rfl (by rw [hz2]; omega) (by unfold maxLen; omega) (Nat.le_refl _) ?_; intro w1 hown hgrow)
  have hO : Own w1 w.heap.size _ (List.replicate zs.length 0) := Own.made hl hown
  have hB : Below w.heap.size w w1 := (Below.refl _ _).grown hgrow (Nat.le_refl _) (by intro k h; cases h)
  clear hown hgrow
  go_loopw [4] (fun i wr => ∃ k : Nat, k ≤ zs.length ∧ i = .int .i64 k ∧ Own wr w.heap.size (.slice (some ⟨w.heap.size, 0, none⟩) zs.length zs.length) (zs.take k ++ List.replicate (zs.length - k) 0) ∧ Below w.heap.size w wr)
    (fun i _ => zs.length - (intOf i).toNat)
  case atStart => exact ⟨0, Nat.zero_le _, rfl, by simpa using hO, hB⟩
  case round =>
    obtain ⟨k, hk, rfl, hOr, hBr⟩ := hrel
    clear hO hB
    by_cases hlt : k < zs.length
    · obtain ⟨b, off, rfl, hb, hcell⟩ := hc (by omega)
      have hce : wr.cell? ⟨b, off + k, none⟩ = some (.int .i64 (zs.getD k 0)) := (hBr.cell (p := ⟨b, off + k, none⟩) hb).trans (hcell k hlt)
      obtain ⟨u, hu⟩ : ∃ u, wr.cell? ⟨w.heap.size, k, none⟩ = some u := ⟨_, hOr.cell k (by simp; omega)⟩
      have hfz := hOr.frozen k
      have hzk := hz.get k
      go_wp2
      go_roundw
      case rel =>
        refine ⟨k + 1, by omega, by go_num, ?_, hBr.setCell (Nat.le_refl _) _⟩
        have := hOr.store k hzk.1 hzk.2
        rw [set_take_replicate zs _ k rfl hlt] at this
        simpa [List.getD, hlt] using this
      case measure => simp [intOf]; omega
    · go_wp2
      go_ret
      have hk' : k = zs.length := by omega
      subst hk'
      exact ⟨_, _, rfl, by simpa using hOr, hBr⟩

theorem apart {α : Type} {S : Sh α} {T : TypeId} {w : World} {B B' : Nat} {v u : Value} {xs : List Int} {ys : List α} (h : Own w B v xs) (k : OwnG S T w B' u ys) (hT : T ≠ 2) : v.ownBlock = none ∨ v.ownBlock ≠ u.ownBlock := by
  rcases h.1.2 with ⟨e, _⟩ | ⟨g, cap, cur, e, _, hh, _⟩
  · subst e; exact .inl rfl
  · rcases k.1.2 with ⟨e', _⟩ | ⟨g', cap', cur', e', _, hh', _⟩
    · subst e e'; right; simp [Value.ownBlock]
    · subst e e'
      right
      intro hb
      simp [Value.ownBlock] at hb
      subst hb
      rw [hh] at hh'
      simp at hh'
      exact hT hh'.2.symm

theorem apartZ {w : World} {B B' : Nat} {v u : Value} {xs ys : List Int} (h : Own w B v xs) (k : ∀ q, u.ownBlock = some q → q < B) : v.ownBlock = none ∨ v.ownBlock ≠ u.ownBlock := by
  cases hv : v.ownBlock with
  | none => exact .inl rfl
  | some g =>
    right
    intro e
    have h1 := (Own.lt h g hv).1
    have h2 := k g e.symm
    omega
set_option maxRecDepth 100000 in
set_option maxHeartbeats 2000000 in
theorem law_gcreach (n : Int) (a1 : Option Addr) (c1 : Nat) (hs : List Gp) (a2 : Option Addr) (c2 : Nat) (rs : List Int) (w : World) (h1 : hs.length ≤ 9223372036854775807) (h2 : rs.length ≤ 9223372036854775807) (hr1 : hs.length ≤ 1048576 → RdGo w (.slice a1 hs.length c1) hs) (hr2 : rs.length ≤ 1048576 → Rd w (.slice a2 rs.length c2) rs) :
    Calls Try.prog 3 #[.int .i64 n, .slice a1 hs.length c1, .slice a2 rs.length c2] w fun e w' => e = .returned (.bool true) ∧ Below w.heap.size w w' := by
  have HZ := fun W => szGoS_any a1 hs.length c1 1048576 W h1 (by omega) (by omega)
  have HT := fun W g => toGoS_any (.slice a1 hs.length c1) hs W g
  have HU := fun W g => toS_any (.slice a2 rs.length c2) rs W g
  by_cases hl2 : (1048576 : Int) < rs.length
  · go_enter Try.func3, Try.ntmps3
    go_wp2_with fail
    go_ret
    exact ⟨rfl, Below.refl _ _⟩
  by_cases hl : (1048576 : Int) < hs.length
  · simp only [if_pos hl] at HZ
    go_enter Try.func3, Try.ntmps3
    go_wp2_with fail
    refine (HZ _).mono ?_
    rintro e w ⟨rfl, rfl⟩
    go_wp2_with fail
    go_ret
    exact ⟨rfl, Below.refl _ _⟩
  · simp only [if_neg hl] at HZ
    have hr0 := hr1 (by omega)
    have hq0 := hr2 (by omega)
    have HS := fun V U W r q => reachS_any n V U hs rs W r q (by omega) (by omega)
    have HI := fun V U W r q => reachI_any n V U hs rs W r q (by omega) (by omega)
    have hzl := ansR_len n hs rs
    generalize ansR n hs rs = Z at HS HI hzl
    have hx0 : ¬ ((1048576 : Int) - hs.length < 0) := by omega
    go_enter Try.func3, Try.ntmps3
    go_wp2_with fail
    refine (HZ _).mono ?_
    rintro e w ⟨rfl, rfl⟩
    go_wp2_with fail
    refine (HT _ hr0).mono ?_
    rintro e w2 ⟨b2, d2, rfl, O2, hB2⟩
    go_wp2_with fail
    refine (HU _ (hq0.keep hB2)).mono ?_
    rintro e w3 ⟨b3, d3, rfl, O3, hB3⟩
    have V3 := hB2.trans (hB3.mono hB2.size)
    have O23 := O2.keep hB3
    go_wp2_with fail
    refine (HS _ _ _ O23.rd O3.rd).mono ?_
    rintro e w4 ⟨b4, d4, rfl, OW, hB4⟩
    have V4 := V3.trans (hB4.mono V3.size)
    have R0 := OW.rd
    clear O2 O23 O3 hB2 hB3 hB4 V3
    go_wp2_with fail
    refine (HT _ (hr0.keep V4)).mono ?_
    rintro e w5 ⟨b5, d5, rfl, OX, hB5⟩
    have V5 := V4.trans (hB5.mono V4.size)
    have Y5 := hB5
    go_wp2_with fail
    refine (HU _ (hq0.keep V5)).mono ?_
    rintro e w6 ⟨b6, d6, rfl, OY, hB6⟩
    have V6 := V5.trans (hB6.mono V5.size)
    have Y6 := Y5.trans (hB6.mono Y5.size)
    have OX6 := OX.keep hB6
    have lY := fun q hq => (Own.lt OY q hq).2
    go_wp2_with fail
    refine (HI _ _ _ OX6.rd OY.rd).mono ?_
    rintro e w7 ⟨b7, d7, rfl, OG, hB7⟩
    have V7 := V6.trans (hB7.mono V6.size)
    have Y7 := Y6.trans (hB7.mono Y6.size)
    have OX7 := OX6.keep hB7
    have OY7 := Own.keep OY hB7
    have V4z := V4.size
    have V5z := V5.size
    have V6z := V6.size
    have Y5z := Y5.size
    have Y6z := Y6.size
    clear OX OY OX6 V4 V5 V6 Y5 Y6 hB5 hB6 hB7
    go_wp2_with fail
    refine (eqS_any _ _ _ _ _ OG.rd (R0.keep Y7)).mono ?_
    rw [decide_eq_true rfl]
    rintro e w8 ⟨rfl, hB8⟩
    have V8 := V7.trans (hB8.mono V7.size)
    have Y8 := Y7.trans (hB8.mono Y7.size)
    have OX8 := OX7.keep hB8
    have OY8 := Own.keep OY7 hB8
    have OG8 := Own.keep OG hB8
    clear OX7 OY7 OG V7 Y7 hB8
    go_wp2_with fail
    refine (HT _ (hr0.keep V8)).mono ?_
    rintro e w9 ⟨b9, d9, rfl, O9, hB9⟩
    have V9 := V8.trans (hB9.mono V8.size)
    have Y9 := Y8.trans (hB9.mono Y8.size)
    have OX9 := OX8.keep hB9
    have OY9 := Own.keep OY8 hB9
    have OG9 := Own.keep OG8 hB9
    clear OX8 OY8 OG8 V8 Y8 hB9
    go_wp2_with fail
    refine (eqGoS_any _ _ _ _ _ OX9.rd O9.rd).mono ?_
    rw [decide_eq_true rfl]
    rintro e w10 ⟨rfl, hB10⟩
    have V10 := V9.trans (hB10.mono V9.size)
    have Y10 := Y9.trans (hB10.mono Y9.size)
    have OX10 := OX9.keep hB10
    have OY10 := Own.keep OY9 hB10
    have OG10 := Own.keep OG9 hB10
    clear OX9 OY9 OG9 V9 Y9 hB10 O9
    go_wp2_with fail
    refine (HU _ (hq0.keep V10)).mono ?_
    rintro e w11 ⟨b11, d11, rfl, O11, hB11⟩
    have V11 := V10.trans (hB11.mono V10.size)
    have Y11 := Y10.trans (hB11.mono Y10.size)
    have OX11 := OX10.keep hB11
    have OY11 := Own.keep OY10 hB11
    have OG11 := Own.keep OG10 hB11
    clear OX10 OY10 OG10 V10 Y10 hB11
    go_wp2_with fail
    refine (eqS_any _ _ _ _ _ OY11.rd O11.rd).mono ?_
    rw [decide_eq_true rfl]
    rintro e w12 ⟨rfl, hB12⟩
    have V12 := V11.trans (hB12.mono V11.size)
    have Y12 := Y11.trans (hB12.mono Y11.size)
    have OX12 := OX11.keep hB12
    have OY12 := Own.keep OY11 hB12
    have OG12 := Own.keep OG11 hB12
    clear OX11 OY11 OG11 V11 Y11 hB12 O11
    go_wp2_with fail
    refine (markGoS_any 45 w4.heap.size _ _ _ _ 1 _ OX12 (by omega) (by omega) rfl).mono ?_
    rintro e w13 ⟨rfl, -, hg13⟩
    have V13 : Below w.heap.size w w13 := V12.grown hg13 V12.size (fun k hk => Nat.le_trans V4z (OX12.lt k hk).1)
    have Y13 : Below w4.heap.size w4 w13 := Y12.grown hg13 Y12.size (fun k hk => (OX12.lt k hk).1)
    have OG13 := Own.but OG12 hg13 (apart OG12 OX12 (by decide))
    have OY13 := Own.but OY12 hg13 (apart OY12 OX12 (by decide))
    clear V12 Y12 OX12 OG12 OY12 hg13
    go_wp2_with fail
    refine (markS_any w5.heap.size _ _ _ _ (1 + 3 * (hs.length : Int)) _ OY13 (by omega) (by omega)).mono ?_
    rintro e w14 ⟨rfl, -, hg14⟩
    have V14 : Below w.heap.size w w14 := V13.grown hg14 V13.size (fun k hk => Nat.le_trans V5z (Own.lt OY13 k hk).1)
    have Y14 : Below w4.heap.size w4 w14 := Y13.grown hg14 Y13.size (fun k hk => Nat.le_trans Y5z (Own.lt OY13 k hk).1)
    have OG14 := Own.but OG13 hg14 (apartZ (B' := 0) (ys := rs) OG13 lY)
    have hk0 : ¬ ((1 : Int) + 3 * (hs.length : Int) + (rs.length : Int) < 0) := by omega
    clear V13 Y13 OG13 OY13 hg14
    go_wp2_with fail
    refine (eqS_any _ _ _ _ _ OG14.rd (R0.keep Y14)).mono ?_
    rw [decide_eq_true rfl]
    rintro e w15 ⟨rfl, hB15⟩
    have V15 := V14.trans (hB15.mono V14.size)
    have Y15 := Y14.trans (hB15.mono Y14.size)
    have OG15 := Own.keep OG14 hB15
    clear V14 Y14 OG14 hB15
    go_wp2_with fail
    refine (markS_any w6.heap.size _ _ _ _ 1 _ OG15 (by omega) (by omega)).mono ?_
    rintro e w16 ⟨rfl, OG16, hg16⟩
    have V16 : Below w.heap.size w w16 := V15.grown hg16 V15.size (fun k hk => Nat.le_trans V6z (Own.lt OG15 k hk).1)
    have Y16 : Below w4.heap.size w4 w16 := Y15.grown hg16 Y15.size (fun k hk => Nat.le_trans Y6z (Own.lt OG15 k hk).1)
    clear V15 Y15 OG15 hg16
    go_wp2_with fail
    refine (heldS_any _ _ 1 Z.length _ OG16.rd (by omega) (by omega) rfl).mono ?_
    rintro e w17 ⟨rfl, hB17⟩
    have V17 := V16.trans (hB17.mono V16.size)
    have Y17 := Y16.trans (hB17.mono Y16.size)
    have OG17 := Own.keep OG16 hB17
    have hk1 : ¬ ((1 : Int) + (Z.length : Int) < 0) := by omega
    clear V16 Y16 OG16 hB17
    go_wp2_with fail
    refine (HT _ (hr0.keep V17)).mono ?_
    rintro e w18 ⟨b18, d18, rfl, O18, hB18⟩
    have V18 := V17.trans (hB18.mono V17.size)
    have Y18 := Y17.trans (hB18.mono Y17.size)
    have OG18 := Own.keep OG17 hB18
    clear V17 Y17 OG17 hB18
    go_wp2_with fail
    refine (HU _ (hq0.keep V18)).mono ?_
    rintro e w19 ⟨b19, d19, rfl, O19, hB19⟩
    have V19 := V18.trans (hB19.mono V18.size)
    have Y19 := Y18.trans (hB19.mono Y18.size)
    have OG19 := Own.keep OG18 hB19
    have O189 := O18.keep hB19
    clear V18 Y18 OG18 hB19 O18
    go_wp2_with fail
    refine (HI _ _ _ O189.rd O19.rd).mono ?_
    rintro e w20 ⟨b20, d20, rfl, O20, hB20⟩
    have V20 := V19.trans (hB20.mono V19.size)
    have Y20 := Y19.trans (hB20.mono Y19.size)
    have OG20 := Own.keep OG19 hB20
    go_wp2_with fail
    refine (eqS_any _ _ _ _ _ O20.rd (R0.keep Y20)).mono ?_
    rw [decide_eq_true rfl]
    rintro e w21 ⟨rfl, hB21⟩
    have V21 := V20.trans (hB21.mono V20.size)
    have OG21 := Own.keep OG20 hB21
    go_wp2_with fail
    refine (heldS_any _ _ 1 Z.length _ OG21.rd (by omega) (by omega) rfl).mono ?_
    rintro e w22 ⟨rfl, hB22⟩
    go_wp2_with fail
    go_ret
    exact ⟨rfl, V21.trans (hB22.mono V21.size)⟩
theorem law_gcreach2 (n : Int) (a1 : Option Addr) (c1 : Nat) (hs : List Gp) (a2 : Option Addr) (c2 : Nat) (rs : List Int) (w : World) (_ : -9223372036854775808 ≤ n ∧ n ≤ 9223372036854775807) (h1 : hs.length ≤ 9223372036854775807) (hr1 : hs.length ≤ 1048576 → RdGo w (.slice a1 hs.length c1) hs) (h2 : rs.length ≤ 9223372036854775807) (hr2 : rs.length ≤ 1048576 → Rd w (.slice a2 rs.length c2) rs) :
    Calls Try.prog 3 #[.int .i64 n, .slice a1 hs.length c1, .slice a2 rs.length c2] w fun e w' => e = .returned (.bool true) ∧ Below w.heap.size w w' := law_gcreach n a1 c1 hs a2 c2 rs w h1 h2 hr1 hr2
end Go.Proofs.Ytjnalkeopehlbaa
