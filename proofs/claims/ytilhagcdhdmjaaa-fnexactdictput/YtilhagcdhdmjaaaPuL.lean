import Derived.Test.YtilhagcdhdmjaaaPuS
import Derived.Test.YtilhagcdhdmjaaaToD
import Derived.Test.YtilhagcdhdmjaaaNdL
namespace Go.Proofs.Ytilhagcdhdmjaaa
open Go.RowKit Go.Maps
set_option linter.unusedVariables false
set_option linter.unusedSimpArgs false

theorem OwnD.keepF {w w' : World} {B : Nat} {v : Value} {d : Dt} (h : OwnD w B v d) (hk : ∀ g, B ≤ g → g < w.heap.size → w'.heap[g]? = w.heap[g]?) : OwnD w' B v d := by
  obtain ⟨vs, ve, e, ⟨⟨s1, s2⟩, s3⟩, ⟨⟨t1, t2⟩, t3⟩, hne⟩ := h
  have lt : ∀ {g : Nat} {o : Obj}, w.heap[g]? = some o → g < w.heap.size := fun {g o} hh => by
    rcases Nat.lt_or_ge g w.heap.size with h | h
    · exact h
    · rw [Array.getElem?_eq_none h] at hh; cases hh
  refine ⟨vs, ve, e, ⟨⟨s1, ?_⟩, s3⟩, ⟨⟨t1, ?_⟩, t3⟩, hne⟩
  · rcases s2 with h | ⟨g, cap, cur, hv, hg, hh, r⟩
    · exact .inl h
    · exact .inr ⟨g, cap, cur, hv, hg, (hk g hg (lt hh)).trans hh, r⟩
  · rcases t2 with h | ⟨g, cap, cur, hv, hg, hh, r⟩
    · exact .inl h
    · exact .inr ⟨g, cap, cur, hv, hg, (hk g hg (lt hh)).trans hh, r⟩

set_option maxRecDepth 100000 in
set_option maxHeartbeats 2000000 in
theorem law_dictput (a1 a2 : Option Addr) (c1 c2 : Nat) (ds : List Int) (de : List En) (l hh kk vv : Int) (w : World) (hhb : 0 ≤ hh ∧ hh ≤ 18446744073709551615) (hkb : -9223372036854775808 ≤ kk ∧ kk ≤ 9223372036854775807) (hvb : -9223372036854775808 ≤ vv ∧ vv ≤ 9223372036854775807) (h1 : ds.length ≤ 9223372036854775807) (h2 : de.length ≤ 9223372036854775807)
    (hr : ds.length + de.length ≤ 1048576 → Rd w (.slice a1 ds.length c1) ds ∧ RdE w (.slice a2 de.length c2) de) (hl : -9223372036854775808 ≤ l ∧ l ≤ 9223372036854775807) :
    Calls Try.prog 6 #[.agg #[.slice a1 ds.length c1, .slice a2 de.length c2, .int .i64 l], .int .u64 hh, .int .i64 kk, .int .i64 vv] w fun e w' => e = .returned (.bool true) ∧ Below w.heap.size w w' := by
  have HT := fun W g1 g2 => toD_any (.slice a1 ds.length c1) (.slice a2 de.length c2) ⟨ds, de, l⟩ W g1 g2
  simp only at HT
  have hh0 : 0 ≤ hh := hhb.1
  have hh1 : hh < 18446744073709551616 := by omega
  have hv0 : -9223372036854775808 ≤ vv := hvb.1
  have hv1 : vv < 9223372036854775808 := by omega
  have hlb : -9223372036854775808 ≤ l ∧ l < 9223372036854775808 := by omega
  have HS := fun V W r => putS_any V ⟨ds, de, l⟩ hh kk vv W r hlb hkb hh0 hh1 hv0 hv1
  have HI := fun V W r => putI_any V ⟨ds, de, l⟩ hh kk vv W r hlb hkb hh0 hh1 hv0 hv1
  have hZl := putA_len ⟨ds, de, l⟩ hh kk vv
  generalize putA ⟨ds, de, l⟩ hh kk vv = Z at HS HI hZl
  obtain ⟨⟨zs, ze, zl⟩, Zb⟩ := Z
  simp only at HS HI hZl
  have bA := Box3.new w (.slice a1 ds.length c1) (.slice a2 de.length c2) (.int .i64 l) 32
  have bW := Below.three (w := w) (.slice a1 ds.length c1) (.slice a2 de.length c2) (.int .i64 l) 32
  obtain ⟨-, k0, k1, k2⟩ := id bA
  go_enter Try.func6, Try.ntmps6
  go_wp2_with fail
  refine (szD_any _ _ _ _ _ _ _ _ h1 h2).mono ?_
  rintro e w1 ⟨x, rfl, hx, hB1⟩
  have V1 := bW.trans (hB1.mono bW.size)
  have bA1 := bA.keep hB1
  clear k0 k1 k2 bA hB1 bW
  rcases hx with ⟨rfl, -⟩ | ⟨hx0, hx1⟩
  · go_wp2
    go_ret
    exact ⟨rfl, V1⟩
  obtain ⟨g1, g2⟩ := hr hx1
  have hxn : ¬ x < 0 := by omega
  have hds : (1 : Int) + ds.length ≤ 33554432 := by omega
  clear hx1 hr
  obtain ⟨-, k0, k1, k2⟩ := id bA1
  go_wp2_with fail
  refine (HT _ (g1.keep V1) (g2.keep V1)).mono ?_
  rintro e w2 ⟨v0, rfl, O2, hB2⟩
  have V2 := V1.trans (hB2.mono V1.size)
  have bA2 := bA1.keep hB2
  obtain ⟨b1, n1, d1, b2, n2, d2, e0⟩ := O2.rd.form
  subst e0
  clear k0 k1 k2 bA1 hB2
  simp only
  go_wp2_with fail
  refine (HS _ _ O2.rd).mono ?_
  rintro e w3 ⟨u0, rfl, OW, hB3⟩
  have V3 := V2.trans (hB3.mono V2.size)
  have bA3 := bA2.keep hB3
  obtain ⟨b3, n3, d3, b4, n4, d4, e0⟩ := OW.rd.form
  subst e0
  have R0 := OW.rd
  clear bA2 hB3 O2 OW
  simp only at R0
  have b0 := Box3.new w3 (.slice b3 n3 d3) (.slice b4 n4 d4) (.int .i64 zl) 25
  have bA3a := bA3.alloc (.cells #[.slice b3 n3 d3, .slice b4 n4 d4, .int .i64 zl] 25)
  have V3a := V3.alloc V3.size (.cells #[.slice b3 n3 d3, .slice b4 n4 d4, .int .i64 zl] 25)
  have Y3 : Below w3.heap.size w3 (w3.alloc (.cells #[.slice b3 n3 d3, .slice b4 n4 d4, .int .i64 zl] 25)) := (Below.refl _ _).alloc (Nat.le_refl _) _
  have hz3 := V3.size
  obtain ⟨-, k0, k1, k2⟩ := id bA3a
  simp only
  go_wp2_with fail
  refine (HT _ (g1.keep V3a) (g2.keep V3a)).mono ?_
  rintro e w4 ⟨v1, rfl, OX, hB4⟩
  simp only [World.size_alloc] at OX
  have V4 := V3a.trans (hB4.mono V3a.size)
  have bA4 := bA3a.keep hB4
  have b04 := b0.keep hB4
  have Y4 := Y3.trans (hB4.mono Y3.size)
  have hz4 : w3.heap.size + 1 ≤ w4.heap.size := by have := hB4.size; simpa using this
  obtain ⟨b5, n5, d5, b6, n6, d6, e0⟩ := OX.rd.form
  subst e0
  clear k0 k1 k2 bA3 bA3a V3 V3a b0 Y3 hB4
  have bX := Box3.new w4 (.slice b5 n5 d5) (.slice b6 n6 d6) (.int .i64 l) 25
  have bA4a := bA4.alloc (.cells #[.slice b5 n5 d5, .slice b6 n6 d6, .int .i64 l] 25)
  have b04a := b04.alloc (.cells #[.slice b5 n5 d5, .slice b6 n6 d6, .int .i64 l] 25)
  have V4a := V4.alloc V4.size (.cells #[.slice b5 n5 d5, .slice b6 n6 d6, .int .i64 l] 25)
  have Y4a := Y4.alloc Y4.size (.cells #[.slice b5 n5 d5, .slice b6 n6 d6, .int .i64 l] 25)
  have OXa := OX.keep ((Below.refl _ w4).alloc (Nat.le_refl _) (.cells #[.slice b5 n5 d5, .slice b6 n6 d6, .int .i64 l] 25))
  have hiX := OX.hi
  have awX := OX.away
  obtain ⟨-, k0, k1, k2⟩ := id bX
  simp only at OXa
  go_wp2_with fail
  refine (HI _ _ OXa.rd).mono ?_
  rintro e w5 ⟨u1, rfl, OG, hB5⟩
  simp only [World.size_alloc] at OG
  have V5 := V4a.trans (hB5.mono V4a.size)
  have Y5 := Y4a.trans (hB5.mono Y4a.size)
  have bA5 := bA4a.keep hB5
  have b05 := b04a.keep hB5
  have bX5 := bX.keep hB5
  have OX5 := OXa.keep hB5
  have hz5 : w4.heap.size + 1 ≤ w5.heap.size := by have := hB5.size; simpa using this
  obtain ⟨b7, n7, d7, b8, n8, d8, e0⟩ := OG.rd.form
  subst e0
  simp only at OG
  clear k0 k1 k2 bA4 bA4a V4 V4a b04 b04a Y4 Y4a bX OX OXa hB5
  have bG := Box3.new w5 (.slice b7 n7 d7) (.slice b8 n8 d8) (.int .i64 zl) 25
  have bA5a := bA5.alloc (.cells #[.slice b7 n7 d7, .slice b8 n8 d8, .int .i64 zl] 25)
  have b05a := b05.alloc (.cells #[.slice b7 n7 d7, .slice b8 n8 d8, .int .i64 zl] 25)
  have bX5a := bX5.alloc (.cells #[.slice b7 n7 d7, .slice b8 n8 d8, .int .i64 zl] 25)
  have V5a := V5.alloc V5.size (.cells #[.slice b7 n7 d7, .slice b8 n8 d8, .int .i64 zl] 25)
  have Y5a := Y5.alloc Y5.size (.cells #[.slice b7 n7 d7, .slice b8 n8 d8, .int .i64 zl] 25)
  have OG5 := OG.keep ((Below.refl _ w5).alloc (Nat.le_refl _) (.cells #[.slice b7 n7 d7, .slice b8 n8 d8, .int .i64 zl] 25))
  have OX5a := OX5.keep ((Below.refl _ w5).alloc (Nat.le_refl _) (.cells #[.slice b7 n7 d7, .slice b8 n8 d8, .int .i64 zl] 25))
  have hiG := OG.hi
  have awG := OG.away
  clear OG OX5 bA5 b05 bX5 V5 Y5
  obtain ⟨-, k0, k1, k2⟩ := id b05a
  obtain ⟨-, j0, j1, j2⟩ := id bG
  have hZZ : (Zb == Zb) = true := by simp
  go_wp2_with fail
  refine (eqD_any _ _ _ _ _ OG5.rd (R0.keep Y5a)).mono ?_
  rw [decide_eq_true rfl]
  rintro e w6 ⟨rfl, hB6⟩
  have V6 := V5a.trans (hB6.mono V5a.size)
  have Y6 := Y5a.trans (hB6.mono Y5a.size)
  have bA6 := bA5a.keep hB6
  have b06 := b05a.keep hB6
  have bX6 := bX5a.keep hB6
  have bG6 := bG.keep hB6
  have OX6 := OX5a.keep hB6
  have OG6 := OG5.keep hB6
  have hz6 : w5.heap.size + 1 ≤ w6.heap.size := by have := hB6.size; simpa using this
  clear k0 k1 k2 j0 j1 j2 V5a Y5a bA5a b05a bX5a bG OX5a OG5 hB6
  obtain ⟨-, k0, k1, k2⟩ := id bA6
  obtain ⟨-, j0, j1, j2⟩ := id bX6
  go_wp2_with fail
  go_region_held3 (fun W => W.cell? ⟨w.heap.size, 0, none⟩ = some (.slice a1 ds.length c1) ∧ W.cell? ⟨w.heap.size, 1, none⟩ = some (.slice a2 de.length c2) ∧ W.cell? ⟨w.heap.size, 2, none⟩ = some (.int .i64 l) ∧ W.cell? ⟨w4.heap.size, 0, none⟩ = some (.slice b5 n5 d5) ∧ W.cell? ⟨w4.heap.size, 1, none⟩ = some (.slice b6 n6 d6) ∧ W.cell? ⟨w4.heap.size, 2, none⟩ = some (.int .i64 l)) (go_keep) (first | (go_at_call 18; refine (HT _ (g1.keep V6).drew (g2.keep V6).drew).mono ?_; rintro e w7 ⟨v2, rfl, O7, hB7⟩; obtain ⟨p5, q5, r5, p6, q6, r6, e0⟩ := O7.rd.form; subst e0; simp only; have y0 := keepc hB7 k0; have y1 := keepc hB7 k1; have y2 := keepc hB7 k2; have y3 := keepc hB7 j0; have y4 := keepc hB7 j1; have y5 := keepc hB7 j2) | (go_at_call 13; refine (eqD_any _ _ _ _ _ (OX6.rd.drew.keep hB7) O7.rd).mono ?_; rw [decide_eq_true rfl]; rintro e w8 ⟨rfl, hB8⟩; have z0 := (hB8.cell (World.block_lt_of_cell? _ _ y0)).trans y0; have z1 := (hB8.cell (World.block_lt_of_cell? _ _ y1)).trans y1; have z2 := (hB8.cell (World.block_lt_of_cell? _ _ y2)).trans y2; have z3 := (hB8.cell (World.block_lt_of_cell? _ _ y3)).trans y3; have z4 := (hB8.cell (World.block_lt_of_cell? _ _ y4)).trans y4; have z5 := (hB8.cell (World.block_lt_of_cell? _ _ y5)).trans y5))
  have K8 : Below w6.heap.size w6 w8 := ((Below.refl _ w6).drew.trans hB7).trans (hB8.mono hB7.size)
  clear k0 k1 k2 j0 j1 j2 y0 y1 y2 y3 y4 y5 z0 z1 z2 z3 z4 z5 O7 hB7 hB8
  have V8 := V6.trans (K8.mono V6.size)
  have Y8 := Y6.trans (K8.mono Y6.size)
  have bA8 := bA6.keep K8
  have b08 := b06.keep K8
  have bX8 := bX6.keep K8
  have bG8 := bG6.keep K8
  have OX8 := OX6.keep K8
  have OG8 := OG6.keep K8
  have hz8 := K8.size
  clear V6 Y6 bA6 b06 bX6 bG6 OX6 OG6 K8
  obtain ⟨-, k0, k1, k2⟩ := id bX8
  go_wp2_with fail
  refine (markD_any (w3.heap.size + 1) _ _ 1 _ OX8 (by omega) hds (by omega)).mono ?_
  rintro e w9 ⟨rfl, -, hB9, hk9⟩
  have V9 : Below w.heap.size w w9 := V8.trans (hB9.mono (by omega))
  have Y9 : Below w3.heap.size w3 w9 := Y8.trans (hB9.mono (by omega))
  have bA9 := bA8.keepB (hB9.block w.heap.size (by omega)) hB9.size
  have b09 := b08.keepB (hB9.block w3.heap.size (by omega)) hB9.size
  have bG9 := bG8.keepB (hk9 w5.heap.size (by omega) (hiX _ (by omega))) hB9.size
  have OG9 := OG8.keepF (fun g hg hlt => hk9 g hlt (hiX g (by omega)))
  have hz9 := hB9.size
  clear k0 k1 k2 V8 Y8 bA8 b08 bX8 bG8 OX8 OG8 hB9 hk9
  obtain ⟨-, k0, k1, k2⟩ := id b09
  obtain ⟨-, j0, j1, j2⟩ := id bG9
  have hk0 : ¬ ((1 : Int) + (ds.length : Int) + 4 * (de.length : Int) < 0) := by omega
  simp only
  go_wp2_with fail
  refine (eqD_any _ _ _ _ _ OG9.rd (R0.keep Y9)).mono ?_
  rw [decide_eq_true rfl]
  rintro e w10 ⟨rfl, hB10⟩
  have V10 := V9.trans (hB10.mono V9.size)
  have Y10 := Y9.trans (hB10.mono Y9.size)
  have bA10 := bA9.keep hB10
  have b010 := b09.keep hB10
  have bG10 := bG9.keep hB10
  have OG10 := OG9.keep hB10
  have hz10 := hB10.size
  clear k0 k1 k2 j0 j1 j2 V9 Y9 bA9 b09 bG9 OG9 hB10
  obtain ⟨-, j0, j1, j2⟩ := id bG10
  go_wp2_with fail
  refine (markD_any (w4.heap.size + 1) _ _ 1 _ OG10 (by omega) hZl (by omega)).mono ?_
  rintro e w11 ⟨rfl, OG11, hB11, hk11⟩
  have V11 : Below w.heap.size w w11 := V10.trans (hB11.mono (by omega))
  have Y11 : Below w3.heap.size w3 w11 := Y10.trans (hB11.mono (by omega))
  have bA11 := bA10.keepB (hB11.block w.heap.size (by omega)) hB11.size
  have b011 := b010.keepB (hB11.block w3.heap.size (by omega)) hB11.size
  have bG11 := bG10.keepB (hk11 w5.heap.size (by omega) (hiG _ (Nat.le_refl _))) hB11.size
  clear j0 j1 j2 V10 Y10 bA10 b010 bG10 OG10 hB11 hk11
  obtain ⟨-, j0, j1, j2⟩ := id bG11
  simp only
  go_wp2_with fail
  refine (heldD_any _ _ 1 _ OG11.rd (by omega) hZl).mono ?_
  rintro e w12 ⟨rfl, hB12⟩
  have V12 := V11.trans (hB12.mono V11.size)
  have Y12 := Y11.trans (hB12.mono Y11.size)
  have bA12 := bA11.keep hB12
  have b012 := b011.keep hB12
  have bG12 := bG11.keep hB12
  have OG12 := OG11.keep hB12
  clear j0 j1 j2 V11 Y11 bA11 b011 bG11 OG11 hB12
  obtain ⟨-, k0, k1, k2⟩ := id bA12
  have hk1 : ¬ ((1 : Int) + (zs.length : Int) + 4 * (ze.length : Int) < 0) := by omega
  simp only
  go_wp2_with fail
  refine (HT _ (g1.keep V12) (g2.keep V12)).mono ?_
  rintro e w13 ⟨v3, rfl, O13, hB13⟩
  have V13 := V12.trans (hB13.mono V12.size)
  have Y13 := Y12.trans (hB13.mono Y12.size)
  have b013 := b012.keep hB13
  have bG13 := bG12.keep hB13
  have OG13 := OG12.keep hB13
  obtain ⟨s1, s2, s3, s4, s5, s6, e0⟩ := O13.rd.form
  subst e0
  clear k0 k1 k2 V12 Y12 bA12 b012 bG12 OG12 hB13
  simp only
  go_wp2_with fail
  refine (HI _ _ O13.rd).mono ?_
  rintro e w14 ⟨u2, rfl, O14, hB14⟩
  obtain ⟨t1, t2, t3, t4, t5, t6, e0⟩ := O14.rd.form
  subst e0
  have b014 := (b013.keep hB14).alloc (.cells #[.slice t1 t2 t3, .slice t4 t5 t6, .int .i64 zl] 25)
  have bG14 := (bG13.keep hB14).alloc (.cells #[.slice t1 t2 t3, .slice t4 t5 t6, .int .i64 zl] 25)
  have V14' := V13.trans (hB14.mono V13.size)
  have Y14' := Y13.trans (hB14.mono Y13.size)
  have V14 := V14'.alloc V14'.size (.cells #[.slice t1 t2 t3, .slice t4 t5 t6, .int .i64 zl] 25)
  have Y14 := Y14'.alloc Y14'.size (.cells #[.slice t1 t2 t3, .slice t4 t5 t6, .int .i64 zl] 25)
  have OG14 := (OG13.keep hB14).keep ((Below.refl _ w14).alloc (Nat.le_refl _) (.cells #[.slice t1 t2 t3, .slice t4 t5 t6, .int .i64 zl] 25))
  have OH14 := O14.keep ((Below.refl _ w14).alloc (Nat.le_refl _) (.cells #[.slice t1 t2 t3, .slice t4 t5 t6, .int .i64 zl] 25))
  clear V13 Y13 b013 bG13 OG13 O13 O14 hB14 V14' Y14'
  obtain ⟨-, k0, k1, k2⟩ := id b014
  obtain ⟨-, j0, j1, j2⟩ := id bG14
  simp only at OH14 ⊢
  go_wp2_with fail
  refine (eqD_any _ _ _ _ _ OH14.rd (R0.keep Y14)).mono ?_
  rw [decide_eq_true rfl]
  rintro e w15 ⟨rfl, hB15⟩
  have V15 := V14.trans (hB15.mono V14.size)
  have bG15 := bG14.keep hB15
  have OG15 := OG14.keep hB15
  clear k0 k1 k2 j0 j1 j2 V14 Y14 b014 bG14 OG14 OH14 hB15
  obtain ⟨-, j0, j1, j2⟩ := id bG15
  go_wp2_with fail
  refine (heldD_any _ _ 1 _ OG15.rd (by omega) hZl).mono ?_
  rintro e w16 ⟨rfl, hB16⟩
  simp only
  go_wp2
  go_ret
  exact ⟨rfl, V15.trans (hB16.mono V15.size)⟩
end Go.Proofs.Ytilhagcdhdmjaaa
