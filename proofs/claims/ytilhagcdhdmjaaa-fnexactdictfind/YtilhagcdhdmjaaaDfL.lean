import Derived.Test.YtilhagcdhdmjaaaDfI
import Derived.Test.YtilhagcdhdmjaaaToD
namespace Go.Proofs.Ytilhagcdhdmjaaa
open Go.RowKit Go.Maps
set_option linter.unusedVariables false
set_option linter.unusedSimpArgs false

set_option maxRecDepth 100000 in
set_option maxHeartbeats 1000000 in
theorem law_dictfind (a1 a2 : Option Addr) (c1 c2 : Nat) (ds : List Int) (de : List En) (l hh kk : Int) (w : World) (hhb : 0 ≤ hh ∧ hh ≤ 18446744073709551615) (hkb : -9223372036854775808 ≤ kk ∧ kk ≤ 9223372036854775807) (h1 : ds.length ≤ 9223372036854775807) (h2 : de.length ≤ 9223372036854775807)
    (hr : ds.length + de.length ≤ 1048576 → Rd w (.slice a1 ds.length c1) ds ∧ RdE w (.slice a2 de.length c2) de) (hl : -9223372036854775808 ≤ l ∧ l ≤ 9223372036854775807) :
    Calls Try.prog 5 #[.agg #[.slice a1 ds.length c1, .slice a2 de.length c2, .int .i64 l], .int .u64 hh, .int .i64 kk] w fun e w' => e = .returned (.bool true) ∧ Below w.heap.size w w' := by
  have HT := fun W g1 g2 => toD_any (.slice a1 ds.length c1) (.slice a2 de.length c2) ⟨ds, de, l⟩ W g1 g2
  simp only at HT
  have hh0 : 0 ≤ hh := hhb.1
  have hh1 : hh < 18446744073709551616 := by omega
  have hlb : -9223372036854775808 ≤ l ∧ l < 9223372036854775808 := by omega
  have bA := Box3.new w (.slice a1 ds.length c1) (.slice a2 de.length c2) (.int .i64 l) 32
  have bW := Below.three (w := w) (.slice a1 ds.length c1) (.slice a2 de.length c2) (.int .i64 l) 32
  obtain ⟨-, k0, k1, k2⟩ := id bA
  go_enter Try.func5, Try.ntmps5
  go_wp2_with fail
  refine (szD_any _ _ _ _ _ _ _ _ h1 h2).mono ?_
  rintro e w1 ⟨x, rfl, hx, hB1⟩
  have V1 := bW.trans (hB1.mono bW.size)
  have bA1 := bA.keep hB1
  clear k0 k1 k2 bA hB1 bW
  rcases hx with ⟨rfl, -⟩ | ⟨hx0, hx1⟩
  · go_wp2
    go_ret
    exact ⟨rfl, V1⟩
  · obtain ⟨g1, g2⟩ := hr hx1
    have hxn : ¬ x < 0 := by omega
    clear hx1 hr
    obtain ⟨-, k0, k1, k2⟩ := id bA1
    go_wp2_with fail
    refine (HT _ (g1.keep V1) (g2.keep V1)).mono ?_
    rintro e w2 ⟨v0, rfl, O2, hB2⟩
    have V2 := V1.trans (hB2.mono V1.size)
    have bA2 := bA1.keep hB2
    obtain ⟨b1, n1, d1, b2, n2, d2, e0⟩ := O2.rd.form
    subst e0
    clear k0 k1 k2 bA1 hB2
    simp only
    go_wp2_with fail
    refine (findS_any _ _ hh kk _ O2.rd hlb hh0 hh1).mono ?_
    rintro e w3 ⟨rfl, hB3⟩
    have V3 := V2.trans (hB3.mono V2.size)
    have bA3 := bA2.keep hB3
    obtain ⟨-, k0, k1, k2⟩ := id bA3
    clear bA2 hB3 O2
    generalize hR : fdA ⟨ds, de, l⟩ hh kk = R
    have HR : Hid (fdA ⟨ds, de, l⟩ hh kk = R) := hR
    clear hR
    obtain ⟨R0, R1⟩ := R
    simp only
    go_wp2_with fail
    refine (HT _ (g1.keep V3) (g2.keep V3)).mono ?_
    rintro e w4 ⟨v1, rfl, O4, hB4⟩
    have V4 := V3.trans (hB4.mono V3.size)
    have bA4 := bA3.keep hB4
    obtain ⟨b3, n3, d3, b4, n4, d4, e0⟩ := O4.rd.form
    subst e0
    clear k0 k1 k2 bA3 hB4
    simp only
    have bXa := Box3.new w4 (.slice b3 n3 d3) (.slice b4 n4 d4) (.int .i64 l) 25
    have bA4a := bA4.alloc (.cells #[.slice b3 n3 d3, .slice b4 n4 d4, .int .i64 l] 25)
    have V4a := V4.alloc V4.size (.cells #[.slice b3 n3 d3, .slice b4 n4 d4, .int .i64 l] 25)
    have R4 := O4.rd.alloc (.cells #[.slice b3 n3 d3, .slice b4 n4 d4, .int .i64 l] 25)
    go_wp2_with fail
    refine (findI_any _ _ hh kk _ R4 hlb hh0 hh1).mono ?_
    rintro e w5 ⟨rfl, hB5⟩
    rw [HR.out]
    simp only
    have V5 := V4a.trans (hB5.mono V4a.size)
    have bA5 := bA4a.keep hB5
    have bX5 := bXa.keep hB5
    have R5 := R4.keep hB5
    clear bXa bA4a V4a R4 hB5 bA4 V4 O4
    obtain ⟨-, k0, k1, k2⟩ := id bA5
    obtain ⟨-, j0, j1, j2⟩ := id bX5
    go_wp2_with fail
    go_region_held3 (fun W => W.cell? ⟨w.heap.size, 0, none⟩ = some (.slice a1 ds.length c1) ∧ W.cell? ⟨w.heap.size, 1, none⟩ = some (.slice a2 de.length c2) ∧ W.cell? ⟨w.heap.size, 2, none⟩ = some (.int .i64 l) ∧ W.cell? ⟨w4.heap.size, 0, none⟩ = some (.slice b3 n3 d3) ∧ W.cell? ⟨w4.heap.size, 1, none⟩ = some (.slice b4 n4 d4) ∧ W.cell? ⟨w4.heap.size, 2, none⟩ = some (.int .i64 l)) (go_keep) (first | (go_at_call 18; refine (HT _ (g1.keep V5).drew (g2.keep V5).drew).mono ?_; rintro e w6 ⟨v2, rfl, O6, hB6⟩; obtain ⟨b5, n5, d5, b6, n6, d6, e0⟩ := O6.rd.form; subst e0; simp only; have y0 := keepc hB6 k0; have y1 := keepc hB6 k1; have y2 := keepc hB6 k2; have y3 := keepc hB6 j0; have y4 := keepc hB6 j1; have y5 := keepc hB6 j2; have V6 := V5.drew.trans (hB6.mono V5.size)) | (go_at_call 13; refine (eqD_any _ _ _ _ _ (R5.drew.keep hB6) O6.rd).mono ?_; rw [decide_eq_true rfl]; rintro e w7 ⟨rfl, hB7⟩; have z0 := (hB7.cell (World.block_lt_of_cell? _ _ y0)).trans y0; have z1 := (hB7.cell (World.block_lt_of_cell? _ _ y1)).trans y1; have z2 := (hB7.cell (World.block_lt_of_cell? _ _ y2)).trans y2; have z3 := (hB7.cell (World.block_lt_of_cell? _ _ y3)).trans y3; have z4 := (hB7.cell (World.block_lt_of_cell? _ _ y4)).trans y4; have z5 := (hB7.cell (World.block_lt_of_cell? _ _ y5)).trans y5))
    go_wp2
    go_ret
    exact ⟨rfl, V6.trans (hB7.mono V6.size)⟩
end Go.Proofs.Ytilhagcdhdmjaaa
