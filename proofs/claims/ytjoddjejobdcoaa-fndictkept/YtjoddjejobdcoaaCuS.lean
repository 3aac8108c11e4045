import Derived.Test.YtjoddjejobdcoaaCtS
import Derived.Deep.Cut
namespace Go.Proofs.Ytjoddjejobdcoaa
open Go.RowKit Go.Maps
set_option linter.unusedVariables false
set_option linter.unusedSimpArgs false

set_option maxRecDepth 100000 in
set_option maxHeartbeats 1000000 in
theorem l7Cut_any (v : Value) (d : Dt) (h k : Int) (w : World) (hr : RdD w v d) (hok : OkD d) (hh0 : 0 ≤ h) (hh1 : h < 18446744073709551616) :
    Calls Try.prog 55 #[v, .int .u64 h, .int .i64 k] w fun e w' => ∃ u, e = .returned (.tuple #[u, .bool (cutD d h k).2]) ∧ OwnD w' w.heap.size u (cutD d h k).1 ∧ Below w.heap.size w w' := by
  obtain ⟨m, _, hm, ht, hl, hs, _⟩ := hok.tab
  have hv := fnd_val hok h k hh0 hh1
  have hlv : d.l = livN d.e := hok.2.2.2.1
  have hll : livN d.e ≤ 65536 := Nat.le_trans (List.countP_le_length) (by have := sz_le hm; omega)
  obtain ⟨a1, n1, c1, a2, n2, c2, e0⟩ := hr.form
  subst e0
  have HC := fun W r => copy_any (.agg #[.slice a1 n1 c1, .slice a2 n2 c2, .int .i64 d.l]) d W r
  have HF := fun V W r => l7Find_tab V d h k m W r hm ht hl hh0 hh1
  generalize hZ : cutD d h k = Z
  simp only [cutD] at hZ
  generalize hFn : fnd d h k = F at hv hZ HF
  obtain ⟨F0, F1⟩ := F
  simp only at hv hZ HF
  have bW := Below.three (w := w) (.slice a1 n1 c1) (.slice a2 n2 c2) (.int .i64 d.l) 25
  have bX := Box3.new w (.slice a1 n1 c1) (.slice a2 n2 c2) (.int .i64 d.l) 25
  have bW2 := bW.alloc bW.size (.cells #[.slice none 0 0, .slice none 0 0, .int .i64 0] 25)
  have bR0 := Box3.new (w.alloc (.cells #[.slice a1 n1 c1, .slice a2 n2 c2, .int .i64 d.l] 25)) (.slice none 0 0) (.slice none 0 0) (.int .i64 0) 25
  have fR0 : ∀ o, ((w.alloc (.cells #[.slice a1 n1 c1, .slice a2 n2 c2, .int .i64 d.l] 25)).alloc (.cells #[.slice none 0 0, .slice none 0 0, .int .i64 0] 25)).frozen? ⟨w.heap.size + 1, o, none⟩ = false := fun o => World.frozen?_alloc_at _ _ _ _ (by simp)
  have fX0 : ∀ o, ((w.alloc (.cells #[.slice a1 n1 c1, .slice a2 n2 c2, .int .i64 d.l] 25)).alloc (.cells #[.slice none 0 0, .slice none 0 0, .int .i64 0] 25)).frozen? ⟨w.heap.size, o, none⟩ = false := fun o => by
    rw [World.frozen?_alloc_past _ _ _ (by simp)]; exact World.frozen?_alloc_at _ _ _ _ rfl
  simp only [World.size_alloc] at bR0
  have bX0 := bX.alloc (.cells #[.slice none 0 0, .slice none 0 0, .int .i64 0] 25)
  have HLV : Hid (d.l = livN d.e) := hlv
  have HZ : Hid _ := hZ
  clear hlv ht hs hFn hZ
  obtain ⟨-, k0, k1, k2⟩ := id bX
  go_enter Try.func55, Try.ntmps55
  go_wp2_with fail
  refine (HC _ (hr.keep bW2)).mono ?_
  rintro e w1 ⟨u, rfl, hO1, hB1⟩
  simp only [World.size_alloc] at hO1
  obtain ⟨us, ue, e1, oS, oE, hne⟩ := id hO1
  obtain ⟨sa, sc, rfl⟩ := oS.form
  obtain ⟨ea, ec, rfl⟩ := oE.form
  subst e1
  unfold dv
  have bX1 := bX0.keep hB1
  have bR1 := bR0.keep hB1
  have hxz := bX0.1
  have hrz := bR0.1
  have fX1 : ∀ o, w1.frozen? ⟨w.heap.size, o, none⟩ = false := fun o => (hB1.frozen (p := ⟨w.heap.size, o, none⟩) hxz).trans (fX0 o)
  have fR1 : ∀ o, w1.frozen? ⟨w.heap.size + 1, o, none⟩ = false := fun o => (hB1.frozen (p := ⟨w.heap.size + 1, o, none⟩) hrz).trans (fR0 o)
  have V1 := bW2.trans (hB1.mono bW2.size)
  clear k0 k1 k2
  obtain ⟨-, k0, k1, k2⟩ := id bX1
  have f0 := fX1 0
  have f1 := fX1 1
  have f2 := fX1 2
  go_wp2_with fail
  have hlo : ∀ o, (⟨w.heap.size, o, none⟩ : Addr).block < w.heap.size + 1 + 1 := fun o => by show w.heap.size < _; omega
  have hO2 := ((hO1.setBelow (hlo 0) (.slice sa d.s.length sc)).setBelow (hlo 1) (.slice ea d.e.length ec)).setBelow (hlo 2) (.int .i64 d.l)
  have bX2 := ((bX1.p0 (.slice sa d.s.length sc)).p1 (.slice ea d.e.length ec)).p2 (.int .i64 d.l)
  have bR2 := ((bR1.far (c := w.heap.size) (o := 0) (by omega) (.slice sa d.s.length sc)).far (c := w.heap.size) (o := 1) (by omega) (.slice ea d.e.length ec)).far (c := w.heap.size) (o := 2) (by omega) (.int .i64 d.l)
  have hz1 := V1.size
  have V2 := below_set (o := 2) (below_set (o := 1) (below_set (o := 0) V1 hz1 (Nat.le_refl _) (.slice sa d.s.length sc)) (by simpa [World.setCell] using hz1) (Nat.le_refl _) (.slice ea d.e.length ec)) (by simpa [World.setCell] using hz1) (Nat.le_refl _) (.int .i64 d.l)
  have fX2 : ∀ o, (((w1.setCell ⟨w.heap.size, 0, none⟩ (.slice sa d.s.length sc)).setCell ⟨w.heap.size, 1, none⟩ (.slice ea d.e.length ec)).setCell ⟨w.heap.size, 2, none⟩ (.int .i64 d.l)).frozen? ⟨w.heap.size, o, none⟩ = false := fun o => by
    rw [World.frozen?_setCell, World.frozen?_setCell, World.frozen?_setCell]; exact fX1 o
  have fR2 : ∀ o, (((w1.setCell ⟨w.heap.size, 0, none⟩ (.slice sa d.s.length sc)).setCell ⟨w.heap.size, 1, none⟩ (.slice ea d.e.length ec)).setCell ⟨w.heap.size, 2, none⟩ (.int .i64 d.l)).frozen? ⟨w.heap.size + 1, o, none⟩ = false := fun o => by
    rw [World.frozen?_setCell, World.frozen?_setCell, World.frozen?_setCell]; exact fR1 o
  clear k0 k1 k2 f0 f1 f2
  generalize ((w1.setCell ⟨w.heap.size, 0, none⟩ (.slice sa d.s.length sc)).setCell ⟨w.heap.size, 1, none⟩ (.slice ea d.e.length ec)).setCell ⟨w.heap.size, 2, none⟩ (.int .i64 d.l) = W2 at *
  clear hO1 oS oE bX1 bR1 V1 hB1 fX1 fR1 bX0 bR0 fX0 fR0 hz1
  obtain ⟨us, ue, e1, oS, oE, -⟩ := id hO2
  simp only [dv, Value.agg.injEq, List.toArray_eq_iff, Array.mk.injEq, List.cons.injEq, and_true] at e1
  obtain ⟨rfl, rfl⟩ := e1
  refine (HF _ _ hO2.rd).mono ?_
  rintro e w3 ⟨rfl, hB3⟩
  have hO3 := hO2.keep hB3
  have oS3 := oS.keep hB3
  have oE3 := oE.keep hB3
  have bX3 := bX2.keep hB3
  have bR3 := bR2.keep hB3
  have fX3 : ∀ o, w3.frozen? ⟨w.heap.size, o, none⟩ = false := fun o => (hB3.frozen (p := ⟨w.heap.size, o, none⟩) bX2.1).trans (fX2 o)
  have fR3 : ∀ o, w3.frozen? ⟨w.heap.size + 1, o, none⟩ = false := fun o => (hB3.frozen (p := ⟨w.heap.size + 1, o, none⟩) bR2.1).trans (fR2 o)
  have V3 := V2.trans (hB3.mono V2.size)
  clear hO2 oS oE bX2 bR2 fX2 fR2 V2 hB3 W2 HF HC
  obtain ⟨-, k0, k1, k2⟩ := id bX3
  obtain ⟨-, r0, r1, r2⟩ := id bR3
  have f0 := fR3 0
  have f1 := fR3 1
  have f2 := fR3 2
  have g2 := fX3 2
  have hz3 := V3.size
  rcases hv with rfl | ⟨hF0, hlt, hg, hhh, hkk⟩
  · have hZ := HZ.out
    rw [if_pos (by omega)] at hZ
    subst hZ
    have q0 := bR3.p0 (.slice sa d.s.length sc)
    have q1 := q0.p1 (.slice ea d.e.length ec)
    have q2 := q1.p2 (.int .i64 d.l)
    clear HZ
    go_wp2_with fail
    refine bodyPost_ret (v := .tuple #[.agg #[.slice sa d.s.length sc, .slice ea d.e.length ec, .int .i64 d.l], .bool false]) (by simp [results, Try.results55, go_sem, q0.2.1, q1.2.2.1, q2.2.2.2]) rfl ⟨_, rfl, ?_, ?_⟩
    · have hl1 : ∀ o, (⟨w.heap.size + 1, o, none⟩ : Addr).block < w.heap.size + 1 + 1 := fun o => by show w.heap.size + 1 < _; omega
      exact (((hO3.setBelow (hl1 0) _).setBelow (hl1 1) _).setBelow (hl1 2) _).mono (by omega)
    · exact below_set (below_set (below_set V3 hz3 (by omega) _) (by simpa [World.setCell] using hz3) (by omega) _) (by simpa [World.setCell] using hz3) (by omega) _
  · have hZ := HZ.out
    rw [if_neg (by omega)] at hZ
    subst hZ
    clear HZ
    obtain ⟨P, rfl⟩ : ∃ P : Nat, F0 = (P : Int) := ⟨F0.toNat, by omega⟩
    simp only [Int.toNat_natCast] at hlt hg hhh hkk ⊢
    rcases oE3.shape with ⟨-, he⟩ | ⟨gb, cap, he, hgb, hgs, hcap⟩
    · rw [he] at hlt; simp at hlt
    simp only [Value.slice.injEq, true_and] at he
    obtain ⟨rfl, rfl⟩ := he
    obtain ⟨c0, c1', c2', c3⟩ := RdE.at (off := 0) (fun k hk j hj => by rw [Nat.zero_add]; exact oE3.cell k hk j hj) P hlt
    simp only [Nat.zero_add] at c0 c1' c2' c3
    have z0 := oE3.frozen (P * 4)
    have z1 := oE3.frozen (P * 4 + 1)
    have z2 := oE3.frozen (P * 4 + 2)
    have z3 := oE3.frozen (P * 4 + 3)
    have hgg : w.heap.size ≠ gb := by omega
    have hgg1 : w.heap.size + 1 ≠ gb := by omega
    have oE4 := OwnE.store4 oE3 P hlt ⟨h, 0, 0, true⟩ ⟨⟨hh0, hh1⟩, ⟨by show -9223372036854775808 ≤ (0 : Int); omega, by show (0 : Int) < 9223372036854775808; omega⟩, ⟨by show -9223372036854775808 ≤ (0 : Int); omega, by show (0 : Int) < 9223372036854775808; omega⟩⟩
    have oS4 := (((oS3.but (gb_set w3 gb (P * 4) (.int .u64 h)) hne).but (gb_set _ gb (P * 4 + 1) (.int .i64 0)) hne).but (gb_set _ gb (P * 4 + 2) (.int .i64 0)) hne).but (gb_set _ gb (P * 4 + 3) (.bool true)) hne
    have hlp : 0 < livN d.e := by
      unfold livN; rw [List.countP_pos_iff]; exact ⟨d.e[P], List.getElem_mem hlt, by simp [hg]⟩
    have hl0 : 0 < d.l ∧ d.l ≤ 65536 := by have := HLV.out; omega
    clear hg hhh hkk hll HLV hok
    generalize hL : d.l = L at *
    have bX4 := (((bX3.far (c := gb) (o := P * 4) (by omega) (.int .u64 h)).far (c := gb) (o := P * 4 + 1) (by omega) (.int .i64 0)).far (c := gb) (o := P * 4 + 2) (by omega) (.int .i64 0)).far (c := gb) (o := P * 4 + 3) (by omega) (.bool true)
    have bR4 := (((bR3.far (c := gb) (o := P * 4) (by omega) (.int .u64 h)).far (c := gb) (o := P * 4 + 1) (by omega) (.int .i64 0)).far (c := gb) (o := P * 4 + 2) (by omega) (.int .i64 0)).far (c := gb) (o := P * 4 + 3) (by omega) (.bool true)
    have fX4 : ∀ o, ((((w3.setCell ⟨gb, P * 4, none⟩ (.int .u64 h)).setCell ⟨gb, P * 4 + 1, none⟩ (.int .i64 0)).setCell ⟨gb, P * 4 + 2, none⟩ (.int .i64 0)).setCell ⟨gb, P * 4 + 3, none⟩ (.bool true)).frozen? ⟨w.heap.size, o, none⟩ = false := fun o => by
      rw [World.frozen?_setCell, World.frozen?_setCell, World.frozen?_setCell, World.frozen?_setCell]; exact fX3 o
    have fR4 : ∀ o, ((((w3.setCell ⟨gb, P * 4, none⟩ (.int .u64 h)).setCell ⟨gb, P * 4 + 1, none⟩ (.int .i64 0)).setCell ⟨gb, P * 4 + 2, none⟩ (.int .i64 0)).setCell ⟨gb, P * 4 + 3, none⟩ (.bool true)).frozen? ⟨w.heap.size + 1, o, none⟩ = false := fun o => by
      rw [World.frozen?_setCell, World.frozen?_setCell, World.frozen?_setCell, World.frozen?_setCell]; exact fR3 o
    have V4 := below_set (o := P * 4 + 3) (below_set (o := P * 4 + 2) (below_set (o := P * 4 + 1) (below_set (o := P * 4) V3 hz3 (show w.heap.size ≤ gb by omega) (.int .u64 h)) (by simpa [World.setCell] using hz3) (show w.heap.size ≤ gb by omega) (.int .i64 0)) (by simpa [World.setCell] using hz3) (show w.heap.size ≤ gb by omega) (.int .i64 0)) (by simpa [World.setCell] using hz3) (show w.heap.size ≤ gb by omega) (.bool true)
    go_upto_region 6 with fail
    clear k0 k1 k2 r0 r1 r2 f0 f1 f2 g2 c0 c1' c2' c3 z0 z1 z2 z3 oE3 oS3 bX3 bR3 hO3 V3 fX3 fR3
    generalize ((((w3.setCell ⟨gb, P * 4, none⟩ (.int .u64 h)).setCell ⟨gb, P * 4 + 1, none⟩ (.int .i64 0)).setCell ⟨gb, P * 4 + 2, none⟩ (.int .i64 0)).setCell ⟨gb, P * 4 + 3, none⟩ (.bool true)) = W4 at *
    have hz4 := V4.size
    obtain ⟨-, k0, k1, k2⟩ := id bX4
    obtain ⟨-, r0, r1, r2⟩ := id bR4
    have f0 := fR4 0
    have f1 := fR4 1
    have f2 := fR4 2
    have g2 := fX4 2
    have hne2 : w.heap.size ≠ w.heap.size + 1 := by omega
    have bR5 := bR4.far (c := w.heap.size) (o := 2) (by omega) (.int .i64 (L - 1))
    have q0 := bR5.p0 (.slice sa d.s.length sc)
    have q1 := q0.p1 (.slice (some ⟨gb, 0, none⟩) d.e.length ec)
    have q2 := q1.p2 (.int .i64 (L - 1))
    go_wp2_with fail
    refine bodyPost_ret (v := .tuple #[.agg #[.slice sa d.s.length sc, .slice (some ⟨gb, 0, none⟩) d.e.length ec, .int .i64 (L - 1)], .bool true]) (by simp [results, Try.results55, go_sem, q0.2.1, q1.2.2.1, q2.2.2.2]) rfl ⟨_, rfl, ?_, ?_⟩
    · have hl0 : ∀ o, (⟨w.heap.size, o, none⟩ : Addr).block < w.heap.size + 1 + 1 := fun o => by show w.heap.size < _; omega
      have hl1 : ∀ o, (⟨w.heap.size + 1, o, none⟩ : Addr).block < w.heap.size + 1 + 1 := fun o => by show w.heap.size + 1 < _; omega
      have hO4 : OwnD W4 (w.heap.size + 1 + 1) (.agg #[.slice sa d.s.length sc, .slice (some ⟨gb, 0, none⟩) d.e.length ec, .int .i64 (L - 1)]) ⟨d.s, d.e.set P ⟨h, 0, 0, true⟩, L - 1⟩ := ⟨_, _, rfl, oS4, oE4, hne⟩
      exact ((((hO4.setBelow (hl0 2) _).setBelow (hl1 0) _).setBelow (hl1 1) _).setBelow (hl1 2) _).mono (by omega)
    · exact below_set (below_set (below_set (below_set V4 hz4 (Nat.le_refl _) _) (by simpa [World.setCell] using hz4) (by omega) _) (by simpa [World.setCell] using hz4) (by omega) _) (by simpa [World.setCell] using hz4) (by omega) _

set_option maxRecDepth 100000 in
theorem cutS_any (v : Value) (d : Dt) (h k : Int) (w : World) (hr : RdD w v d) (hb : -9223372036854775808 ≤ d.l ∧ d.l < 9223372036854775808) (hh0 : 0 ≤ h) (hh1 : h < 18446744073709551616) :
    Calls Try.prog 24 #[v, .int .u64 h, .int .i64 k] w fun e w' => ∃ u, e = .returned (.tuple #[u, .bool (cutA d h k).2]) ∧ OwnD w' w.heap.size u (cutA d h k).1 ∧ Below w.heap.size w w' := by
  obtain ⟨a1, n1, c1, a2, n2, c2, e0⟩ := hr.form
  subst e0
  have bW := Below.three (w := w) (.slice a1 n1 c1) (.slice a2 n2 c2) (.int .i64 d.l) 25
  have bX := Box3.new w (.slice a1 n1 c1) (.slice a2 n2 c2) (.int .i64 d.l) 25
  have HO := fun W r => okS_any (.agg #[.slice a1 n1 c1, .slice a2 n2 c2, .int .i64 d.l]) d W r hb
  have bW2 := bW.alloc bW.size (.cells #[.slice none 0 0, .slice none 0 0, .int .i64 0] 25)
  have bX0 := bX.alloc (.cells #[.slice none 0 0, .slice none 0 0, .int .i64 0] 25)
  have bR0 := Box3.new (w.alloc (.cells #[.slice a1 n1 c1, .slice a2 n2 c2, .int .i64 d.l] 25)) (.slice none 0 0) (.slice none 0 0) (.int .i64 0) 25
  have fR0 : ∀ o, ((w.alloc (.cells #[.slice a1 n1 c1, .slice a2 n2 c2, .int .i64 d.l] 25)).alloc (.cells #[.slice none 0 0, .slice none 0 0, .int .i64 0] 25)).frozen? ⟨w.heap.size + 1, o, none⟩ = false := fun o => World.frozen?_alloc_at _ _ _ _ (by simp)
  simp only [World.size_alloc] at bR0
  obtain ⟨-, k0, k1, k2⟩ := id bX
  by_cases hok : OkD d
  · simp only [cutA, if_pos hok]
    simp only [okD_true hok] at HO
    have HC := fun W r => l7Cut_any (.agg #[.slice a1 n1 c1, .slice a2 n2 c2, .int .i64 d.l]) d h k W r hok hh0 hh1
    generalize cutD d h k = Z at HC ⊢
    obtain ⟨Zd, Zb⟩ := Z
    simp only at HC ⊢
    clear hok
    go_enter Try.func24, Try.ntmps24
    go_wp2_with fail
    refine (HO _ (hr.keep bW2)).mono ?_
    rintro e w1 ⟨rfl, hB1⟩
    have V1 := bW2.trans (hB1.mono bW2.size)
    have bR1 := bR0.keep hB1
    have bX1 := bX0.keep hB1
    have fR1 : ∀ o, w1.frozen? ⟨w.heap.size + 1, o, none⟩ = false := fun o => (hB1.frozen (p := ⟨w.heap.size + 1, o, none⟩) bR0.1).trans (fR0 o)
    clear k0 k1 k2
    obtain ⟨-, k0, k1, k2⟩ := id bX1
    go_wp2_with fail
    refine (HC _ (hr.keep V1)).mono ?_
    rintro e w3 ⟨u, rfl, hO3, hB3⟩
    obtain ⟨b1, m1, p1, b2, m2, p2, e1⟩ := hO3.rd.form
    subst e1
    have V3 := V1.trans (hB3.mono V1.size)
    have bR3 := bR1.keep hB3
    have fR3 : ∀ o, w3.frozen? ⟨w.heap.size + 1, o, none⟩ = false := fun o => (hB3.frozen (p := ⟨w.heap.size + 1, o, none⟩) bR1.1).trans (fR1 o)
    have hr1 := bR1.1
    clear k0 k1 k2
    obtain ⟨-, r0, r1, r2⟩ := id bR3
    have f0 := fR3 0
    have f1 := fR3 1
    have f2 := fR3 2
    have q0 := bR3.p0 (.slice b1 m1 p1)
    have q1 := q0.p1 (.slice b2 m2 p2)
    have q2 := q1.p2 (.int .i64 Zd.l)
    go_wp2_with fail
    have hz := V3.size
    refine bodyPost_ret (v := .tuple #[.agg #[.slice b1 m1 p1, .slice b2 m2 p2, .int .i64 Zd.l], .bool Zb]) (by simp [results, Try.results24, go_sem, q0.2.1, q1.2.2.1, q2.2.2.2]) rfl ⟨_, rfl, ?_, ?_⟩
    · exact (((hO3.setBelow hr1 _).setBelow hr1 _).setBelow hr1 _).mono V1.size
    · exact below_set (below_set (below_set V3 hz (by omega) _) (by simpa [World.setCell] using hz) (by omega) _) (by simpa [World.setCell] using hz) (by omega) _
  · simp only [cutA, if_neg hok]
    simp only [okD_false hok] at HO
    go_enter Try.func24, Try.ntmps24
    go_wp2_with fail
    refine (HO _ (hr.keep bW2)).mono ?_
    rintro e w1 ⟨rfl, hB1⟩
    have V1 := bW2.trans (hB1.mono bW2.size)
    have bR3 := bR0.keep hB1
    have fR3 : ∀ o, w1.frozen? ⟨w.heap.size + 1, o, none⟩ = false := fun o => (hB1.frozen (p := ⟨w.heap.size + 1, o, none⟩) bR0.1).trans (fR0 o)
    obtain ⟨-, r0, r1, r2⟩ := id bR3
    have f0 := fR3 0
    have f1 := fR3 1
    have f2 := fR3 2
    have q0 := bR3.p0 (.slice none 0 0)
    have q1 := q0.p1 (.slice none 0 0)
    have q2 := q1.p2 (.int .i64 0)
    go_wp2
    have hz := V1.size
    refine bodyPost_ret (v := .tuple #[.agg #[.slice none 0 0, .slice none 0 0, .int .i64 0], .bool false]) (by simp [results, Try.results24, go_sem, q0.2.1, q1.2.2.1, q2.2.2.2]) rfl ⟨_, rfl, OwnD.nil _ _, ?_⟩
    exact below_set (below_set (below_set V1 hz (by omega) _) (by simpa [World.setCell] using hz) (by omega) _) (by simpa [World.setCell] using hz) (by omega) _
theorem cutA_len (d : Dt) (h k : Int) : (1 : Int) + (cutA d h k).1.s.length ≤ 33554432 := by
  unfold cutA
  split
  · rename_i hok
    obtain ⟨m, _, hm, ht, hl, hs, _⟩ := hok.tab
    have := sz_le hm
    rw [(cutD_len d h k).1]; omega
  · simp [noD]
end Go.Proofs.Ytjoddjejobdcoaa
