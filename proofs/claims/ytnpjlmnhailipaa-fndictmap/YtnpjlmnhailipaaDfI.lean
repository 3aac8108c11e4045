import Derived.Test.YtnpjlmnhailipaaOrI
import Derived.Test.YtnpjlmnhailipaaFnI
namespace Go.Proofs.Ytnpjlmnhailipaa
open Go.RowKit Go.Maps
set_option linter.unusedVariables false
set_option linter.unusedSimpArgs false

open Classical in
noncomputable def fdA (d : Dt) (h k : Int) : Int × Int := if OkD d then fnd d h k else (-1, -1)

theorem OkD.tab {d : Dt} (h : OkD d) : ∃ m, 3 ≤ m ∧ m ≤ 16 ∧ d.s = tabOf (2 ^ m) d.e ∧ d.e.length < 2 ^ m ∧ d.s.length = 2 ^ m ∧ d.e.length ≤ 2 ^ m * 2 / 3 := by
  obtain ⟨⟨m, h3, hm, hs⟩, he, _, _, ht, _⟩ := h
  have := Nat.two_pow_pos m
  rw [hs] at ht he
  exact ⟨m, h3, hm, ht, by omega, hs, he⟩

set_option maxRecDepth 100000 in
theorem findS_any (v : Value) (d : Dt) (h k : Int) (w : World) (hr : RdD w v d) (hb : -9223372036854775808 ≤ d.l ∧ d.l < 9223372036854775808) (hh0 : 0 ≤ h) (hh1 : h < 18446744073709551616) :
    Calls Try.prog 20 #[v, .int .u64 h, .int .i64 k] w fun e w' => e = .returned (.tuple #[.int .i64 (fdA d h k).1, .int .i64 (fdA d h k).2]) ∧ Below w.heap.size w w' := by
  obtain ⟨a1, n1, c1, a2, n2, c2, e0⟩ := hr.form
  subst e0
  have bW := Below.three (w := w) (.slice a1 n1 c1) (.slice a2 n2 c2) (.int .i64 d.l) 25
  have bX := Box3.new w (.slice a1 n1 c1) (.slice a2 n2 c2) (.int .i64 d.l) 25
  have HO := fun W r => okS_any (.agg #[.slice a1 n1 c1, .slice a2 n2 c2, .int .i64 d.l]) d W r hb
  by_cases hok : OkD d
  · simp only [fdA, if_pos hok]
    simp only [okD_true hok] at HO
    obtain ⟨m, _, hm, ht, hl, _⟩ := hok.tab
    go_enter Try.func20, Try.ntmps20
    obtain ⟨-, k0, k1, k2⟩ := id bX
    go_wp2_with fail
    refine (HO _ (hr.keep bW)).mono ?_
    rintro e w1 ⟨rfl, hB1⟩
    have V1 := bW.trans (hB1.mono bW.size)
    have bX1 := bX.keep hB1
    clear k0 k1 k2
    obtain ⟨-, k0, k1, k2⟩ := id bX1
    go_wp2_with fail
    refine (l7Find_tab _ d h k m _ (hr.keep V1) hm ht hl hh0 hh1).mono ?_
    rintro e w2 ⟨rfl, hB2⟩
    go_wp2
    refine bodyPost_ret (v := .tuple #[.int .i64 (fnd d h k).1, .int .i64 (fnd d h k).2]) (by simp [results, Try.results20, go_sem]) rfl ⟨rfl, V1.trans (hB2.mono V1.size)⟩
  · simp only [fdA, if_neg hok]
    simp only [okD_false hok] at HO
    go_enter Try.func20, Try.ntmps20
    obtain ⟨-, k0, k1, k2⟩ := id bX
    go_wp2_with fail
    refine (HO _ (hr.keep bW)).mono ?_
    rintro e w1 ⟨rfl, hB1⟩
    go_wp2
    refine bodyPost_ret (v := .tuple #[.int .i64 (-1), .int .i64 (-1)]) (by simp [results, Try.results20, go_sem]) rfl ⟨rfl, bW.trans (hB1.mono bW.size)⟩

set_option maxRecDepth 100000 in
theorem findI_any (v : Value) (d : Dt) (h k : Int) (w : World) (hr : RdD w v d) (hb : -9223372036854775808 ≤ d.l ∧ d.l < 9223372036854775808) (hh0 : 0 ≤ h) (hh1 : h < 18446744073709551616) :
    Calls Try.prog 21 #[v, .int .u64 h, .int .i64 k] w fun e w' => e = .returned (.tuple #[.int .i64 (fdA d h k).1, .int .i64 (fdA d h k).2]) ∧ Below w.heap.size w w' := by
  obtain ⟨a1, n1, c1, a2, n2, c2, e0⟩ := hr.form
  subst e0
  have bW := Below.three (w := w) (.slice a1 n1 c1) (.slice a2 n2 c2) (.int .i64 d.l) 25
  have bX := Box3.new w (.slice a1 n1 c1) (.slice a2 n2 c2) (.int .i64 d.l) 25
  have HO := fun W r => orderedOf_any (.agg #[.slice a1 n1 c1, .slice a2 n2 c2, .int .i64 d.l]) d W r hb
  obtain ⟨-, k0, k1, k2⟩ := id bX
  by_cases hok : OkD d
  · simp only [fdA, if_pos hok]
    simp only [okD_true hok] at HO
    obtain ⟨m, _, hm, ht, hl, _⟩ := hok.tab
    go_enter Try.func21, Try.ntmps21
    go_wp2_with fail
    refine (HO _ (hr.keep bW)).mono ?_
    rintro e w1 ⟨g, rfl, hg, hB1, hM⟩
    obtain ⟨vs, ve, bM, oS, oE, -, -⟩ := hM hok
    have V1 := bW.trans (hB1.mono bW.size)
    clear k0 k1 k2
    go_wp2_with fail
    refine (find_tab g m vs ve _ d h k _ bM oS.rd oE.rd hm ht hl hh0 hh1).mono ?_
    rintro e w2 ⟨rfl, hB2⟩
    go_wp2
    refine bodyPost_ret (v := .tuple #[.int .i64 (fnd d h k).1, .int .i64 (fnd d h k).2]) (by simp [results, Try.results21, go_sem]) rfl ⟨rfl, V1.trans (hB2.mono V1.size)⟩
  · simp only [fdA, if_neg hok]
    simp only [okD_false hok] at HO
    go_enter Try.func21, Try.ntmps21
    go_wp2_with fail
    refine (HO _ (hr.keep bW)).mono ?_
    rintro e w1 ⟨g, rfl, hg, hB1, hM⟩
    go_wp2
    refine bodyPost_ret (v := .tuple #[.int .i64 (-1), .int .i64 (-1)]) (by simp [results, Try.results21, go_sem]) rfl ⟨rfl, bW.trans (hB1.mono bW.size)⟩

end Go.Proofs.Ytnpjlmnhailipaa
