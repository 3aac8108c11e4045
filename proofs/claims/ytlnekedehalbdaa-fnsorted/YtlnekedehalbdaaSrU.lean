import Derived.Test.YtlnekedehalbdaaSrT
namespace Go.Proofs.Ytlnekedehalbdaa
open Go.RowKit
set_option linter.unusedVariables false
set_option linter.unusedSimpArgs false

set_option maxRecDepth 100000 in
set_option maxHeartbeats 1000000 in
theorem lessA_any (w0 w : World) (X : Nat) (ks an : Value) (ans : List Bool) (s : St) (a b : Nat) (hS : SS w0 w X false ks an s) (hk : RdG shB w0 an ans) (ha : a < 16777216) (hb : b < 16777216) (hl : s.h.length < 1000000) :
    Calls Try.prog 40 #[.pointer (some ⟨X, 0, none⟩), .int .i64 a, .int .i64 b] w fun e w' => e = .returned (.bool (ask (tellA ans) s a b).1) ∧ SS w0 w' X false ks an (ask (tellA ans) s a b).2 ∧ Off w w' X := by
  obtain ⟨hX0, aq, hBx, hA, hB⟩ := hS
  obtain ⟨h1, h2, h3, h4, h5, h6, h7, -⟩ := id hBx
  have f3 := h7 3
  have f4 := h7 4
  obtain ⟨qa, qc, eq⟩ := hA.form
  subst eq
  obtain ⟨ka, kc, rfl, hkl, -, -, hkc⟩ := hk
  cases hsk : s.k
  · rw [hsk] at h6 hBx
    have hAl : Below w.heap.size w (w.alloc (.cells #[.int .i64 (a : Int), .int .i64 (b : Int)] 43)) := (Below.refl _ w).alloc (Nat.le_refl _) _
    have hB1 := hBx.keep hAl
    have hA1 := hA.keep hAl
    have hE1 : ∀ j, j < shQ.n → (w.alloc (.cells #[.int .i64 (a : Int), .int .i64 (b : Int)] 43)).cell? ⟨w.heap.size, j, none⟩ = (shQ.cs ((a : Int), (b : Int)))[j]? := by
      intro j hj
      rw [World.cell?_alloc_at _ _ _ _ rfl]
      have : j = 0 ∨ j = 1 := by simp [shQ] at hj; omega
      rcases this with rfl | rfl <;> rfl
    have hok : shQ.ok ((a : Int), (b : Int)) := by show (_ ∧ _) ∧ _; simp only; omega
    have V1 : Below w0.heap.size w0 (w.alloc (.cells #[.int .i64 (a : Int), .int .i64 (b : Int)] 43)) := hB.alloc hB.size _
    have wS : IntKind.i64.wrap (((s.h.length : Int) + 1) - 1) = (s.h.length : Int) := by rw [IntKind.wrap_i64]; omega
    have wT : (s.h.length : Int) + 1 - 1 = (s.h.length : Int) := by omega
    have wU : IntKind.i64.wrap (s.h.length : Int) = (s.h.length : Int) := by rw [IntKind.wrap_i64]; omega
    have hs0 : (0 : Int) ≤ (s.h.length : Int) := by omega
    by_cases hlt : s.h.length < ans.length
    · have hask : ask (tellA ans) s a b = (ans[s.h.length], ⟨s.h ++ [((a : Int), (b : Int))], false⟩) := by
        rw [ask_told hsk (r := ans[s.h.length]) (by simp [tellA, hlt])]
      rw [hask]
      obtain ⟨kb, ko, rfl, hkb, hcell⟩ := hkc (by omega)
      have g1 := hcell s.h.length hlt 0 (by decide)
      simp only [show shB.n = 1 from rfl, Nat.mul_one, Nat.add_zero, shB, List.getElem?_cons_zero] at g1
      obtain ⟨R, hR⟩ : ∃ R, ans[s.h.length] = R := ⟨_, rfl⟩
      rw [hR] at g1 ⊢
      have hkX : kb < w0.heap.size := hkb
      have hkY : kb < X := Nat.lt_of_lt_of_le hkb hX0
      have hng : ¬ (ans.length : Int) < (s.h.length : Int) + 1 := by omega
      have hin : (s.h.length : Int) < (ans.length : Int) := by omega
      clear hkc hcell hask hR
      go_enter Try.func40, Try.ntmps40
      go_wp2_with (at_builtin; refine wpList_append_one Try.info43 rfl (by decide) rfl _ _ 30 rfl Try.underlying30 w0.heap.size _ s.h ((a : Int), (b : Int)) hok w.heap.size 1 rfl rfl hA1 hE1 (by omega) (by have := hB.size; simp; omega) ?_; intro a' c' w' hO hg; have hB2 := hB1.but hg (hB1.ne' hA1); obtain ⟨i1, i2, i3, i4, i5, i6, i7, -⟩ := id hB2; have j3 := i7 3; have j4 := i7 4; have V2 : Below w0.heap.size w0 w' := V1.trans (gb_to hg (fun q hq => (hA1.lt _ hq).1) (by have := hB.size; simp; omega)); have e1 := (V2.cell (p := ⟨kb, ko + s.h.length, none⟩) hkX).trans g1; have hne : ¬ kb = X := Nat.ne_of_lt hkY; have hne2 : ¬ X = kb := fun e => hne e.symm)
      have hOf : Off w (w'.setCell ⟨X, 3, none⟩ (.slice a' (s.h.length + 1) c')) X := ((Off.below hAl).trans (Off.gb hg (own_ask hA1))).trans (Off.set w' X 3 _)
      have hB3 := hB2.set3 (.slice a' (s.h.length + 1) c')
      have V3 : Below w0.heap.size w0 (w'.setCell ⟨X, 3, none⟩ (.slice a' (s.h.length + 1) c')) := V2.setCell hX0 _
      have O3 : OwnG shQ 43 (w'.setCell ⟨X, 3, none⟩ (.slice a' (s.h.length + 1) c')) w0.heap.size (.slice a' (s.h.length + 1) c') (s.h ++ [((a : Int), (b : Int))]) := by
        have := hO.but (gb_set w' X 3 (.slice a' (s.h.length + 1) c')) (hB2.ne hO)
        simpa using this
      have e3 := (V3.cell (p := ⟨kb, ko + s.h.length, none⟩) hkX).trans g1
      generalize w'.setCell ⟨X, 3, none⟩ (.slice a' (s.h.length + 1) c') = W3 at *
      obtain ⟨m1, m2, m3, m4, m5, m6, m7, -⟩ := id hB3
      have n4 := m7 4
      clear i1 i2 i3 i4 i5 i6 i7 j3 j4 h2 h3 h4 h5 h6 h7 f3 f4
      go_region_held3 (fun W => W.cell? ⟨X, 3, none⟩ = some (.slice a' (s.h.length + 1) c') ∧ W.cell? ⟨X, 2, none⟩ = some (.slice (some ⟨kb, ko, none⟩) ans.length kc)) (go_keep) (fail)
      have hB4 := hB3.keep (Below.refl _ W3).drew
      have O4 := O3.drew
      have V4 := V3.drew
      have hO4 := hOf.trans (Off.below (Below.refl _ W3).drew)
      obtain ⟨p1, p2, p3, p4, p5, p6, p7, -⟩ := id hB4
      have e4 : W3.drew.cell? ⟨kb, ko + s.h.length, none⟩ = some (.bool R) := e3
      generalize W3.drew = W4 at *
      go_wp2_with fail
      go_region_held3 (fun W => W.cell? ⟨X, 3, none⟩ = some (.slice a' (s.h.length + 1) c') ∧ W.cell? ⟨X, 2, none⟩ = some (.slice (some ⟨kb, ko, none⟩) ans.length kc) ∧ W.cell? ⟨kb, ko + s.h.length, none⟩ = some (.bool R)) (go_keep) (fail)
      all_goals
        go_wp2
        go_ret
        exact ⟨rfl, ⟨hX0, _, hB4.keep (Below.refl _ _).drew, O4.drew, V4.drew⟩, hO4.trans (Off.below (Below.refl _ _).drew)⟩
    · have hask : ask (tellA ans) s a b = (false, ⟨s.h ++ [((a : Int), (b : Int))], true⟩) := by
        rw [ask_none hsk (by simp [tellA]; omega)]
      rw [hask]
      have hng : (ans.length : Int) < (s.h.length : Int) + 1 := by omega
      clear hkc hask
      go_enter Try.func40, Try.ntmps40
      go_wp2_with (at_builtin; refine wpList_append_one Try.info43 rfl (by decide) rfl _ _ 30 rfl Try.underlying30 w0.heap.size _ s.h ((a : Int), (b : Int)) hok w.heap.size 1 rfl rfl hA1 hE1 (by omega) (by have := hB.size; simp; omega) ?_; intro a' c' w' hO hg; have hB2 := hB1.but hg (hB1.ne' hA1); obtain ⟨i1, i2, i3, i4, i5, i6, i7, -⟩ := id hB2; have j3 := i7 3; have j4 := i7 4; have V2 : Below w0.heap.size w0 w' := V1.trans (gb_to hg (fun q hq => (hA1.lt _ hq).1) (by have := hB.size; simp; omega)))
      have hOf : Off w (w'.setCell ⟨X, 3, none⟩ (.slice a' (s.h.length + 1) c')) X := ((Off.below hAl).trans (Off.gb hg (own_ask hA1))).trans (Off.set w' X 3 _)
      have hB3 := hB2.set3 (.slice a' (s.h.length + 1) c')
      have V3 : Below w0.heap.size w0 (w'.setCell ⟨X, 3, none⟩ (.slice a' (s.h.length + 1) c')) := V2.setCell hX0 _
      have O3 : OwnG shQ 43 (w'.setCell ⟨X, 3, none⟩ (.slice a' (s.h.length + 1) c')) w0.heap.size (.slice a' (s.h.length + 1) c') (s.h ++ [((a : Int), (b : Int))]) := by
        have := hO.but (gb_set w' X 3 (.slice a' (s.h.length + 1) c')) (hB2.ne hO)
        simpa using this
      generalize w'.setCell ⟨X, 3, none⟩ (.slice a' (s.h.length + 1) c') = W3 at *
      obtain ⟨m1, m2, m3, m4, m5, m6, m7, -⟩ := id hB3
      have n4 := m7 4
      clear i1 i2 i3 i4 i5 i6 i7 j3 j4 h2 h3 h4 h5 h6 h7 f3 f4
      go_region_held3 (fun W => W.cell? ⟨X, 3, none⟩ = some (.slice a' (s.h.length + 1) c') ∧ W.cell? ⟨X, 2, none⟩ = some (.slice ka ans.length kc)) (go_keep) (fail)
      have hB4 := hB3.keep (Below.refl _ W3).drew
      have O4 := O3.drew
      have V4 := V3.drew
      have hO4 := hOf.trans (Off.below (Below.refl _ W3).drew)
      obtain ⟨p1, p2, p3, p4, p5, p6, p7, -⟩ := id hB4
      have q4 := p7 4
      generalize W3.drew = W4 at *
      go_wp2_with fail
      go_ret
      exact ⟨rfl, ⟨hX0, _, hB4.set4 true, O4.but (gb_set W4 X 4 (.bool true)) (hB4.ne O4), V4.setCell hX0 _⟩, hO4.trans (Off.set _ X 4 _)⟩
  · have hask := ask_stuck (t := tellA ans) hsk (a : Int) (b : Int)
    rw [hask]
    rw [hsk] at h6
    go_enter Try.func40, Try.ntmps40
    go_wp2_with fail
    go_ret
    exact ⟨rfl, ⟨hX0, _, hBx, hA, hB⟩, Off.refl _ _⟩
end Go.Proofs.Ytlnekedehalbdaa
