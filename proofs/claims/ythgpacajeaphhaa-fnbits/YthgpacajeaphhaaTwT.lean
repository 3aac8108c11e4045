import Derived.Test.YthgpacajeaphhaaTwS
namespace Go.Proofs.Ythgpacajeaphhaa
open Go.RowKit
set_option linter.unusedVariables false
set_option linter.unusedSimpArgs false

theorem bigW_any (neg : Bool) (v : Value) (zs : List Int) (w : World) (hr : Rd w v zs) :
    Calls Try.prog 43 #[.bool neg, v] w fun e w' => ∃ s a c L, e = .returned (.agg #[.bool s, .slice a L.length c]) ∧ Own w' w.heap.size (.slice a L.length c) L ∧ Below w.heap.size w w' :=
  (l1Big_any neg v zs w hr).mono fun e w' ⟨a, c, h1, h2, h3⟩ => ⟨_, a, c, _, h1, h2, h3⟩
set_option maxHeartbeats 1000000 in
set_option maxRecDepth 100000 in
/-- l1Sum of any two rows of limbs: some number. -/
theorem sumW_any (p q : Bool) (v u : Value) (xs ys : List Int) (w : World) (hx : Rd w v xs) (hy : Rd w u ys) (hlx : xs.length ≤ 1048576) (hly : ys.length ≤ 1048576) :
    Calls Try.prog 60 #[.agg #[.bool p, v], .agg #[.bool q, u]] w fun e w' => ∃ s a c L, e = .returned (.agg #[.bool s, .slice a L.length c]) ∧ Own w' w.heap.size (.slice a L.length c) L ∧ Below w.heap.size w w' := by
  have hx' := hx
  have hy' := hy
  obtain ⟨a, cap, rfl, _, hzx, hnx, hcx⟩ := hx
  obtain ⟨a', cap', rfl, _, hzy, hny, hcy⟩ := hy
  clear hcx hcy hnx hny
  let A : Obj := Obj.cells #[.bool p, .slice a xs.length cap] 26
  by_cases hpq : p = q
  · subst hpq
    have bA := ((Box.new w (.bool p) (.slice a xs.length cap) 26).alloc (Obj.cells #[.bool p, .slice a' ys.length cap'] 26)).alloc (Obj.cells #[.bool false, .slice none 0 0] 26)
    have bB := (Box.new (w.alloc (Obj.cells #[.bool p, .slice a xs.length cap] 26)) (.bool p) (.slice a' ys.length cap') 26).alloc (Obj.cells #[.bool false, .slice none 0 0] 26)
    have bR := Box.new ((w.alloc (Obj.cells #[.bool p, .slice a xs.length cap] 26)).alloc (Obj.cells #[.bool p, .slice a' ys.length cap'] 26)) (.bool false) (.slice none 0 0) 26
    have fR := Unf.new ((w.alloc (Obj.cells #[.bool p, .slice a xs.length cap] 26)).alloc (Obj.cells #[.bool p, .slice a' ys.length cap'] 26)) #[.bool false, .slice none 0 0] 26
    have rx := ((hx'.alloc (Obj.cells #[.bool p, .slice a xs.length cap] 26)).alloc (Obj.cells #[.bool p, .slice a' ys.length cap'] 26)).alloc (Obj.cells #[.bool false, .slice none 0 0] 26)
    have ry := ((hy'.alloc (Obj.cells #[.bool p, .slice a xs.length cap] 26)).alloc (Obj.cells #[.bool p, .slice a' ys.length cap'] 26)).alloc (Obj.cells #[.bool false, .slice none 0 0] 26)
    simp only [World.size_alloc] at bB bR fR
    have hA := addMag_any _ _ xs ys _ rx.drew ry.drew hlx hly
    have hG := fun W v h => l1Big_lim p v (val xs + val ys) W h
    generalize nz p (val xs + val ys) = s at hG
    generalize lim (val xs + val ys) = L at hA hG
    clear hx' hy' rx ry
    have hne1 : ¬ (w.heap.size + 1 + 1 = w.heap.size) := by omega
    have hne2 : ¬ (w.heap.size = w.heap.size + 1 + 1) := by omega
    go_enter Try.func60, Try.ntmps60
    go_wp2_with fail
    go_region_held3 (fun W => W.cell? ⟨w.heap.size, 0, none⟩ = some (.bool p) ∧ W.cell? ⟨w.heap.size, 1, none⟩ = some (.slice a xs.length cap) ∧ W.cell? ⟨w.heap.size + 1, 0, none⟩ = some (.bool p) ∧ W.cell? ⟨w.heap.size + 1, 1, none⟩ = some (.slice a' ys.length cap')) (go_keep) (first | (go_at_call 51; refine hA.mono ?_; rintro e w1 ⟨a1, c1, rfl, hO1, hB1⟩; have bA1 := bA.drew.keep hB1; have bB1 := bB.drew.keep hB1; obtain ⟨-, x0, x1⟩ := id bA1; obtain ⟨-, y0, y1⟩ := id bB1; have bR1 := bR.drew.keep hB1; have fR1 := fR.drew.keep hB1; have hBW := ((((Below.refl w.heap.size w).alloc (Nat.le_refl _) _).alloc (by simp) _).alloc (by simp; omega) _).drew.trans (hB1.mono (by simp; omega)); have hz1 := fR1.1) | (go_at_call 43; refine (hG _ _ hO1.rd).mono ?_; rintro e w2 ⟨a2, c2, rfl, hO2, hB2⟩; obtain ⟨hz2, r0, r1⟩ := bR1.keep hB2; obtain ⟨-, x2, x3⟩ := bA1.keep hB2; obtain ⟨-, y2, y3⟩ := bB1.keep hB2; have hf2 := (fR1.keep hB2).2))
    all_goals go_wp2
    all_goals refine bodyPost_ret (v := .agg #[.bool s, .slice a2 L.length c2]) (by simp [results, Try.results60, go_sem, r0, r1, hz2]) rfl ⟨s, a2, c2, L, rfl, ?_, ?_⟩
    all_goals first | exact ((hO2.setBelow (by show w.heap.size + 1 + 1 < _; omega) _).setBelow (by show w.heap.size + 1 + 1 < _; omega) _).mono (by omega) | exact ((hBW.trans (hB2.mono hBW.size)).setCell (by show _ ≤ w.heap.size + 1 + 1; omega) _).setCell (by show _ ≤ w.heap.size + 1 + 1; omega) _
  · have bA := ((Box.new w (.bool p) (.slice a xs.length cap) 26).alloc (Obj.cells #[.bool q, .slice a' ys.length cap'] 26)).alloc (Obj.cells #[.bool false, .slice none 0 0] 26)
    have bB := (Box.new (w.alloc (Obj.cells #[.bool p, .slice a xs.length cap] 26)) (.bool q) (.slice a' ys.length cap') 26).alloc (Obj.cells #[.bool false, .slice none 0 0] 26)
    have bR := Box.new ((w.alloc (Obj.cells #[.bool p, .slice a xs.length cap] 26)).alloc (Obj.cells #[.bool q, .slice a' ys.length cap'] 26)) (.bool false) (.slice none 0 0) 26
    have fR := Unf.new ((w.alloc (Obj.cells #[.bool p, .slice a xs.length cap] 26)).alloc (Obj.cells #[.bool q, .slice a' ys.length cap'] 26)) #[.bool false, .slice none 0 0] 26
    have rx := ((hx'.alloc (Obj.cells #[.bool p, .slice a xs.length cap] 26)).alloc (Obj.cells #[.bool q, .slice a' ys.length cap'] 26)).alloc (Obj.cells #[.bool false, .slice none 0 0] 26)
    have ry := ((hy'.alloc (Obj.cells #[.bool p, .slice a xs.length cap] 26)).alloc (Obj.cells #[.bool q, .slice a' ys.length cap'] 26)).alloc (Obj.cells #[.bool false, .slice none 0 0] 26)
    simp only [World.size_alloc] at bB bR fR
    have hC := cmpW_any _ _ xs ys _ rx ry
    have hne1 : ¬ (w.heap.size + 1 + 1 = w.heap.size) := by omega
    have hne2 : ¬ (w.heap.size = w.heap.size + 1 + 1) := by omega
    have hpqb : (p == q) = false := by cases p <;> cases q <;> simp_all
    clear hx' hy'
    go_enter Try.func60, Try.ntmps60
    go_wp2_with fail
    refine hC.mono ?_
    rintro e w0 ⟨cn, rfl, hB0⟩
    clear hC
    by_cases hcn : 0 ≤ cn
    · have hG := fun W v L h => bigW_any p v L W h
      have hW0 := (((Below.refl w.heap.size w).alloc (Nat.le_refl _) (Obj.cells #[.bool p, .slice a xs.length cap] 26)).alloc (by simp) (Obj.cells #[.bool q, .slice a' ys.length cap'] 26)).alloc (by simp; omega) (Obj.cells #[.bool false, .slice none 0 0] 26)
      replace hW0 := hW0.trans (hB0.mono (by simp; omega))
      replace bA := bA.keep hB0
      replace bB := bB.keep hB0
      replace bR := bR.keep hB0
      replace fR := fR.keep hB0
      replace rx := rx.keep hB0
      replace ry := ry.keep hB0
      obtain ⟨-, k0, k1⟩ := id bA
      obtain ⟨-, k2, k3⟩ := id bB
      have hA := subW_any _ _ xs ys w0.drew rx.drew ry.drew hlx
      clear hB0 rx ry
      go_wp2_with fail
      go_region_held3 (fun W => W.cell? ⟨w.heap.size, 0, none⟩ = some (.bool p) ∧ W.cell? ⟨w.heap.size, 1, none⟩ = some (.slice a xs.length cap) ∧ W.cell? ⟨w.heap.size + 1, 0, none⟩ = some (.bool q) ∧ W.cell? ⟨w.heap.size + 1, 1, none⟩ = some (.slice a' ys.length cap')) (go_keep) (first | (go_at_call 74; refine hA.mono ?_; rintro e w1 ⟨a1, c1, L1, rfl, hO1, hB1⟩; have bA1 := bA.drew.keep hB1; have bB1 := bB.drew.keep hB1; obtain ⟨-, x0, x1⟩ := id bA1; obtain ⟨-, y0, y1⟩ := id bB1; have bR1 := bR.drew.keep hB1; have fR1 := fR.drew.keep hB1; have hBW := hW0.drew.trans (hB1.mono hW0.size); have hz1 := fR1.1) | (go_at_call 43; refine (hG _ _ _ hO1.rd).mono ?_; rintro e w2 ⟨s, a2, c2, L, rfl, hO2, hB2⟩; obtain ⟨hz2, r0, r1⟩ := bR1.keep hB2; obtain ⟨-, x2, x3⟩ := bA1.keep hB2; obtain ⟨-, y2, y3⟩ := bB1.keep hB2; have hf2 := (fR1.keep hB2).2))
      all_goals go_wp2
      all_goals refine bodyPost_ret (v := .agg #[.bool s, .slice a2 L.length c2]) (by simp [results, Try.results60, go_sem, r0, r1, hz2]) rfl ⟨s, a2, c2, L, rfl, ?_, ?_⟩
      all_goals first | exact ((hO2.setBelow (by show w.heap.size + 1 + 1 < _; omega) _).setBelow (by show w.heap.size + 1 + 1 < _; omega) _).mono (by have := hBW.size; omega) | exact ((hBW.trans (hB2.mono hBW.size)).setCell (by show _ ≤ w.heap.size + 1 + 1; omega) _).setCell (by show _ ≤ w.heap.size + 1 + 1; omega) _
    · have hG := fun W v L h => bigW_any q v L W h
      have hcn2 : cn < 0 := by omega
      have hW0 := (((Below.refl w.heap.size w).alloc (Nat.le_refl _) (Obj.cells #[.bool p, .slice a xs.length cap] 26)).alloc (by simp) (Obj.cells #[.bool q, .slice a' ys.length cap'] 26)).alloc (by simp; omega) (Obj.cells #[.bool false, .slice none 0 0] 26)
      replace hW0 := hW0.trans (hB0.mono (by simp; omega))
      replace bA := bA.keep hB0
      replace bB := bB.keep hB0
      replace bR := bR.keep hB0
      replace fR := fR.keep hB0
      replace rx := rx.keep hB0
      replace ry := ry.keep hB0
      obtain ⟨-, k0, k1⟩ := id bA
      obtain ⟨-, k2, k3⟩ := id bB
      have hA := subW_any _ _ ys xs w0.drew ry.drew rx.drew hly
      clear hB0 rx ry
      go_wp2_with fail
      go_region_held3 (fun W => W.cell? ⟨w.heap.size, 0, none⟩ = some (.bool p) ∧ W.cell? ⟨w.heap.size, 1, none⟩ = some (.slice a xs.length cap) ∧ W.cell? ⟨w.heap.size + 1, 0, none⟩ = some (.bool q) ∧ W.cell? ⟨w.heap.size + 1, 1, none⟩ = some (.slice a' ys.length cap')) (go_keep) (first | (go_at_call 74; refine hA.mono ?_; rintro e w1 ⟨a1, c1, L1, rfl, hO1, hB1⟩; have bA1 := bA.drew.keep hB1; have bB1 := bB.drew.keep hB1; obtain ⟨-, x0, x1⟩ := id bA1; obtain ⟨-, y0, y1⟩ := id bB1; have bR1 := bR.drew.keep hB1; have fR1 := fR.drew.keep hB1; have hBW := hW0.drew.trans (hB1.mono hW0.size); have hz1 := fR1.1) | (go_at_call 43; refine (hG _ _ _ hO1.rd).mono ?_; rintro e w2 ⟨s, a2, c2, L, rfl, hO2, hB2⟩; obtain ⟨hz2, r0, r1⟩ := bR1.keep hB2; obtain ⟨-, x2, x3⟩ := bA1.keep hB2; obtain ⟨-, y2, y3⟩ := bB1.keep hB2; have hf2 := (fR1.keep hB2).2))
      all_goals go_wp2
      all_goals refine bodyPost_ret (v := .agg #[.bool s, .slice a2 L.length c2]) (by simp [results, Try.results60, go_sem, r0, r1, hz2]) rfl ⟨s, a2, c2, L, rfl, ?_, ?_⟩
      all_goals first | exact ((hO2.setBelow (by show w.heap.size + 1 + 1 < _; omega) _).setBelow (by show w.heap.size + 1 + 1 < _; omega) _).mono (by have := hBW.size; omega) | exact ((hBW.trans (hB2.mono hBW.size)).setCell (by show _ ≤ w.heap.size + 1 + 1; omega) _).setCell (by show _ ≤ w.heap.size + 1 + 1; omega) _
end Go.Proofs.Ythgpacajeaphhaa
