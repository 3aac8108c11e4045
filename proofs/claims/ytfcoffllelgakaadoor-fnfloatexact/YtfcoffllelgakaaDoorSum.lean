import Derived.Test.YtfcoffllelgakaaDoorSub

import Derived.Test.YtfcoffllelgakaaDoorCmp
import Derived.Test.YtfcoffllelgakaaDoorOf
import Derived.Deep.RegionHeld3
namespace Go.Proofs.YtfcoffllelgakaaDoor
open Go.RowKit
set_option linter.unusedVariables false
set_option linter.unusedSimpArgs false

theorem l1Big_lim (neg : Bool) (v : Value) (n : Nat) (w : World) (hr : Rd w v (lim n)) :
    Calls Tryd.prog 45 #[.bool neg, v] w fun e w' => ∃ a c, e = .returned (.agg #[.bool (nz neg n), .slice a (lim n).length c]) ∧ Own w' w.heap.size (.slice a (lim n).length c) (lim n) ∧ Below w.heap.size w w' := by
  have := l1Big_any neg v (lim n) w hr
  rw [val_lim] at this
  exact this

/-- The sum of two numbers: its sign, its absolute value. -/
def sumR (p : Bool) (x : Nat) (q : Bool) (y : Nat) : Bool × Nat := if p = q then (p, x + y) else if y ≤ x then (p, x - y) else (q, y - x)
theorem sumR_same (p : Bool) (x y : Nat) : sumR p x p y = (p, x + y) := by unfold sumR; rw [if_pos rfl]
theorem sumR_ge {p q : Bool} (h : ¬ p = q) {x y : Nat} (h1 : y ≤ x) : sumR p x q y = (p, x - y) := by unfold sumR; rw [if_neg h, if_pos h1]
theorem sumR_lt {p q : Bool} (h : ¬ p = q) {x y : Nat} (h1 : x < y) : sumR p x q y = (q, y - x) := by unfold sumR; rw [if_neg h, if_neg (by omega)]
theorem len_le_of {xs ys : List Int} (hx : Limbs xs) (hy : Limbs ys) (ny : Norm ys) (h : val ys ≤ val xs) : ys.length ≤ xs.length := by
  rcases Nat.lt_or_ge xs.length ys.length with h1 | h1
  · have := val_lt_of_len hx hy ny h1; omega
  · exact h1
theorem cmpN_nonneg {m n : Nat} (h : n ≤ m) : 0 ≤ cmpN m n := by unfold cmpN; split <;> (try split) <;> omega

theorem Norm.lim (n : Nat) : Norm (lim n) := lim_norm n

theorem okB_norm {neg : Bool} {zs : List Int} (h : okB neg zs = true) : Norm zs ∧ zs.length ≤ 128 := by
  unfold okB at h
  by_cases h0 : zs.length = 0
  · exact ⟨.inl h0, by omega⟩
  · rw [if_neg h0] at h
    simp at h
    exact ⟨.inr (by simpa [List.getD] using h.2), h.1⟩

set_option maxHeartbeats 1000000 in
set_option maxRecDepth 100000 in
theorem l1Sum_any (p q : Bool) (v u : Value) (xs ys : List Int) (w : World) (hx : Rd w v xs) (hy : Rd w u ys) (nx : Norm xs) (ny : Norm ys) (hlx : xs.length ≤ 1048576) (hly : ys.length ≤ 1048576) :
    Calls Tryd.prog 46 #[.agg #[.bool p, v], .agg #[.bool q, u]] w fun e w' => ∃ a c, e = .returned (.agg #[.bool (nz (sumR p (val xs) q (val ys)).1 (sumR p (val xs) q (val ys)).2), .slice a (lim (sumR p (val xs) q (val ys)).2).length c]) ∧ Own w' w.heap.size (.slice a (lim (sumR p (val xs) q (val ys)).2).length c) (lim (sumR p (val xs) q (val ys)).2) ∧ Below w.heap.size w w' := by
  have hx' := hx
  have hy' := hy
  obtain ⟨a, cap, rfl, _, hzx, hnx, hcx⟩ := hx
  obtain ⟨a', cap', rfl, _, hzy, hny, hcy⟩ := hy
  clear hcx hcy hnx hny
  let A : Obj := Obj.cells #[.bool p, .slice a xs.length cap] 29
  by_cases hpq : p = q
  · subst hpq
    rw [sumR_same]
    simp only
    have bA := ((Box.new w (.bool p) (.slice a xs.length cap) 29).alloc (Obj.cells #[.bool p, .slice a' ys.length cap'] 29)).alloc (Obj.cells #[.bool false, .slice none 0 0] 29)
    have bB := (Box.new (w.alloc (Obj.cells #[.bool p, .slice a xs.length cap] 29)) (.bool p) (.slice a' ys.length cap') 29).alloc (Obj.cells #[.bool false, .slice none 0 0] 29)
    have bR := Box.new ((w.alloc (Obj.cells #[.bool p, .slice a xs.length cap] 29)).alloc (Obj.cells #[.bool p, .slice a' ys.length cap'] 29)) (.bool false) (.slice none 0 0) 29
    have fR := Unf.new ((w.alloc (Obj.cells #[.bool p, .slice a xs.length cap] 29)).alloc (Obj.cells #[.bool p, .slice a' ys.length cap'] 29)) #[.bool false, .slice none 0 0] 29
    have rx := ((hx'.alloc (Obj.cells #[.bool p, .slice a xs.length cap] 29)).alloc (Obj.cells #[.bool p, .slice a' ys.length cap'] 29)).alloc (Obj.cells #[.bool false, .slice none 0 0] 29)
    have ry := ((hy'.alloc (Obj.cells #[.bool p, .slice a xs.length cap] 29)).alloc (Obj.cells #[.bool p, .slice a' ys.length cap'] 29)).alloc (Obj.cells #[.bool false, .slice none 0 0] 29)
    simp only [World.size_alloc] at bB bR fR
    have hA := addMag_any _ _ xs ys _ rx.drew ry.drew hlx hly
    have hG := fun W v h => l1Big_lim p v (val xs + val ys) W h
    generalize nz p (val xs + val ys) = s at hG ⊢
    generalize lim (val xs + val ys) = L at hA hG ⊢
    clear hx' hy' nx ny rx ry
    have hne1 : ¬ (w.heap.size + 1 + 1 = w.heap.size) := by omega
    have hne2 : ¬ (w.heap.size = w.heap.size + 1 + 1) := by omega
    go_enter Tryd.func46, Tryd.ntmps46
    go_wp2_with fail
    go_region_held3 (fun W => W.cell? ⟨w.heap.size, 0, none⟩ = some (.bool p) ∧ W.cell? ⟨w.heap.size, 1, none⟩ = some (.slice a xs.length cap) ∧ W.cell? ⟨w.heap.size + 1, 0, none⟩ = some (.bool p) ∧ W.cell? ⟨w.heap.size + 1, 1, none⟩ = some (.slice a' ys.length cap')) (go_keep) (first | (go_at_call 57; refine hA.mono ?_; rintro e w1 ⟨a1, c1, rfl, hO1, hB1⟩; have bA1 := bA.drew.keep hB1; have bB1 := bB.drew.keep hB1; obtain ⟨-, x0, x1⟩ := id bA1; obtain ⟨-, y0, y1⟩ := id bB1; have bR1 := bR.drew.keep hB1; have fR1 := fR.drew.keep hB1; have hBW := ((((Below.refl w.heap.size w).alloc (Nat.le_refl _) _).alloc (by simp) _).alloc (by simp; omega) _).drew.trans (hB1.mono (by simp; omega)); have hz1 := fR1.1) | (go_at_call 45; refine (hG _ _ hO1.rd).mono ?_; rintro e w2 ⟨a2, c2, rfl, hO2, hB2⟩; obtain ⟨hz2, r0, r1⟩ := bR1.keep hB2; obtain ⟨-, x2, x3⟩ := bA1.keep hB2; obtain ⟨-, y2, y3⟩ := bB1.keep hB2; have hf2 := (fR1.keep hB2).2))
    all_goals go_wp2
    all_goals refine bodyPost_ret (v := .agg #[.bool s, .slice a2 L.length c2]) (by simp [results, Tryd.results46, go_sem, r0, r1, hz2]) rfl ⟨a2, c2, rfl, ?_, ?_⟩
    all_goals first | exact ((hO2.setBelow (by show w.heap.size + 1 + 1 < _; omega) _).setBelow (by show w.heap.size + 1 + 1 < _; omega) _).mono (by omega) | exact ((hBW.trans (hB2.mono hBW.size)).setCell (by show _ ≤ w.heap.size + 1 + 1; omega) _).setCell (by show _ ≤ w.heap.size + 1 + 1; omega) _
  · by_cases hle : val ys ≤ val xs
    · skip
      rw [sumR_ge hpq hle]
      simp only
      have bA := ((Box.new w (.bool p) (.slice a xs.length cap) 29).alloc (Obj.cells #[.bool q, .slice a' ys.length cap'] 29)).alloc (Obj.cells #[.bool false, .slice none 0 0] 29)
      have bB := (Box.new (w.alloc (Obj.cells #[.bool p, .slice a xs.length cap] 29)) (.bool q) (.slice a' ys.length cap') 29).alloc (Obj.cells #[.bool false, .slice none 0 0] 29)
      have bR := Box.new ((w.alloc (Obj.cells #[.bool p, .slice a xs.length cap] 29)).alloc (Obj.cells #[.bool q, .slice a' ys.length cap'] 29)) (.bool false) (.slice none 0 0) 29
      have fR := Unf.new ((w.alloc (Obj.cells #[.bool p, .slice a xs.length cap] 29)).alloc (Obj.cells #[.bool q, .slice a' ys.length cap'] 29)) #[.bool false, .slice none 0 0] 29
      have rx := ((hx'.alloc (Obj.cells #[.bool p, .slice a xs.length cap] 29)).alloc (Obj.cells #[.bool q, .slice a' ys.length cap'] 29)).alloc (Obj.cells #[.bool false, .slice none 0 0] 29)
      have ry := ((hy'.alloc (Obj.cells #[.bool p, .slice a xs.length cap] 29)).alloc (Obj.cells #[.bool q, .slice a' ys.length cap'] 29)).alloc (Obj.cells #[.bool false, .slice none 0 0] 29)
      simp only [World.size_alloc] at bB bR fR
      have hC := cmpS_any _ _ xs ys _ rx ry nx ny
      have hcn : 0 ≤ cmpN (val xs) (val ys) := cmpN_nonneg hle
      generalize cmpN (val xs) (val ys) = cn at hC hcn
      have hA := fun W h1 h2 => subMag_any (.slice a xs.length cap) (.slice a' ys.length cap') xs ys W h1 h2 hlx (len_le_of hzx hzy ny hle) hle
      have hG := fun W v h => l1Big_lim p v (val xs - val ys) W h
      generalize nz p (val xs - val ys) = s at hG ⊢
      generalize lim (val xs - val ys) = L at hA hG ⊢
      have hne1 : ¬ (w.heap.size + 1 + 1 = w.heap.size) := by omega
      have hne2 : ¬ (w.heap.size = w.heap.size + 1 + 1) := by omega
      have hpqb : (p == q) = false := by cases p <;> cases q <;> simp_all
      clear hx' hy' nx ny hle
      go_enter Tryd.func46, Tryd.ntmps46
      go_wp2_with fail
      refine hC.mono ?_
      rintro e w0 ⟨rfl, hB0⟩
      clear hC
      have hW0 := (((Below.refl w.heap.size w).alloc (Nat.le_refl _) (Obj.cells #[.bool p, .slice a xs.length cap] 29)).alloc (by simp) (Obj.cells #[.bool q, .slice a' ys.length cap'] 29)).alloc (by simp; omega) (Obj.cells #[.bool false, .slice none 0 0] 29)
      replace hW0 := hW0.trans (hB0.mono (by simp; omega))
      replace bA := bA.keep hB0
      replace bB := bB.keep hB0
      replace bR := bR.keep hB0
      replace fR := fR.keep hB0
      replace rx := rx.keep hB0
      replace ry := ry.keep hB0
      obtain ⟨-, k0, k1⟩ := id bA
      obtain ⟨-, k2, k3⟩ := id bB
      have hA := hA w0.drew rx.drew ry.drew
      clear hB0 rx ry
      go_wp2_with fail
      go_region_held3 (fun W => W.cell? ⟨w.heap.size, 0, none⟩ = some (.bool p) ∧ W.cell? ⟨w.heap.size, 1, none⟩ = some (.slice a xs.length cap) ∧ W.cell? ⟨w.heap.size + 1, 0, none⟩ = some (.bool q) ∧ W.cell? ⟨w.heap.size + 1, 1, none⟩ = some (.slice a' ys.length cap')) (go_keep) (first | (go_at_call 82; refine hA.mono ?_; rintro e w1 ⟨a1, c1, rfl, hO1, hB1⟩; have bA1 := bA.drew.keep hB1; have bB1 := bB.drew.keep hB1; obtain ⟨-, x0, x1⟩ := id bA1; obtain ⟨-, y0, y1⟩ := id bB1; have bR1 := bR.drew.keep hB1; have fR1 := fR.drew.keep hB1; have hBW := hW0.drew.trans (hB1.mono hW0.size); have hz1 := fR1.1) | (go_at_call 45; refine (hG _ _ hO1.rd).mono ?_; rintro e w2 ⟨a2, c2, rfl, hO2, hB2⟩; obtain ⟨hz2, r0, r1⟩ := bR1.keep hB2; obtain ⟨-, x2, x3⟩ := bA1.keep hB2; obtain ⟨-, y2, y3⟩ := bB1.keep hB2; have hf2 := (fR1.keep hB2).2))
      all_goals go_wp2
      all_goals refine bodyPost_ret (v := .agg #[.bool s, .slice a2 L.length c2]) (by simp [results, Tryd.results46, go_sem, r0, r1, hz2]) rfl ⟨a2, c2, rfl, ?_, ?_⟩
      all_goals first | exact ((hO2.setBelow (by show w.heap.size + 1 + 1 < _; omega) _).setBelow (by show w.heap.size + 1 + 1 < _; omega) _).mono (by have := hBW.size; omega) | exact ((hBW.trans (hB2.mono hBW.size)).setCell (by show _ ≤ w.heap.size + 1 + 1; omega) _).setCell (by show _ ≤ w.heap.size + 1 + 1; omega) _
    · skip
      rw [sumR_lt hpq (by omega)]
      simp only
      have bA := ((Box.new w (.bool p) (.slice a xs.length cap) 29).alloc (Obj.cells #[.bool q, .slice a' ys.length cap'] 29)).alloc (Obj.cells #[.bool false, .slice none 0 0] 29)
      have bB := (Box.new (w.alloc (Obj.cells #[.bool p, .slice a xs.length cap] 29)) (.bool q) (.slice a' ys.length cap') 29).alloc (Obj.cells #[.bool false, .slice none 0 0] 29)
      have bR := Box.new ((w.alloc (Obj.cells #[.bool p, .slice a xs.length cap] 29)).alloc (Obj.cells #[.bool q, .slice a' ys.length cap'] 29)) (.bool false) (.slice none 0 0) 29
      have fR := Unf.new ((w.alloc (Obj.cells #[.bool p, .slice a xs.length cap] 29)).alloc (Obj.cells #[.bool q, .slice a' ys.length cap'] 29)) #[.bool false, .slice none 0 0] 29
      have rx := ((hx'.alloc (Obj.cells #[.bool p, .slice a xs.length cap] 29)).alloc (Obj.cells #[.bool q, .slice a' ys.length cap'] 29)).alloc (Obj.cells #[.bool false, .slice none 0 0] 29)
      have ry := ((hy'.alloc (Obj.cells #[.bool p, .slice a xs.length cap] 29)).alloc (Obj.cells #[.bool q, .slice a' ys.length cap'] 29)).alloc (Obj.cells #[.bool false, .slice none 0 0] 29)
      simp only [World.size_alloc] at bB bR fR
      have hC := cmpS_any _ _ xs ys _ rx ry nx ny
      have hcn : cmpN (val xs) (val ys) < 0 := by rw [cmpN_lt (by omega)]; decide
      generalize cmpN (val xs) (val ys) = cn at hC hcn
      have hA := fun W h1 h2 => subMag_any (.slice a' ys.length cap') (.slice a xs.length cap) ys xs W h1 h2 hly (len_le_of hzy hzx nx (by omega)) (by omega)
      have hG := fun W v h => l1Big_lim q v (val ys - val xs) W h
      generalize nz q (val ys - val xs) = s at hG ⊢
      generalize lim (val ys - val xs) = L at hA hG ⊢
      have hne1 : ¬ (w.heap.size + 1 + 1 = w.heap.size) := by omega
      have hne2 : ¬ (w.heap.size = w.heap.size + 1 + 1) := by omega
      have hpqb : (p == q) = false := by cases p <;> cases q <;> simp_all
      clear hx' hy' nx ny hle
      go_enter Tryd.func46, Tryd.ntmps46
      go_wp2_with fail
      refine hC.mono ?_
      rintro e w0 ⟨rfl, hB0⟩
      clear hC
      have hW0 := (((Below.refl w.heap.size w).alloc (Nat.le_refl _) (Obj.cells #[.bool p, .slice a xs.length cap] 29)).alloc (by simp) (Obj.cells #[.bool q, .slice a' ys.length cap'] 29)).alloc (by simp; omega) (Obj.cells #[.bool false, .slice none 0 0] 29)
      replace hW0 := hW0.trans (hB0.mono (by simp; omega))
      replace bA := bA.keep hB0
      replace bB := bB.keep hB0
      replace bR := bR.keep hB0
      replace fR := fR.keep hB0
      replace rx := rx.keep hB0
      replace ry := ry.keep hB0
      obtain ⟨-, k0, k1⟩ := id bA
      obtain ⟨-, k2, k3⟩ := id bB
      have hA := hA w0.drew ry.drew rx.drew
      clear hB0 rx ry
      go_wp2_with fail
      go_region_held3 (fun W => W.cell? ⟨w.heap.size, 0, none⟩ = some (.bool p) ∧ W.cell? ⟨w.heap.size, 1, none⟩ = some (.slice a xs.length cap) ∧ W.cell? ⟨w.heap.size + 1, 0, none⟩ = some (.bool q) ∧ W.cell? ⟨w.heap.size + 1, 1, none⟩ = some (.slice a' ys.length cap')) (go_keep) (first | (go_at_call 82; refine hA.mono ?_; rintro e w1 ⟨a1, c1, rfl, hO1, hB1⟩; have bA1 := bA.drew.keep hB1; have bB1 := bB.drew.keep hB1; obtain ⟨-, x0, x1⟩ := id bA1; obtain ⟨-, y0, y1⟩ := id bB1; have bR1 := bR.drew.keep hB1; have fR1 := fR.drew.keep hB1; have hBW := hW0.drew.trans (hB1.mono hW0.size); have hz1 := fR1.1) | (go_at_call 45; refine (hG _ _ hO1.rd).mono ?_; rintro e w2 ⟨a2, c2, rfl, hO2, hB2⟩; obtain ⟨hz2, r0, r1⟩ := bR1.keep hB2; obtain ⟨-, x2, x3⟩ := bA1.keep hB2; obtain ⟨-, y2, y3⟩ := bB1.keep hB2; have hf2 := (fR1.keep hB2).2))
      all_goals go_wp2
      all_goals refine bodyPost_ret (v := .agg #[.bool s, .slice a2 L.length c2]) (by simp [results, Tryd.results46, go_sem, r0, r1, hz2]) rfl ⟨a2, c2, rfl, ?_, ?_⟩
      all_goals first | exact ((hO2.setBelow (by show w.heap.size + 1 + 1 < _; omega) _).setBelow (by show w.heap.size + 1 + 1 < _; omega) _).mono (by have := hBW.size; omega) | exact ((hBW.trans (hB2.mono hBW.size)).setCell (by show _ ≤ w.heap.size + 1 + 1; omega) _).setCell (by show _ ≤ w.heap.size + 1 + 1; omega) _
end Go.Proofs.YtfcoffllelgakaaDoor
