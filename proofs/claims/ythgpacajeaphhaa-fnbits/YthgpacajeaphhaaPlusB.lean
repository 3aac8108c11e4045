import Derived.Test.YthgpacajeaphhaaSum
import Derived.Test.YthgpacajeaphhaaPlus
import Derived.Test.YthgpacajeaphhaaMinus
import Derived.Test.YthgpacajeaphhaaFit
import Derived.Test.YthgpacajeaphhaaBCmp
namespace Go.Proofs.Ythgpacajeaphhaa
open Go.RowKit
set_option linter.unusedVariables false
set_option linter.unusedSimpArgs false

set_option maxHeartbeats 1000000 in
set_option maxRecDepth 100000 in
theorem plusB_any (p q : Bool) (v u : Value) (xs ys : List Int) (w : World) (hx : Rd w v xs) (hy : Rd w u ys) (nx : Norm xs) (ny : Norm ys) (hlx : xs.length ≤ 1048576) (hly : ys.length ≤ 1048576) :
    Calls Try.prog 30 #[.agg #[.bool p, v], .agg #[.bool q, u]] w fun e w' => ∃ a c, e = .returned (.tuple #[.agg #[.bool (fitS (sumR p (val xs) q (val ys)).1 (sumR p (val xs) q (val ys)).2), .slice a (fitL (sumR p (val xs) q (val ys)).2).length c], .int .i64 (fitC (sumR p (val xs) q (val ys)).2)]) ∧ Own w' w.heap.size (.slice a (fitL (sumR p (val xs) q (val ys)).2).length c) (fitL (sumR p (val xs) q (val ys)).2) ∧ Below w.heap.size w w' := by
  have hx' := hx
  have hy' := hy
  obtain ⟨a, cap, rfl, _, hzx, hnx, hcx⟩ := hx
  obtain ⟨a', cap', rfl, _, hzy, hny, hcy⟩ := hy
  clear hcx hcy hnx hny
  by_cases hpq : p = q
  · skip
    subst hpq
    rw [sumR_same]
    simp only
    have bA := ((Box.new w (.bool p) (.slice a xs.length cap) 26).alloc (Obj.cells #[.bool p, .slice a' ys.length cap'] 26)).alloc (Obj.cells #[.bool false, .slice none 0 0] 26)
    have bB := (Box.new (w.alloc (Obj.cells #[.bool p, .slice a xs.length cap] 26)) (.bool p) (.slice a' ys.length cap') 26).alloc (Obj.cells #[.bool false, .slice none 0 0] 26)
    have bR := Box.new ((w.alloc (Obj.cells #[.bool p, .slice a xs.length cap] 26)).alloc (Obj.cells #[.bool p, .slice a' ys.length cap'] 26)) (.bool false) (.slice none 0 0) 26
    have fR := Unf.new ((w.alloc (Obj.cells #[.bool p, .slice a xs.length cap] 26)).alloc (Obj.cells #[.bool p, .slice a' ys.length cap'] 26)) #[.bool false, .slice none 0 0] 26
    have rx := ((hx'.alloc (Obj.cells #[.bool p, .slice a xs.length cap] 26)).alloc (Obj.cells #[.bool p, .slice a' ys.length cap'] 26)).alloc (Obj.cells #[.bool false, .slice none 0 0] 26)
    have ry := ((hy'.alloc (Obj.cells #[.bool p, .slice a xs.length cap] 26)).alloc (Obj.cells #[.bool p, .slice a' ys.length cap'] 26)).alloc (Obj.cells #[.bool false, .slice none 0 0] 26)
    simp only [World.size_alloc] at bB bR fR
    have hne1 : ¬ (w.heap.size + 1 + 1 = w.heap.size) := by omega
    have hne2 : ¬ (w.heap.size = w.heap.size + 1 + 1) := by omega
    replace bA := bA.drew
    replace bB := bB.drew
    replace bR := bR.drew
    replace fR := fR.drew
    replace rx := rx.drew
    replace ry := ry.drew
    have hW0 := (((Below.refl w.heap.size w).alloc (Nat.le_refl _) (Obj.cells #[.bool p, .slice a xs.length cap] 26)).alloc (by simp) (Obj.cells #[.bool p, .slice a' ys.length cap'] 26)).alloc (by simp; omega) (Obj.cells #[.bool false, .slice none 0 0] 26)
    replace hW0 := hW0.drew
    obtain ⟨-, kk0, kk1⟩ := id bA
    obtain ⟨-, kk2, kk3⟩ := id bB
    have hA := plus_any _ _ xs ys _ rx.drew ry.drew hlx hly
    have hlo := fR.drew.1
    have hG := fun B n c a W z h e b => signed_any p B n c a z (val xs + val ys) W h e b
    generalize fitS p (val xs + val ys) = s at hG ⊢
    generalize fitL (val xs + val ys) = L at hG ⊢
    generalize fitC (val xs + val ys) = C at hG ⊢
    have HVL : Hid (val (lim (val xs + val ys)) = val xs + val ys) := val_lim _
    generalize lim (val xs + val ys) = L0 at hA HVL
    clear hx' hy' nx ny rx ry
    go_enter Try.func30, Try.ntmps30
    go_wp2_with fail
    go_region_held3 (fun W => W.cell? ⟨w.heap.size, 0, none⟩ = some (.bool p) ∧ W.cell? ⟨w.heap.size, 1, none⟩ = some (.slice a xs.length cap) ∧ W.cell? ⟨w.heap.size + 1, 0, none⟩ = some (.bool p) ∧ W.cell? ⟨w.heap.size + 1, 1, none⟩ = some (.slice a' ys.length cap')) (go_keep) (fail)
    go_wp2_with fail
    go_region_held3 (fun W => W.cell? ⟨w.heap.size, 0, none⟩ = some (.bool p) ∧ W.cell? ⟨w.heap.size, 1, none⟩ = some (.slice a xs.length cap) ∧ W.cell? ⟨w.heap.size + 1, 0, none⟩ = some (.bool p) ∧ W.cell? ⟨w.heap.size + 1, 1, none⟩ = some (.slice a' ys.length cap')) (go_keep) (first | (go_at_call 39; refine hA.mono ?_; rintro e w1 ⟨a1, c1, rfl, hO1, hB1⟩; have bA1 := bA.drew.keep hB1; have bB1 := bB.drew.keep hB1; obtain ⟨-, x0, x1⟩ := id bA1; obtain ⟨-, y0, y1⟩ := id bB1; have bR1 := bR.drew.keep hB1; have fR1 := fR.drew.keep hB1; have hBW := hW0.drew.trans (hB1.mono hW0.size); have hz1 := fR1.1) | (go_at_call 31; refine (hG _ _ _ _ _ _ hO1 HVL.out hB1.size).mono ?_; rintro e w2 ⟨a2, c2, rfl, hO2, hB2⟩; obtain ⟨hz2, r0, r1⟩ := bR1.keep hB2; obtain ⟨-, x2, x3⟩ := bA1.keep hB2; obtain ⟨-, y2, y3⟩ := bB1.keep hB2; have hf2 := (fR1.keep hB2).2))
    all_goals go_wp2
    all_goals refine bodyPost_ret (v := .tuple #[.agg #[.bool s, .slice a2 L.length c2], .int .i64 C]) (by simp [results, Try.results30, go_sem, r0, r1, hz2]) rfl ⟨a2, c2, rfl, ?_, ?_⟩
    all_goals first | exact ((hO2.setBelow (by show w.heap.size + 1 + 1 < _; exact hlo) _).setBelow (by show w.heap.size + 1 + 1 < _; exact hlo) _).mono (by have := hW0.size; exact Nat.le_of_lt (Nat.lt_of_le_of_lt (by omega) hlo)) | exact ((hBW.trans (hB2.mono hBW.size)).setCell (by show _ ≤ w.heap.size + 1 + 1; omega) _).setCell (by show _ ≤ w.heap.size + 1 + 1; omega) _
  · by_cases hle : val ys ≤ val xs
    · skip
      rw [sumR_ge hpq hle]
      simp only
      have bA := ((Box.new w (.bool p) (.slice a xs.length cap) 26).alloc (Obj.cells #[.bool q, .slice a' ys.length cap'] 26)).alloc (Obj.cells #[.bool false, .slice none 0 0] 26)
      have bB := (Box.new (w.alloc (Obj.cells #[.bool p, .slice a xs.length cap] 26)) (.bool q) (.slice a' ys.length cap') 26).alloc (Obj.cells #[.bool false, .slice none 0 0] 26)
      have bR := Box.new ((w.alloc (Obj.cells #[.bool p, .slice a xs.length cap] 26)).alloc (Obj.cells #[.bool q, .slice a' ys.length cap'] 26)) (.bool false) (.slice none 0 0) 26
      have fR := Unf.new ((w.alloc (Obj.cells #[.bool p, .slice a xs.length cap] 26)).alloc (Obj.cells #[.bool q, .slice a' ys.length cap'] 26)) #[.bool false, .slice none 0 0] 26
      have rx := ((hx'.alloc (Obj.cells #[.bool p, .slice a xs.length cap] 26)).alloc (Obj.cells #[.bool q, .slice a' ys.length cap'] 26)).alloc (Obj.cells #[.bool false, .slice none 0 0] 26)
      have ry := ((hy'.alloc (Obj.cells #[.bool p, .slice a xs.length cap] 26)).alloc (Obj.cells #[.bool q, .slice a' ys.length cap'] 26)).alloc (Obj.cells #[.bool false, .slice none 0 0] 26)
      simp only [World.size_alloc] at bB bR fR
      have hne1 : ¬ (w.heap.size + 1 + 1 = w.heap.size) := by omega
      have hne2 : ¬ (w.heap.size = w.heap.size + 1 + 1) := by omega
      replace bA := bA.drew
      replace bB := bB.drew
      replace bR := bR.drew
      replace fR := fR.drew
      replace rx := rx.drew
      replace ry := ry.drew
      have hW0 := (((Below.refl w.heap.size w).alloc (Nat.le_refl _) (Obj.cells #[.bool p, .slice a xs.length cap] 26)).alloc (by simp) (Obj.cells #[.bool q, .slice a' ys.length cap'] 26)).alloc (by simp; omega) (Obj.cells #[.bool false, .slice none 0 0] 26)
      replace hW0 := hW0.drew
      obtain ⟨-, kk0, kk1⟩ := id bA
      obtain ⟨-, kk2, kk3⟩ := id bB
      have hC := compare_any _ _ xs ys _ rx ry nx ny
      have hcn : 0 ≤ cmpN (val xs) (val ys) := cmpN_nonneg hle
      generalize cmpN (val xs) (val ys) = cn at hC hcn
      have hA := fun W h1 h2 => minus_any (.slice a xs.length cap) (.slice a' ys.length cap') xs ys W h1 h2 hlx (len_le_of hzx hzy ny hle) hle
      have hpqb : (p == q) = false := by cases p <;> cases q <;> simp_all
      have hG := fun B n c a W z h e b => signed_any p B n c a z (val xs - val ys) W h e b
      generalize fitS p (val xs - val ys) = s at hG ⊢
      generalize fitL (val xs - val ys) = L at hG ⊢
      generalize fitC (val xs - val ys) = C at hG ⊢
      clear hx' hy' nx ny hle
      go_enter Try.func30, Try.ntmps30
      go_wp2_with fail
      go_region_held3 (fun W => W.cell? ⟨w.heap.size, 0, none⟩ = some (.bool p) ∧ W.cell? ⟨w.heap.size, 1, none⟩ = some (.slice a xs.length cap) ∧ W.cell? ⟨w.heap.size + 1, 0, none⟩ = some (.bool q) ∧ W.cell? ⟨w.heap.size + 1, 1, none⟩ = some (.slice a' ys.length cap')) (go_keep) (fail)
      go_wp2_with fail
      refine hC.mono ?_
      rintro e w0 ⟨rfl, hB0⟩
      clear hC
      clear kk0 kk1 kk2 kk3
      replace hW0 := hW0.trans (hB0.mono hW0.size)
      replace bA := bA.keep hB0
      replace bB := bB.keep hB0
      replace bR := bR.keep hB0
      replace fR := fR.keep hB0
      replace rx := rx.keep hB0
      replace ry := ry.keep hB0
      obtain ⟨-, k0, k1⟩ := id bA
      obtain ⟨-, k2, k3⟩ := id bB
      have hA := hA w0.drew rx.drew ry.drew
      have hlo : w.heap.size + 1 + 1 < w0.drew.heap.size := fR.drew.1
      have HVL : Hid (val (lim (val xs - val ys)) = val xs - val ys) := val_lim _
      generalize lim (val xs - val ys) = L0 at hA HVL
      clear hB0 rx ry
      go_wp2_with fail
      go_region_held3 (fun W => W.cell? ⟨w.heap.size, 0, none⟩ = some (.bool p) ∧ W.cell? ⟨w.heap.size, 1, none⟩ = some (.slice a xs.length cap) ∧ W.cell? ⟨w.heap.size + 1, 0, none⟩ = some (.bool q) ∧ W.cell? ⟨w.heap.size + 1, 1, none⟩ = some (.slice a' ys.length cap')) (go_keep) (first | (go_at_call 40; refine hA.mono ?_; rintro e w1 ⟨a1, c1, rfl, hO1, hB1⟩; have bA1 := bA.drew.keep hB1; have bB1 := bB.drew.keep hB1; obtain ⟨-, x0, x1⟩ := id bA1; obtain ⟨-, y0, y1⟩ := id bB1; have bR1 := bR.drew.keep hB1; have fR1 := fR.drew.keep hB1; have hBW := hW0.drew.trans (hB1.mono hW0.size); have hz1 := fR1.1) | (go_at_call 31; refine (hG _ _ _ _ _ _ hO1 HVL.out hB1.size).mono ?_; rintro e w2 ⟨a2, c2, rfl, hO2, hB2⟩; obtain ⟨hz2, r0, r1⟩ := bR1.keep hB2; obtain ⟨-, x2, x3⟩ := bA1.keep hB2; obtain ⟨-, y2, y3⟩ := bB1.keep hB2; have hf2 := (fR1.keep hB2).2))
      all_goals go_wp2
      all_goals refine bodyPost_ret (v := .tuple #[.agg #[.bool s, .slice a2 L.length c2], .int .i64 C]) (by simp [results, Try.results30, go_sem, r0, r1, hz2]) rfl ⟨a2, c2, rfl, ?_, ?_⟩
      all_goals first | exact ((hO2.setBelow (by show w.heap.size + 1 + 1 < _; exact hlo) _).setBelow (by show w.heap.size + 1 + 1 < _; exact hlo) _).mono (by have := hW0.size; exact Nat.le_of_lt (Nat.lt_of_le_of_lt (by omega) hlo)) | exact ((hBW.trans (hB2.mono hBW.size)).setCell (by show _ ≤ w.heap.size + 1 + 1; omega) _).setCell (by show _ ≤ w.heap.size + 1 + 1; omega) _
    · skip
      rw [sumR_lt hpq (by omega)]
      simp only
      have bA := ((Box.new w (.bool p) (.slice a xs.length cap) 26).alloc (Obj.cells #[.bool q, .slice a' ys.length cap'] 26)).alloc (Obj.cells #[.bool false, .slice none 0 0] 26)
      have bB := (Box.new (w.alloc (Obj.cells #[.bool p, .slice a xs.length cap] 26)) (.bool q) (.slice a' ys.length cap') 26).alloc (Obj.cells #[.bool false, .slice none 0 0] 26)
      have bR := Box.new ((w.alloc (Obj.cells #[.bool p, .slice a xs.length cap] 26)).alloc (Obj.cells #[.bool q, .slice a' ys.length cap'] 26)) (.bool false) (.slice none 0 0) 26
      have fR := Unf.new ((w.alloc (Obj.cells #[.bool p, .slice a xs.length cap] 26)).alloc (Obj.cells #[.bool q, .slice a' ys.length cap'] 26)) #[.bool false, .slice none 0 0] 26
      have rx := ((hx'.alloc (Obj.cells #[.bool p, .slice a xs.length cap] 26)).alloc (Obj.cells #[.bool q, .slice a' ys.length cap'] 26)).alloc (Obj.cells #[.bool false, .slice none 0 0] 26)
      have ry := ((hy'.alloc (Obj.cells #[.bool p, .slice a xs.length cap] 26)).alloc (Obj.cells #[.bool q, .slice a' ys.length cap'] 26)).alloc (Obj.cells #[.bool false, .slice none 0 0] 26)
      simp only [World.size_alloc] at bB bR fR
      have hne1 : ¬ (w.heap.size + 1 + 1 = w.heap.size) := by omega
      have hne2 : ¬ (w.heap.size = w.heap.size + 1 + 1) := by omega
      replace bA := bA.drew
      replace bB := bB.drew
      replace bR := bR.drew
      replace fR := fR.drew
      replace rx := rx.drew
      replace ry := ry.drew
      have hW0 := (((Below.refl w.heap.size w).alloc (Nat.le_refl _) (Obj.cells #[.bool p, .slice a xs.length cap] 26)).alloc (by simp) (Obj.cells #[.bool q, .slice a' ys.length cap'] 26)).alloc (by simp; omega) (Obj.cells #[.bool false, .slice none 0 0] 26)
      replace hW0 := hW0.drew
      obtain ⟨-, kk0, kk1⟩ := id bA
      obtain ⟨-, kk2, kk3⟩ := id bB
      have hC := compare_any _ _ xs ys _ rx ry nx ny
      have hcn : cmpN (val xs) (val ys) < 0 := by rw [cmpN_lt (by omega)]; decide
      generalize cmpN (val xs) (val ys) = cn at hC hcn
      have hA := fun W h1 h2 => minus_any (.slice a' ys.length cap') (.slice a xs.length cap) ys xs W h1 h2 hly (len_le_of hzy hzx nx (by omega)) (by omega)
      have hpqb : (p == q) = false := by cases p <;> cases q <;> simp_all
      have hG := fun B n c a W z h e b => signed_any q B n c a z (val ys - val xs) W h e b
      generalize fitS q (val ys - val xs) = s at hG ⊢
      generalize fitL (val ys - val xs) = L at hG ⊢
      generalize fitC (val ys - val xs) = C at hG ⊢
      clear hx' hy' nx ny hle
      go_enter Try.func30, Try.ntmps30
      go_wp2_with fail
      go_region_held3 (fun W => W.cell? ⟨w.heap.size, 0, none⟩ = some (.bool p) ∧ W.cell? ⟨w.heap.size, 1, none⟩ = some (.slice a xs.length cap) ∧ W.cell? ⟨w.heap.size + 1, 0, none⟩ = some (.bool q) ∧ W.cell? ⟨w.heap.size + 1, 1, none⟩ = some (.slice a' ys.length cap')) (go_keep) (fail)
      go_wp2_with fail
      refine hC.mono ?_
      rintro e w0 ⟨rfl, hB0⟩
      clear hC
      clear kk0 kk1 kk2 kk3
      replace hW0 := hW0.trans (hB0.mono hW0.size)
      replace bA := bA.keep hB0
      replace bB := bB.keep hB0
      replace bR := bR.keep hB0
      replace fR := fR.keep hB0
      replace rx := rx.keep hB0
      replace ry := ry.keep hB0
      obtain ⟨-, k0, k1⟩ := id bA
      obtain ⟨-, k2, k3⟩ := id bB
      have hA := hA w0.drew ry.drew rx.drew
      have hlo : w.heap.size + 1 + 1 < w0.drew.heap.size := fR.drew.1
      have HVL : Hid (val (lim (val ys - val xs)) = val ys - val xs) := val_lim _
      generalize lim (val ys - val xs) = L0 at hA HVL
      clear hB0 rx ry
      go_wp2_with fail
      go_region_held3 (fun W => W.cell? ⟨w.heap.size, 0, none⟩ = some (.bool p) ∧ W.cell? ⟨w.heap.size, 1, none⟩ = some (.slice a xs.length cap) ∧ W.cell? ⟨w.heap.size + 1, 0, none⟩ = some (.bool q) ∧ W.cell? ⟨w.heap.size + 1, 1, none⟩ = some (.slice a' ys.length cap')) (go_keep) (first | (go_at_call 40; refine hA.mono ?_; rintro e w1 ⟨a1, c1, rfl, hO1, hB1⟩; have bA1 := bA.drew.keep hB1; have bB1 := bB.drew.keep hB1; obtain ⟨-, x0, x1⟩ := id bA1; obtain ⟨-, y0, y1⟩ := id bB1; have bR1 := bR.drew.keep hB1; have fR1 := fR.drew.keep hB1; have hBW := hW0.drew.trans (hB1.mono hW0.size); have hz1 := fR1.1) | (go_at_call 31; refine (hG _ _ _ _ _ _ hO1 HVL.out hB1.size).mono ?_; rintro e w2 ⟨a2, c2, rfl, hO2, hB2⟩; obtain ⟨hz2, r0, r1⟩ := bR1.keep hB2; obtain ⟨-, x2, x3⟩ := bA1.keep hB2; obtain ⟨-, y2, y3⟩ := bB1.keep hB2; have hf2 := (fR1.keep hB2).2))
      all_goals go_wp2
      all_goals refine bodyPost_ret (v := .tuple #[.agg #[.bool s, .slice a2 L.length c2], .int .i64 C]) (by simp [results, Try.results30, go_sem, r0, r1, hz2]) rfl ⟨a2, c2, rfl, ?_, ?_⟩
      all_goals first | exact ((hO2.setBelow (by show w.heap.size + 1 + 1 < _; exact hlo) _).setBelow (by show w.heap.size + 1 + 1 < _; exact hlo) _).mono (by have := hW0.size; exact Nat.le_of_lt (Nat.lt_of_le_of_lt (by omega) hlo)) | exact ((hBW.trans (hB2.mono hBW.size)).setCell (by show _ ≤ w.heap.size + 1 + 1; omega) _).setCell (by show _ ≤ w.heap.size + 1 + 1; omega) _
end Go.Proofs.Ythgpacajeaphhaa
