import Derived.Test.YthgpacajeaphhaaFloor
import Derived.Test.YthgpacajeaphhaaCut
import Derived.Test.YthgpacajeaphhaaFit2
namespace Go.Proofs.Ythgpacajeaphhaa
open Go.RowKit
set_option linter.unusedVariables false
set_option linter.unusedSimpArgs false

set_option maxHeartbeats 4000000 in
set_option maxRecDepth 100000 in
theorem dm_impl_a (p q : Bool) (v u : Value) (xs ys : List Int) (w : World) (hx : Rd w v xs) (hy : Rd w u ys) (hoA : okB p xs = false) :
    Calls Try.prog 17 #[.agg #[.bool p, v], .agg #[.bool q, u]] w fun e w' => ∃ a c a' c', e = .returned (.tuple #[.agg #[.bool false, .slice a (([] : List Int)).length c], .agg #[.bool false, .slice a' (([] : List Int)).length c'], .int .i64 1]) ∧ Own w' w.heap.size (.slice a (([] : List Int)).length c) (([] : List Int)) ∧ Own w' w.heap.size (.slice a' (([] : List Int)).length c') (([] : List Int)) ∧ Apart (.slice a (([] : List Int)).length c) (.slice a' (([] : List Int)).length c') ∧ Below w.heap.size w w' := by
  have hx' := hx
  have hy' := hy
  obtain ⟨a, cap, rfl, _, hzx, hnx, hcx⟩ := hx
  obtain ⟨a', cap', rfl, _, hzy, hny, hcy⟩ := hy
  clear hcx hcy hnx hny
  have bA := (((Box.new w (.bool p) (.slice a xs.length cap) 26).alloc (Obj.cells #[.bool q, .slice a' ys.length cap'] 26)).alloc (Obj.cells #[.bool false, .slice none 0 0] 26)).alloc (Obj.cells #[.bool false, .slice none 0 0] 26)
  have bB := ((Box.new (w.alloc (Obj.cells #[.bool p, .slice a xs.length cap] 26)) (.bool q) (.slice a' ys.length cap') 26).alloc (Obj.cells #[.bool false, .slice none 0 0] 26)).alloc (Obj.cells #[.bool false, .slice none 0 0] 26)
  have rx := (((hx'.alloc (Obj.cells #[.bool p, .slice a xs.length cap] 26)).alloc (Obj.cells #[.bool q, .slice a' ys.length cap'] 26)).alloc (Obj.cells #[.bool false, .slice none 0 0] 26)).alloc (Obj.cells #[.bool false, .slice none 0 0] 26)
  have ry := (((hy'.alloc (Obj.cells #[.bool p, .slice a xs.length cap] 26)).alloc (Obj.cells #[.bool q, .slice a' ys.length cap'] 26)).alloc (Obj.cells #[.bool false, .slice none 0 0] 26)).alloc (Obj.cells #[.bool false, .slice none 0 0] 26)
  have hW := ((((Below.refl w.heap.size w).alloc (Nat.le_refl _) (Obj.cells #[.bool p, .slice a xs.length cap] 26)).alloc (by simp) (Obj.cells #[.bool q, .slice a' ys.length cap'] 26)).alloc (by simp; omega) (Obj.cells #[.bool false, .slice none 0 0] 26)).alloc (by simp; omega) (Obj.cells #[.bool false, .slice none 0 0] 26)
  have bR := (Box.new ((w.alloc (Obj.cells #[.bool p, .slice a xs.length cap] 26)).alloc (Obj.cells #[.bool q, .slice a' ys.length cap'] 26)) (.bool false) (.slice none 0 0) 26).alloc (Obj.cells #[.bool false, .slice none 0 0] 26)
  have fR := (Unf.new ((w.alloc (Obj.cells #[.bool p, .slice a xs.length cap] 26)).alloc (Obj.cells #[.bool q, .slice a' ys.length cap'] 26)) #[.bool false, .slice none 0 0] 26).keep ((Below.refl _ _).alloc (Nat.le_refl _) (Obj.cells #[.bool false, .slice none 0 0] 26))
  have bT := Box.new (((w.alloc (Obj.cells #[.bool p, .slice a xs.length cap] 26)).alloc (Obj.cells #[.bool q, .slice a' ys.length cap'] 26)).alloc (Obj.cells #[.bool false, .slice none 0 0] 26)) (.bool false) (.slice none 0 0) 26
  have fT := Unf.new (((w.alloc (Obj.cells #[.bool p, .slice a xs.length cap] 26)).alloc (Obj.cells #[.bool q, .slice a' ys.length cap'] 26)).alloc (Obj.cells #[.bool false, .slice none 0 0] 26)) #[.bool false, .slice none 0 0] 26
  simp only [World.size_alloc] at bB bR fR bT fT
  clear hx' hy'
  have hokA := fun W h => bigOk_any p (.slice a xs.length cap) xs W h
  rw [hoA] at hokA
  clear hoA
  have d1 : ¬ (w.heap.size + 1 + 1 = w.heap.size + 1 + 1 + 1) := by omega
  have d2 : ¬ (w.heap.size + 1 + 1 + 1 = w.heap.size + 1 + 1) := by omega
  go_enter Try.func17, Try.ntmps17
  go_wp2_with fail
  refine (hokA _ rx).mono ?_
  rintro e w1 ⟨rfl, hB⟩
  clear hokA
  replace hW := hW.trans (hB.mono hW.size)
  replace bA := bA.keep hB
  replace bB := bB.keep hB
  replace rx := rx.keep hB
  replace ry := ry.keep hB
  replace bR := bR.keep hB
  replace fR := fR.keep hB
  replace bT := bT.keep hB
  replace fT := fT.keep hB
  clear hB
  obtain ⟨-, k0, k1⟩ := id bA
  obtain ⟨-, k2, k3⟩ := id bB
  obtain ⟨hzr, r0, r1⟩ := id bR
  obtain ⟨-, hfr⟩ := id fR
  obtain ⟨hzt, t0, t1⟩ := id bT
  obtain ⟨-, hft⟩ := id fT
  go_wp2
  refine bodyPost_ret (v := .tuple #[.agg #[.bool false, .slice none 0 0], .agg #[.bool false, .slice none 0 0], .int .i64 1]) (by simp [results, Try.results17, go_sem, r0, r1, hzr, t0, t1, hzt, d1, d2]) rfl ⟨none, 0, none, 0, rfl, Own.nil _ _, Own.nil _ _, Apart.nil, ?_⟩
  exact (((hW.setCell (by show w.heap.size ≤ w.heap.size + 1 + 1; omega) _).setCell (by show w.heap.size ≤ w.heap.size + 1 + 1; omega) _).setCell (by show w.heap.size ≤ w.heap.size + 1 + 1 + 1; omega) _).setCell (by show w.heap.size ≤ w.heap.size + 1 + 1 + 1; omega) _

set_option maxHeartbeats 4000000 in
set_option maxRecDepth 100000 in
theorem dm_impl_b (p q : Bool) (v u : Value) (xs ys : List Int) (w : World) (hx : Rd w v xs) (hy : Rd w u ys) (hoA : okB p xs = true) (hoB : okB q ys = false) :
    Calls Try.prog 17 #[.agg #[.bool p, v], .agg #[.bool q, u]] w fun e w' => ∃ a c a' c', e = .returned (.tuple #[.agg #[.bool false, .slice a (([] : List Int)).length c], .agg #[.bool false, .slice a' (([] : List Int)).length c'], .int .i64 1]) ∧ Own w' w.heap.size (.slice a (([] : List Int)).length c) (([] : List Int)) ∧ Own w' w.heap.size (.slice a' (([] : List Int)).length c') (([] : List Int)) ∧ Apart (.slice a (([] : List Int)).length c) (.slice a' (([] : List Int)).length c') ∧ Below w.heap.size w w' := by
  have hx' := hx
  have hy' := hy
  obtain ⟨a, cap, rfl, _, hzx, hnx, hcx⟩ := hx
  obtain ⟨a', cap', rfl, _, hzy, hny, hcy⟩ := hy
  clear hcx hcy hnx hny
  have bA := (((Box.new w (.bool p) (.slice a xs.length cap) 26).alloc (Obj.cells #[.bool q, .slice a' ys.length cap'] 26)).alloc (Obj.cells #[.bool false, .slice none 0 0] 26)).alloc (Obj.cells #[.bool false, .slice none 0 0] 26)
  have bB := ((Box.new (w.alloc (Obj.cells #[.bool p, .slice a xs.length cap] 26)) (.bool q) (.slice a' ys.length cap') 26).alloc (Obj.cells #[.bool false, .slice none 0 0] 26)).alloc (Obj.cells #[.bool false, .slice none 0 0] 26)
  have rx := (((hx'.alloc (Obj.cells #[.bool p, .slice a xs.length cap] 26)).alloc (Obj.cells #[.bool q, .slice a' ys.length cap'] 26)).alloc (Obj.cells #[.bool false, .slice none 0 0] 26)).alloc (Obj.cells #[.bool false, .slice none 0 0] 26)
  have ry := (((hy'.alloc (Obj.cells #[.bool p, .slice a xs.length cap] 26)).alloc (Obj.cells #[.bool q, .slice a' ys.length cap'] 26)).alloc (Obj.cells #[.bool false, .slice none 0 0] 26)).alloc (Obj.cells #[.bool false, .slice none 0 0] 26)
  have hW := ((((Below.refl w.heap.size w).alloc (Nat.le_refl _) (Obj.cells #[.bool p, .slice a xs.length cap] 26)).alloc (by simp) (Obj.cells #[.bool q, .slice a' ys.length cap'] 26)).alloc (by simp; omega) (Obj.cells #[.bool false, .slice none 0 0] 26)).alloc (by simp; omega) (Obj.cells #[.bool false, .slice none 0 0] 26)
  have bR := (Box.new ((w.alloc (Obj.cells #[.bool p, .slice a xs.length cap] 26)).alloc (Obj.cells #[.bool q, .slice a' ys.length cap'] 26)) (.bool false) (.slice none 0 0) 26).alloc (Obj.cells #[.bool false, .slice none 0 0] 26)
  have fR := (Unf.new ((w.alloc (Obj.cells #[.bool p, .slice a xs.length cap] 26)).alloc (Obj.cells #[.bool q, .slice a' ys.length cap'] 26)) #[.bool false, .slice none 0 0] 26).keep ((Below.refl _ _).alloc (Nat.le_refl _) (Obj.cells #[.bool false, .slice none 0 0] 26))
  have bT := Box.new (((w.alloc (Obj.cells #[.bool p, .slice a xs.length cap] 26)).alloc (Obj.cells #[.bool q, .slice a' ys.length cap'] 26)).alloc (Obj.cells #[.bool false, .slice none 0 0] 26)) (.bool false) (.slice none 0 0) 26
  have fT := Unf.new (((w.alloc (Obj.cells #[.bool p, .slice a xs.length cap] 26)).alloc (Obj.cells #[.bool q, .slice a' ys.length cap'] 26)).alloc (Obj.cells #[.bool false, .slice none 0 0] 26)) #[.bool false, .slice none 0 0] 26
  simp only [World.size_alloc] at bB bR fR bT fT
  clear hx' hy'
  have hokA := fun W h => bigOk_any p (.slice a xs.length cap) xs W h
  rw [hoA] at hokA
  have hokB := fun W h => bigOk_any q (.slice a' ys.length cap') ys W h
  rw [hoB] at hokB
  clear hoA hoB
  have d1 : ¬ (w.heap.size + 1 + 1 = w.heap.size + 1 + 1 + 1) := by omega
  have d2 : ¬ (w.heap.size + 1 + 1 + 1 = w.heap.size + 1 + 1) := by omega
  go_enter Try.func17, Try.ntmps17
  go_wp2_with fail
  refine (hokA _ rx).mono ?_
  rintro e w1 ⟨rfl, hB⟩
  clear hokA
  replace hW := hW.trans (hB.mono hW.size)
  replace bA := bA.keep hB
  replace bB := bB.keep hB
  replace rx := rx.keep hB
  replace ry := ry.keep hB
  replace bR := bR.keep hB
  replace fR := fR.keep hB
  replace bT := bT.keep hB
  replace fT := fT.keep hB
  clear hB
  obtain ⟨-, k0, k1⟩ := id bA
  obtain ⟨-, k2, k3⟩ := id bB
  obtain ⟨hzr, r0, r1⟩ := id bR
  obtain ⟨-, hfr⟩ := id fR
  obtain ⟨hzt, t0, t1⟩ := id bT
  obtain ⟨-, hft⟩ := id fT
  go_wp2_with fail
  refine (hokB _ ry).mono ?_
  rintro e w2 ⟨rfl, hB⟩
  clear hokB
  clear k0 k1 k2 k3 r0 r1 hzr hfr t0 t1 hzt hft
  replace hW := hW.trans (hB.mono hW.size)
  replace bA := bA.keep hB
  replace bB := bB.keep hB
  replace rx := rx.keep hB
  replace ry := ry.keep hB
  replace bR := bR.keep hB
  replace fR := fR.keep hB
  replace bT := bT.keep hB
  replace fT := fT.keep hB
  clear hB
  obtain ⟨-, k0, k1⟩ := id bA
  obtain ⟨-, k2, k3⟩ := id bB
  obtain ⟨hzr, r0, r1⟩ := id bR
  obtain ⟨-, hfr⟩ := id fR
  obtain ⟨hzt, t0, t1⟩ := id bT
  obtain ⟨-, hft⟩ := id fT
  go_wp2
  refine bodyPost_ret (v := .tuple #[.agg #[.bool false, .slice none 0 0], .agg #[.bool false, .slice none 0 0], .int .i64 1]) (by simp [results, Try.results17, go_sem, r0, r1, hzr, t0, t1, hzt, d1, d2]) rfl ⟨none, 0, none, 0, rfl, Own.nil _ _, Own.nil _ _, Apart.nil, ?_⟩
  exact (((hW.setCell (by show w.heap.size ≤ w.heap.size + 1 + 1; omega) _).setCell (by show w.heap.size ≤ w.heap.size + 1 + 1; omega) _).setCell (by show w.heap.size ≤ w.heap.size + 1 + 1 + 1; omega) _).setCell (by show w.heap.size ≤ w.heap.size + 1 + 1 + 1; omega) _

set_option maxHeartbeats 4000000 in
set_option maxRecDepth 100000 in
theorem dm_impl_z (p q : Bool) (v u : Value) (xs ys : List Int) (w : World) (hx : Rd w v xs) (hy : Rd w u ys) (hoA : okB p xs = true) (hoB : okB q ys = true) (h0 : ys.length = 0) :
    Calls Try.prog 17 #[.agg #[.bool p, v], .agg #[.bool q, u]] w fun e w' => ∃ a c a' c', e = .returned (.tuple #[.agg #[.bool false, .slice a (([] : List Int)).length c], .agg #[.bool false, .slice a' (([] : List Int)).length c'], .int .i64 2]) ∧ Own w' w.heap.size (.slice a (([] : List Int)).length c) (([] : List Int)) ∧ Own w' w.heap.size (.slice a' (([] : List Int)).length c') (([] : List Int)) ∧ Apart (.slice a (([] : List Int)).length c) (.slice a' (([] : List Int)).length c') ∧ Below w.heap.size w w' := by
  obtain rfl : ys = [] := List.eq_nil_of_length_eq_zero h0
  clear h0
  have hx' := hx
  have hy' := hy
  obtain ⟨a, cap, rfl, _, hzx, hnx, hcx⟩ := hx
  obtain ⟨a', cap', rfl, _, hzy, hny, hcy⟩ := hy
  clear hcx hcy hnx hny
  have bA := (((Box.new w (.bool p) (.slice a xs.length cap) 26).alloc (Obj.cells #[.bool q, .slice a' ([] : List Int).length cap'] 26)).alloc (Obj.cells #[.bool false, .slice none 0 0] 26)).alloc (Obj.cells #[.bool false, .slice none 0 0] 26)
  have bB := ((Box.new (w.alloc (Obj.cells #[.bool p, .slice a xs.length cap] 26)) (.bool q) (.slice a' ([] : List Int).length cap') 26).alloc (Obj.cells #[.bool false, .slice none 0 0] 26)).alloc (Obj.cells #[.bool false, .slice none 0 0] 26)
  have rx := (((hx'.alloc (Obj.cells #[.bool p, .slice a xs.length cap] 26)).alloc (Obj.cells #[.bool q, .slice a' ([] : List Int).length cap'] 26)).alloc (Obj.cells #[.bool false, .slice none 0 0] 26)).alloc (Obj.cells #[.bool false, .slice none 0 0] 26)
  have ry := (((hy'.alloc (Obj.cells #[.bool p, .slice a xs.length cap] 26)).alloc (Obj.cells #[.bool q, .slice a' ([] : List Int).length cap'] 26)).alloc (Obj.cells #[.bool false, .slice none 0 0] 26)).alloc (Obj.cells #[.bool false, .slice none 0 0] 26)
  have hW := ((((Below.refl w.heap.size w).alloc (Nat.le_refl _) (Obj.cells #[.bool p, .slice a xs.length cap] 26)).alloc (by simp) (Obj.cells #[.bool q, .slice a' ([] : List Int).length cap'] 26)).alloc (by simp; omega) (Obj.cells #[.bool false, .slice none 0 0] 26)).alloc (by simp; omega) (Obj.cells #[.bool false, .slice none 0 0] 26)
  have bR := (Box.new ((w.alloc (Obj.cells #[.bool p, .slice a xs.length cap] 26)).alloc (Obj.cells #[.bool q, .slice a' ([] : List Int).length cap'] 26)) (.bool false) (.slice none 0 0) 26).alloc (Obj.cells #[.bool false, .slice none 0 0] 26)
  have fR := (Unf.new ((w.alloc (Obj.cells #[.bool p, .slice a xs.length cap] 26)).alloc (Obj.cells #[.bool q, .slice a' ([] : List Int).length cap'] 26)) #[.bool false, .slice none 0 0] 26).keep ((Below.refl _ _).alloc (Nat.le_refl _) (Obj.cells #[.bool false, .slice none 0 0] 26))
  have bT := Box.new (((w.alloc (Obj.cells #[.bool p, .slice a xs.length cap] 26)).alloc (Obj.cells #[.bool q, .slice a' ([] : List Int).length cap'] 26)).alloc (Obj.cells #[.bool false, .slice none 0 0] 26)) (.bool false) (.slice none 0 0) 26
  have fT := Unf.new (((w.alloc (Obj.cells #[.bool p, .slice a xs.length cap] 26)).alloc (Obj.cells #[.bool q, .slice a' ([] : List Int).length cap'] 26)).alloc (Obj.cells #[.bool false, .slice none 0 0] 26)) #[.bool false, .slice none 0 0] 26
  simp only [World.size_alloc] at bB bR fR bT fT
  clear hx' hy'
  have hokA := fun W h => bigOk_any p (.slice a xs.length cap) xs W h
  rw [hoA] at hokA
  have hokB := fun W h => bigOk_any q (.slice a' ([] : List Int).length cap') [] W h
  rw [hoB] at hokB
  clear hoA hoB
  have d1 : ¬ (w.heap.size + 1 + 1 = w.heap.size + 1 + 1 + 1) := by omega
  have d2 : ¬ (w.heap.size + 1 + 1 + 1 = w.heap.size + 1 + 1) := by omega
  go_enter Try.func17, Try.ntmps17
  go_wp2_with fail
  refine (hokA _ rx).mono ?_
  rintro e w1 ⟨rfl, hB⟩
  clear hokA
  replace hW := hW.trans (hB.mono hW.size)
  replace bA := bA.keep hB
  replace bB := bB.keep hB
  replace rx := rx.keep hB
  replace ry := ry.keep hB
  replace bR := bR.keep hB
  replace fR := fR.keep hB
  replace bT := bT.keep hB
  replace fT := fT.keep hB
  clear hB
  obtain ⟨-, k0, k1⟩ := id bA
  obtain ⟨-, k2, k3⟩ := id bB
  obtain ⟨hzr, r0, r1⟩ := id bR
  obtain ⟨-, hfr⟩ := id fR
  obtain ⟨hzt, t0, t1⟩ := id bT
  obtain ⟨-, hft⟩ := id fT
  go_wp2_with fail
  refine (hokB _ ry).mono ?_
  rintro e w2 ⟨rfl, hB⟩
  clear hokB
  clear k0 k1 k2 k3 r0 r1 hzr hfr t0 t1 hzt hft
  replace hW := hW.trans (hB.mono hW.size)
  replace bA := bA.keep hB
  replace bB := bB.keep hB
  replace rx := rx.keep hB
  replace ry := ry.keep hB
  replace bR := bR.keep hB
  replace fR := fR.keep hB
  replace bT := bT.keep hB
  replace fT := fT.keep hB
  clear hB
  obtain ⟨-, k0, k1⟩ := id bA
  obtain ⟨-, k2, k3⟩ := id bB
  obtain ⟨hzr, r0, r1⟩ := id bR
  obtain ⟨-, hfr⟩ := id fR
  obtain ⟨hzt, t0, t1⟩ := id bT
  obtain ⟨-, hft⟩ := id fT
  go_wp2
  refine bodyPost_ret (v := .tuple #[.agg #[.bool false, .slice none 0 0], .agg #[.bool false, .slice none 0 0], .int .i64 2]) (by simp [results, Try.results17, go_sem, r0, r1, hzr, t0, t1, hzt, d1, d2]) rfl ⟨none, 0, none, 0, rfl, Own.nil _ _, Own.nil _ _, Apart.nil, ?_⟩
  exact (((hW.setCell (by show w.heap.size ≤ w.heap.size + 1 + 1; omega) _).setCell (by show w.heap.size ≤ w.heap.size + 1 + 1; omega) _).setCell (by show w.heap.size ≤ w.heap.size + 1 + 1 + 1; omega) _).setCell (by show w.heap.size ≤ w.heap.size + 1 + 1 + 1; omega) _

set_option maxHeartbeats 4000000 in
set_option maxRecDepth 100000 in
theorem dm_spec_a (p q : Bool) (v u : Value) (xs ys : List Int) (w : World) (hx : Rd w v xs) (hy : Rd w u ys) (hoA : okB p xs = false) :
    Calls Try.prog 18 #[.agg #[.bool p, v], .agg #[.bool q, u]] w fun e w' => ∃ a c a' c', e = .returned (.tuple #[.agg #[.bool false, .slice a (([] : List Int)).length c], .agg #[.bool false, .slice a' (([] : List Int)).length c'], .int .i64 1]) ∧ Own w' w.heap.size (.slice a (([] : List Int)).length c) (([] : List Int)) ∧ Own w' w.heap.size (.slice a' (([] : List Int)).length c') (([] : List Int)) ∧ Below w.heap.size w w' := by
  have hx' := hx
  have hy' := hy
  obtain ⟨a, cap, rfl, _, hzx, hnx, hcx⟩ := hx
  obtain ⟨a', cap', rfl, _, hzy, hny, hcy⟩ := hy
  clear hcx hcy hnx hny
  have bA := (((Box.new w (.bool p) (.slice a xs.length cap) 26).alloc (Obj.cells #[.bool q, .slice a' ys.length cap'] 26)).alloc (Obj.cells #[.bool false, .slice none 0 0] 26)).alloc (Obj.cells #[.bool false, .slice none 0 0] 26)
  have bB := ((Box.new (w.alloc (Obj.cells #[.bool p, .slice a xs.length cap] 26)) (.bool q) (.slice a' ys.length cap') 26).alloc (Obj.cells #[.bool false, .slice none 0 0] 26)).alloc (Obj.cells #[.bool false, .slice none 0 0] 26)
  have rx := (((hx'.alloc (Obj.cells #[.bool p, .slice a xs.length cap] 26)).alloc (Obj.cells #[.bool q, .slice a' ys.length cap'] 26)).alloc (Obj.cells #[.bool false, .slice none 0 0] 26)).alloc (Obj.cells #[.bool false, .slice none 0 0] 26)
  have ry := (((hy'.alloc (Obj.cells #[.bool p, .slice a xs.length cap] 26)).alloc (Obj.cells #[.bool q, .slice a' ys.length cap'] 26)).alloc (Obj.cells #[.bool false, .slice none 0 0] 26)).alloc (Obj.cells #[.bool false, .slice none 0 0] 26)
  have hW := ((((Below.refl w.heap.size w).alloc (Nat.le_refl _) (Obj.cells #[.bool p, .slice a xs.length cap] 26)).alloc (by simp) (Obj.cells #[.bool q, .slice a' ys.length cap'] 26)).alloc (by simp; omega) (Obj.cells #[.bool false, .slice none 0 0] 26)).alloc (by simp; omega) (Obj.cells #[.bool false, .slice none 0 0] 26)
  have bR := (Box.new ((w.alloc (Obj.cells #[.bool p, .slice a xs.length cap] 26)).alloc (Obj.cells #[.bool q, .slice a' ys.length cap'] 26)) (.bool false) (.slice none 0 0) 26).alloc (Obj.cells #[.bool false, .slice none 0 0] 26)
  have fR := (Unf.new ((w.alloc (Obj.cells #[.bool p, .slice a xs.length cap] 26)).alloc (Obj.cells #[.bool q, .slice a' ys.length cap'] 26)) #[.bool false, .slice none 0 0] 26).keep ((Below.refl _ _).alloc (Nat.le_refl _) (Obj.cells #[.bool false, .slice none 0 0] 26))
  have bT := Box.new (((w.alloc (Obj.cells #[.bool p, .slice a xs.length cap] 26)).alloc (Obj.cells #[.bool q, .slice a' ys.length cap'] 26)).alloc (Obj.cells #[.bool false, .slice none 0 0] 26)) (.bool false) (.slice none 0 0) 26
  have fT := Unf.new (((w.alloc (Obj.cells #[.bool p, .slice a xs.length cap] 26)).alloc (Obj.cells #[.bool q, .slice a' ys.length cap'] 26)).alloc (Obj.cells #[.bool false, .slice none 0 0] 26)) #[.bool false, .slice none 0 0] 26
  simp only [World.size_alloc] at bB bR fR bT fT
  clear hx' hy'
  have hokA := fun W h => bigOkS_any p (.slice a xs.length cap) xs W h
  rw [hoA] at hokA
  clear hoA
  have d1 : ¬ (w.heap.size + 1 + 1 = w.heap.size + 1 + 1 + 1) := by omega
  have d2 : ¬ (w.heap.size + 1 + 1 + 1 = w.heap.size + 1 + 1) := by omega
  go_enter Try.func18, Try.ntmps18
  go_wp2_with fail
  refine (hokA _ rx).mono ?_
  rintro e w1 ⟨rfl, hB⟩
  clear hokA
  replace hW := hW.trans (hB.mono hW.size)
  replace bA := bA.keep hB
  replace bB := bB.keep hB
  replace rx := rx.keep hB
  replace ry := ry.keep hB
  replace bR := bR.keep hB
  replace fR := fR.keep hB
  replace bT := bT.keep hB
  replace fT := fT.keep hB
  clear hB
  obtain ⟨-, k0, k1⟩ := id bA
  obtain ⟨-, k2, k3⟩ := id bB
  obtain ⟨hzr, r0, r1⟩ := id bR
  obtain ⟨-, hfr⟩ := id fR
  obtain ⟨hzt, t0, t1⟩ := id bT
  obtain ⟨-, hft⟩ := id fT
  go_wp2
  refine bodyPost_ret (v := .tuple #[.agg #[.bool false, .slice none 0 0], .agg #[.bool false, .slice none 0 0], .int .i64 1]) (by simp [results, Try.results18, go_sem, r0, r1, hzr, t0, t1, hzt, d1, d2]) rfl ⟨none, 0, none, 0, rfl, Own.nil _ _, Own.nil _ _, ?_⟩
  exact (((hW.setCell (by show w.heap.size ≤ w.heap.size + 1 + 1; omega) _).setCell (by show w.heap.size ≤ w.heap.size + 1 + 1; omega) _).setCell (by show w.heap.size ≤ w.heap.size + 1 + 1 + 1; omega) _).setCell (by show w.heap.size ≤ w.heap.size + 1 + 1 + 1; omega) _

set_option maxHeartbeats 4000000 in
set_option maxRecDepth 100000 in
theorem dm_spec_b (p q : Bool) (v u : Value) (xs ys : List Int) (w : World) (hx : Rd w v xs) (hy : Rd w u ys) (hoA : okB p xs = true) (hoB : okB q ys = false) :
    Calls Try.prog 18 #[.agg #[.bool p, v], .agg #[.bool q, u]] w fun e w' => ∃ a c a' c', e = .returned (.tuple #[.agg #[.bool false, .slice a (([] : List Int)).length c], .agg #[.bool false, .slice a' (([] : List Int)).length c'], .int .i64 1]) ∧ Own w' w.heap.size (.slice a (([] : List Int)).length c) (([] : List Int)) ∧ Own w' w.heap.size (.slice a' (([] : List Int)).length c') (([] : List Int)) ∧ Below w.heap.size w w' := by
  have hx' := hx
  have hy' := hy
  obtain ⟨a, cap, rfl, _, hzx, hnx, hcx⟩ := hx
  obtain ⟨a', cap', rfl, _, hzy, hny, hcy⟩ := hy
  clear hcx hcy hnx hny
  have bA := (((Box.new w (.bool p) (.slice a xs.length cap) 26).alloc (Obj.cells #[.bool q, .slice a' ys.length cap'] 26)).alloc (Obj.cells #[.bool false, .slice none 0 0] 26)).alloc (Obj.cells #[.bool false, .slice none 0 0] 26)
  have bB := ((Box.new (w.alloc (Obj.cells #[.bool p, .slice a xs.length cap] 26)) (.bool q) (.slice a' ys.length cap') 26).alloc (Obj.cells #[.bool false, .slice none 0 0] 26)).alloc (Obj.cells #[.bool false, .slice none 0 0] 26)
  have rx := (((hx'.alloc (Obj.cells #[.bool p, .slice a xs.length cap] 26)).alloc (Obj.cells #[.bool q, .slice a' ys.length cap'] 26)).alloc (Obj.cells #[.bool false, .slice none 0 0] 26)).alloc (Obj.cells #[.bool false, .slice none 0 0] 26)
  have ry := (((hy'.alloc (Obj.cells #[.bool p, .slice a xs.length cap] 26)).alloc (Obj.cells #[.bool q, .slice a' ys.length cap'] 26)).alloc (Obj.cells #[.bool false, .slice none 0 0] 26)).alloc (Obj.cells #[.bool false, .slice none 0 0] 26)
  have hW := ((((Below.refl w.heap.size w).alloc (Nat.le_refl _) (Obj.cells #[.bool p, .slice a xs.length cap] 26)).alloc (by simp) (Obj.cells #[.bool q, .slice a' ys.length cap'] 26)).alloc (by simp; omega) (Obj.cells #[.bool false, .slice none 0 0] 26)).alloc (by simp; omega) (Obj.cells #[.bool false, .slice none 0 0] 26)
  have bR := (Box.new ((w.alloc (Obj.cells #[.bool p, .slice a xs.length cap] 26)).alloc (Obj.cells #[.bool q, .slice a' ys.length cap'] 26)) (.bool false) (.slice none 0 0) 26).alloc (Obj.cells #[.bool false, .slice none 0 0] 26)
  have fR := (Unf.new ((w.alloc (Obj.cells #[.bool p, .slice a xs.length cap] 26)).alloc (Obj.cells #[.bool q, .slice a' ys.length cap'] 26)) #[.bool false, .slice none 0 0] 26).keep ((Below.refl _ _).alloc (Nat.le_refl _) (Obj.cells #[.bool false, .slice none 0 0] 26))
  have bT := Box.new (((w.alloc (Obj.cells #[.bool p, .slice a xs.length cap] 26)).alloc (Obj.cells #[.bool q, .slice a' ys.length cap'] 26)).alloc (Obj.cells #[.bool false, .slice none 0 0] 26)) (.bool false) (.slice none 0 0) 26
  have fT := Unf.new (((w.alloc (Obj.cells #[.bool p, .slice a xs.length cap] 26)).alloc (Obj.cells #[.bool q, .slice a' ys.length cap'] 26)).alloc (Obj.cells #[.bool false, .slice none 0 0] 26)) #[.bool false, .slice none 0 0] 26
  simp only [World.size_alloc] at bB bR fR bT fT
  clear hx' hy'
  have hokA := fun W h => bigOkS_any p (.slice a xs.length cap) xs W h
  rw [hoA] at hokA
  have hokB := fun W h => bigOkS_any q (.slice a' ys.length cap') ys W h
  rw [hoB] at hokB
  clear hoA hoB
  have d1 : ¬ (w.heap.size + 1 + 1 = w.heap.size + 1 + 1 + 1) := by omega
  have d2 : ¬ (w.heap.size + 1 + 1 + 1 = w.heap.size + 1 + 1) := by omega
  go_enter Try.func18, Try.ntmps18
  go_wp2_with fail
  refine (hokA _ rx).mono ?_
  rintro e w1 ⟨rfl, hB⟩
  clear hokA
  replace hW := hW.trans (hB.mono hW.size)
  replace bA := bA.keep hB
  replace bB := bB.keep hB
  replace rx := rx.keep hB
  replace ry := ry.keep hB
  replace bR := bR.keep hB
  replace fR := fR.keep hB
  replace bT := bT.keep hB
  replace fT := fT.keep hB
  clear hB
  obtain ⟨-, k0, k1⟩ := id bA
  obtain ⟨-, k2, k3⟩ := id bB
  obtain ⟨hzr, r0, r1⟩ := id bR
  obtain ⟨-, hfr⟩ := id fR
  obtain ⟨hzt, t0, t1⟩ := id bT
  obtain ⟨-, hft⟩ := id fT
  go_wp2_with fail
  refine (hokB _ ry).mono ?_
  rintro e w2 ⟨rfl, hB⟩
  clear hokB
  clear k0 k1 k2 k3 r0 r1 hzr hfr t0 t1 hzt hft
  replace hW := hW.trans (hB.mono hW.size)
  replace bA := bA.keep hB
  replace bB := bB.keep hB
  replace rx := rx.keep hB
  replace ry := ry.keep hB
  replace bR := bR.keep hB
  replace fR := fR.keep hB
  replace bT := bT.keep hB
  replace fT := fT.keep hB
  clear hB
  obtain ⟨-, k0, k1⟩ := id bA
  obtain ⟨-, k2, k3⟩ := id bB
  obtain ⟨hzr, r0, r1⟩ := id bR
  obtain ⟨-, hfr⟩ := id fR
  obtain ⟨hzt, t0, t1⟩ := id bT
  obtain ⟨-, hft⟩ := id fT
  go_wp2
  refine bodyPost_ret (v := .tuple #[.agg #[.bool false, .slice none 0 0], .agg #[.bool false, .slice none 0 0], .int .i64 1]) (by simp [results, Try.results18, go_sem, r0, r1, hzr, t0, t1, hzt, d1, d2]) rfl ⟨none, 0, none, 0, rfl, Own.nil _ _, Own.nil _ _, ?_⟩
  exact (((hW.setCell (by show w.heap.size ≤ w.heap.size + 1 + 1; omega) _).setCell (by show w.heap.size ≤ w.heap.size + 1 + 1; omega) _).setCell (by show w.heap.size ≤ w.heap.size + 1 + 1 + 1; omega) _).setCell (by show w.heap.size ≤ w.heap.size + 1 + 1 + 1; omega) _

set_option maxHeartbeats 4000000 in
set_option maxRecDepth 100000 in
theorem dm_spec_z (p q : Bool) (v u : Value) (xs ys : List Int) (w : World) (hx : Rd w v xs) (hy : Rd w u ys) (hoA : okB p xs = true) (hoB : okB q ys = true) (h0 : ys.length = 0) :
    Calls Try.prog 18 #[.agg #[.bool p, v], .agg #[.bool q, u]] w fun e w' => ∃ a c a' c', e = .returned (.tuple #[.agg #[.bool false, .slice a (([] : List Int)).length c], .agg #[.bool false, .slice a' (([] : List Int)).length c'], .int .i64 2]) ∧ Own w' w.heap.size (.slice a (([] : List Int)).length c) (([] : List Int)) ∧ Own w' w.heap.size (.slice a' (([] : List Int)).length c') (([] : List Int)) ∧ Below w.heap.size w w' := by
  obtain rfl : ys = [] := List.eq_nil_of_length_eq_zero h0
  clear h0
  have hx' := hx
  have hy' := hy
  obtain ⟨a, cap, rfl, _, hzx, hnx, hcx⟩ := hx
  obtain ⟨a', cap', rfl, _, hzy, hny, hcy⟩ := hy
  clear hcx hcy hnx hny
  have bA := (((Box.new w (.bool p) (.slice a xs.length cap) 26).alloc (Obj.cells #[.bool q, .slice a' ([] : List Int).length cap'] 26)).alloc (Obj.cells #[.bool false, .slice none 0 0] 26)).alloc (Obj.cells #[.bool false, .slice none 0 0] 26)
  have bB := ((Box.new (w.alloc (Obj.cells #[.bool p, .slice a xs.length cap] 26)) (.bool q) (.slice a' ([] : List Int).length cap') 26).alloc (Obj.cells #[.bool false, .slice none 0 0] 26)).alloc (Obj.cells #[.bool false, .slice none 0 0] 26)
  have rx := (((hx'.alloc (Obj.cells #[.bool p, .slice a xs.length cap] 26)).alloc (Obj.cells #[.bool q, .slice a' ([] : List Int).length cap'] 26)).alloc (Obj.cells #[.bool false, .slice none 0 0] 26)).alloc (Obj.cells #[.bool false, .slice none 0 0] 26)
  have ry := (((hy'.alloc (Obj.cells #[.bool p, .slice a xs.length cap] 26)).alloc (Obj.cells #[.bool q, .slice a' ([] : List Int).length cap'] 26)).alloc (Obj.cells #[.bool false, .slice none 0 0] 26)).alloc (Obj.cells #[.bool false, .slice none 0 0] 26)
  have hW := ((((Below.refl w.heap.size w).alloc (Nat.le_refl _) (Obj.cells #[.bool p, .slice a xs.length cap] 26)).alloc (by simp) (Obj.cells #[.bool q, .slice a' ([] : List Int).length cap'] 26)).alloc (by simp; omega) (Obj.cells #[.bool false, .slice none 0 0] 26)).alloc (by simp; omega) (Obj.cells #[.bool false, .slice none 0 0] 26)
  have bR := (Box.new ((w.alloc (Obj.cells #[.bool p, .slice a xs.length cap] 26)).alloc (Obj.cells #[.bool q, .slice a' ([] : List Int).length cap'] 26)) (.bool false) (.slice none 0 0) 26).alloc (Obj.cells #[.bool false, .slice none 0 0] 26)
  have fR := (Unf.new ((w.alloc (Obj.cells #[.bool p, .slice a xs.length cap] 26)).alloc (Obj.cells #[.bool q, .slice a' ([] : List Int).length cap'] 26)) #[.bool false, .slice none 0 0] 26).keep ((Below.refl _ _).alloc (Nat.le_refl _) (Obj.cells #[.bool false, .slice none 0 0] 26))
  have bT := Box.new (((w.alloc (Obj.cells #[.bool p, .slice a xs.length cap] 26)).alloc (Obj.cells #[.bool q, .slice a' ([] : List Int).length cap'] 26)).alloc (Obj.cells #[.bool false, .slice none 0 0] 26)) (.bool false) (.slice none 0 0) 26
  have fT := Unf.new (((w.alloc (Obj.cells #[.bool p, .slice a xs.length cap] 26)).alloc (Obj.cells #[.bool q, .slice a' ([] : List Int).length cap'] 26)).alloc (Obj.cells #[.bool false, .slice none 0 0] 26)) #[.bool false, .slice none 0 0] 26
  simp only [World.size_alloc] at bB bR fR bT fT
  clear hx' hy'
  have hokA := fun W h => bigOkS_any p (.slice a xs.length cap) xs W h
  rw [hoA] at hokA
  have hokB := fun W h => bigOkS_any q (.slice a' ([] : List Int).length cap') [] W h
  rw [hoB] at hokB
  clear hoA hoB
  have d1 : ¬ (w.heap.size + 1 + 1 = w.heap.size + 1 + 1 + 1) := by omega
  have d2 : ¬ (w.heap.size + 1 + 1 + 1 = w.heap.size + 1 + 1) := by omega
  go_enter Try.func18, Try.ntmps18
  go_wp2_with fail
  refine (hokA _ rx).mono ?_
  rintro e w1 ⟨rfl, hB⟩
  clear hokA
  replace hW := hW.trans (hB.mono hW.size)
  replace bA := bA.keep hB
  replace bB := bB.keep hB
  replace rx := rx.keep hB
  replace ry := ry.keep hB
  replace bR := bR.keep hB
  replace fR := fR.keep hB
  replace bT := bT.keep hB
  replace fT := fT.keep hB
  clear hB
  obtain ⟨-, k0, k1⟩ := id bA
  obtain ⟨-, k2, k3⟩ := id bB
  obtain ⟨hzr, r0, r1⟩ := id bR
  obtain ⟨-, hfr⟩ := id fR
  obtain ⟨hzt, t0, t1⟩ := id bT
  obtain ⟨-, hft⟩ := id fT
  go_wp2_with fail
  refine (hokB _ ry).mono ?_
  rintro e w2 ⟨rfl, hB⟩
  clear hokB
  clear k0 k1 k2 k3 r0 r1 hzr hfr t0 t1 hzt hft
  replace hW := hW.trans (hB.mono hW.size)
  replace bA := bA.keep hB
  replace bB := bB.keep hB
  replace rx := rx.keep hB
  replace ry := ry.keep hB
  replace bR := bR.keep hB
  replace fR := fR.keep hB
  replace bT := bT.keep hB
  replace fT := fT.keep hB
  clear hB
  obtain ⟨-, k0, k1⟩ := id bA
  obtain ⟨-, k2, k3⟩ := id bB
  obtain ⟨hzr, r0, r1⟩ := id bR
  obtain ⟨-, hfr⟩ := id fR
  obtain ⟨hzt, t0, t1⟩ := id bT
  obtain ⟨-, hft⟩ := id fT
  go_wp2
  refine bodyPost_ret (v := .tuple #[.agg #[.bool false, .slice none 0 0], .agg #[.bool false, .slice none 0 0], .int .i64 2]) (by simp [results, Try.results18, go_sem, r0, r1, hzr, t0, t1, hzt, d1, d2]) rfl ⟨none, 0, none, 0, rfl, Own.nil _ _, Own.nil _ _, ?_⟩
  exact (((hW.setCell (by show w.heap.size ≤ w.heap.size + 1 + 1; omega) _).setCell (by show w.heap.size ≤ w.heap.size + 1 + 1; omega) _).setCell (by show w.heap.size ≤ w.heap.size + 1 + 1 + 1; omega) _).setCell (by show w.heap.size ≤ w.heap.size + 1 + 1 + 1; omega) _

end Go.Proofs.Ythgpacajeaphhaa
