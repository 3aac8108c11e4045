import Derived.Test.YthgpacajeaphhaaMg2
import Derived.Test.YthgpacajeaphhaaCmpR
import Derived.Test.YthgpacajeaphhaaCut
import Derived.Test.YthgpacajeaphhaaMg1
import Derived.Deep.CutRange
import Derived.Deep.RegionHeld3
namespace Go.Proofs.Ythgpacajeaphhaa
open Go.RowKit
set_option linter.unusedVariables false
set_option linter.unusedSimpArgs false

set_option maxHeartbeats 1000000 in
set_option maxRecDepth 100000 in
theorem bb_impl_a (op : Int) (p q : Bool) (v u : Value) (xs ys : List Int) (w : World) (hx : Rd w v xs) (hy : Rd w u ys) (hoA : okB p xs = false) :
    Calls Try.prog 20 #[.int .i64 op, .agg #[.bool p, v], .agg #[.bool q, u]] w fun e w' => ∃ a c, e = .returned (.tuple #[.agg #[.bool false, .slice a (([] : List Int)).length c], .int .i64 1]) ∧ Own w' w.heap.size (.slice a (([] : List Int)).length c) (([] : List Int)) ∧ Below w.heap.size w w' := by
  have hx' := hx
  have hy' := hy
  obtain ⟨a, cap, rfl, _, hzx, hnx, hcx⟩ := hx
  obtain ⟨a', cap', rfl, _, hzy, hny, hcy⟩ := hy
  clear hcx hcy hnx hny
  have bA := ((Box.new w (.bool p) (.slice a xs.length cap) 26).alloc (Obj.cells #[.bool q, .slice a' ys.length cap'] 26)).alloc (Obj.cells #[.bool false, .slice none 0 0] 26)
  have bB := (Box.new (w.alloc (Obj.cells #[.bool p, .slice a xs.length cap] 26)) (.bool q) (.slice a' ys.length cap') 26).alloc (Obj.cells #[.bool false, .slice none 0 0] 26)
  have rx := ((hx'.alloc (Obj.cells #[.bool p, .slice a xs.length cap] 26)).alloc (Obj.cells #[.bool q, .slice a' ys.length cap'] 26)).alloc (Obj.cells #[.bool false, .slice none 0 0] 26)
  have ry := ((hy'.alloc (Obj.cells #[.bool p, .slice a xs.length cap] 26)).alloc (Obj.cells #[.bool q, .slice a' ys.length cap'] 26)).alloc (Obj.cells #[.bool false, .slice none 0 0] 26)
  have hW := (((Below.refl w.heap.size w).alloc (Nat.le_refl _) (Obj.cells #[.bool p, .slice a xs.length cap] 26)).alloc (by simp) (Obj.cells #[.bool q, .slice a' ys.length cap'] 26)).alloc (by simp; omega) (Obj.cells #[.bool false, .slice none 0 0] 26)
  have bR := Box.new ((w.alloc (Obj.cells #[.bool p, .slice a xs.length cap] 26)).alloc (Obj.cells #[.bool q, .slice a' ys.length cap'] 26)) (.bool false) (.slice none 0 0) 26
  have fR := Unf.new ((w.alloc (Obj.cells #[.bool p, .slice a xs.length cap] 26)).alloc (Obj.cells #[.bool q, .slice a' ys.length cap'] 26)) #[.bool false, .slice none 0 0] 26
  simp only [World.size_alloc] at bB bR fR
  clear hx' hy'
  have hokA := fun W h => bigOk_any p (.slice a xs.length cap) xs W h
  rw [hoA] at hokA
  clear hoA
  go_enter Try.func20, Try.ntmps20
  go_wp2_with fail
  refine (hokA _ rx).mono ?_
  rintro e w1 ⟨rfl, hB⟩
  clear hokA
  replace hW := hW.trans (hB.mono hW.size)
  replace bA := bA.keep hB
  replace bB := bB.keep hB
  replace rx := rx.keep hB
  replace ry := ry.keep hB
  replace bR := bR.keep hB
  replace fR := fR.keep hB
  clear hB
  obtain ⟨-, k0, k1⟩ := id bA
  obtain ⟨-, k2, k3⟩ := id bB
  obtain ⟨hzr, r0, r1⟩ := id bR
  obtain ⟨-, hfr⟩ := id fR
  go_wp2
  refine bodyPost_ret (v := .tuple #[.agg #[.bool false, .slice none 0 0], .int .i64 1]) (by simp [results, Try.results20, go_sem, r0, r1, hzr]) rfl ⟨none, 0, rfl, Own.nil _ _, ?_⟩
  exact (hW.setCell (by show w.heap.size ≤ w.heap.size + 1 + 1; omega) _).setCell (by show w.heap.size ≤ w.heap.size + 1 + 1; omega) _

set_option maxHeartbeats 1000000 in
set_option maxRecDepth 100000 in
theorem bb_impl_b (op : Int) (p q : Bool) (v u : Value) (xs ys : List Int) (w : World) (hx : Rd w v xs) (hy : Rd w u ys) (hoA : okB p xs = true) (hoB : okB q ys = false) :
    Calls Try.prog 20 #[.int .i64 op, .agg #[.bool p, v], .agg #[.bool q, u]] w fun e w' => ∃ a c, e = .returned (.tuple #[.agg #[.bool false, .slice a (([] : List Int)).length c], .int .i64 1]) ∧ Own w' w.heap.size (.slice a (([] : List Int)).length c) (([] : List Int)) ∧ Below w.heap.size w w' := by
  have hx' := hx
  have hy' := hy
  obtain ⟨a, cap, rfl, _, hzx, hnx, hcx⟩ := hx
  obtain ⟨a', cap', rfl, _, hzy, hny, hcy⟩ := hy
  clear hcx hcy hnx hny
  have bA := ((Box.new w (.bool p) (.slice a xs.length cap) 26).alloc (Obj.cells #[.bool q, .slice a' ys.length cap'] 26)).alloc (Obj.cells #[.bool false, .slice none 0 0] 26)
  have bB := (Box.new (w.alloc (Obj.cells #[.bool p, .slice a xs.length cap] 26)) (.bool q) (.slice a' ys.length cap') 26).alloc (Obj.cells #[.bool false, .slice none 0 0] 26)
  have rx := ((hx'.alloc (Obj.cells #[.bool p, .slice a xs.length cap] 26)).alloc (Obj.cells #[.bool q, .slice a' ys.length cap'] 26)).alloc (Obj.cells #[.bool false, .slice none 0 0] 26)
  have ry := ((hy'.alloc (Obj.cells #[.bool p, .slice a xs.length cap] 26)).alloc (Obj.cells #[.bool q, .slice a' ys.length cap'] 26)).alloc (Obj.cells #[.bool false, .slice none 0 0] 26)
  have hW := (((Below.refl w.heap.size w).alloc (Nat.le_refl _) (Obj.cells #[.bool p, .slice a xs.length cap] 26)).alloc (by simp) (Obj.cells #[.bool q, .slice a' ys.length cap'] 26)).alloc (by simp; omega) (Obj.cells #[.bool false, .slice none 0 0] 26)
  have bR := Box.new ((w.alloc (Obj.cells #[.bool p, .slice a xs.length cap] 26)).alloc (Obj.cells #[.bool q, .slice a' ys.length cap'] 26)) (.bool false) (.slice none 0 0) 26
  have fR := Unf.new ((w.alloc (Obj.cells #[.bool p, .slice a xs.length cap] 26)).alloc (Obj.cells #[.bool q, .slice a' ys.length cap'] 26)) #[.bool false, .slice none 0 0] 26
  simp only [World.size_alloc] at bB bR fR
  clear hx' hy'
  have hokA := fun W h => bigOk_any p (.slice a xs.length cap) xs W h
  rw [hoA] at hokA
  have hokB := fun W h => bigOk_any q (.slice a' ys.length cap') ys W h
  rw [hoB] at hokB
  clear hoA hoB
  go_enter Try.func20, Try.ntmps20
  go_wp2_with fail
  refine (hokA _ rx).mono ?_
  rintro e w1 ⟨rfl, hB⟩
  clear hokA
  replace hW := hW.trans (hB.mono hW.size)
  replace bA := bA.keep hB
  replace bB := bB.keep hB
  replace rx := rx.keep hB
  replace ry := ry.keep hB
  replace bR := bR.keep hB
  replace fR := fR.keep hB
  clear hB
  obtain ⟨-, k0, k1⟩ := id bA
  obtain ⟨-, k2, k3⟩ := id bB
  obtain ⟨hzr, r0, r1⟩ := id bR
  obtain ⟨-, hfr⟩ := id fR
  go_wp2_with fail
  refine (hokB _ ry).mono ?_
  rintro e w2 ⟨rfl, hB⟩
  clear hokB
  clear k0 k1 k2 k3 r0 r1 hzr hfr
  replace hW := hW.trans (hB.mono hW.size)
  replace bA := bA.keep hB
  replace bB := bB.keep hB
  replace rx := rx.keep hB
  replace ry := ry.keep hB
  replace bR := bR.keep hB
  replace fR := fR.keep hB
  clear hB
  obtain ⟨-, k0, k1⟩ := id bA
  obtain ⟨-, k2, k3⟩ := id bB
  obtain ⟨hzr, r0, r1⟩ := id bR
  obtain ⟨-, hfr⟩ := id fR
  go_wp2
  refine bodyPost_ret (v := .tuple #[.agg #[.bool false, .slice none 0 0], .int .i64 1]) (by simp [results, Try.results20, go_sem, r0, r1, hzr]) rfl ⟨none, 0, rfl, Own.nil _ _, ?_⟩
  exact (hW.setCell (by show w.heap.size ≤ w.heap.size + 1 + 1; omega) _).setCell (by show w.heap.size ≤ w.heap.size + 1 + 1; omega) _

set_option maxHeartbeats 1000000 in
set_option maxRecDepth 100000 in
theorem bb_impl_lo (op : Int) (p q : Bool) (v u : Value) (xs ys : List Int) (w : World) (hx : Rd w v xs) (hy : Rd w u ys) (hoA : okB p xs = true) (hoB : okB q ys = true) (ho : op < 1) :
    Calls Try.prog 20 #[.int .i64 op, .agg #[.bool p, v], .agg #[.bool q, u]] w fun e w' => ∃ a c, e = .returned (.tuple #[.agg #[.bool false, .slice a (([] : List Int)).length c], .int .i64 1]) ∧ Own w' w.heap.size (.slice a (([] : List Int)).length c) (([] : List Int)) ∧ Below w.heap.size w w' := by
  have hx' := hx
  have hy' := hy
  obtain ⟨a, cap, rfl, _, hzx, hnx, hcx⟩ := hx
  obtain ⟨a', cap', rfl, _, hzy, hny, hcy⟩ := hy
  clear hcx hcy hnx hny
  have bA := ((Box.new w (.bool p) (.slice a xs.length cap) 26).alloc (Obj.cells #[.bool q, .slice a' ys.length cap'] 26)).alloc (Obj.cells #[.bool false, .slice none 0 0] 26)
  have bB := (Box.new (w.alloc (Obj.cells #[.bool p, .slice a xs.length cap] 26)) (.bool q) (.slice a' ys.length cap') 26).alloc (Obj.cells #[.bool false, .slice none 0 0] 26)
  have rx := ((hx'.alloc (Obj.cells #[.bool p, .slice a xs.length cap] 26)).alloc (Obj.cells #[.bool q, .slice a' ys.length cap'] 26)).alloc (Obj.cells #[.bool false, .slice none 0 0] 26)
  have ry := ((hy'.alloc (Obj.cells #[.bool p, .slice a xs.length cap] 26)).alloc (Obj.cells #[.bool q, .slice a' ys.length cap'] 26)).alloc (Obj.cells #[.bool false, .slice none 0 0] 26)
  have hW := (((Below.refl w.heap.size w).alloc (Nat.le_refl _) (Obj.cells #[.bool p, .slice a xs.length cap] 26)).alloc (by simp) (Obj.cells #[.bool q, .slice a' ys.length cap'] 26)).alloc (by simp; omega) (Obj.cells #[.bool false, .slice none 0 0] 26)
  have bR := Box.new ((w.alloc (Obj.cells #[.bool p, .slice a xs.length cap] 26)).alloc (Obj.cells #[.bool q, .slice a' ys.length cap'] 26)) (.bool false) (.slice none 0 0) 26
  have fR := Unf.new ((w.alloc (Obj.cells #[.bool p, .slice a xs.length cap] 26)).alloc (Obj.cells #[.bool q, .slice a' ys.length cap'] 26)) #[.bool false, .slice none 0 0] 26
  simp only [World.size_alloc] at bB bR fR
  clear hx' hy'
  have hokA := fun W h => bigOk_any p (.slice a xs.length cap) xs W h
  rw [hoA] at hokA
  have hokB := fun W h => bigOk_any q (.slice a' ys.length cap') ys W h
  rw [hoB] at hokB
  clear hoA hoB
  go_enter Try.func20, Try.ntmps20
  go_wp2_with fail
  refine (hokA _ rx).mono ?_
  rintro e w1 ⟨rfl, hB⟩
  clear hokA
  replace hW := hW.trans (hB.mono hW.size)
  replace bA := bA.keep hB
  replace bB := bB.keep hB
  replace rx := rx.keep hB
  replace ry := ry.keep hB
  replace bR := bR.keep hB
  replace fR := fR.keep hB
  clear hB
  obtain ⟨-, k0, k1⟩ := id bA
  obtain ⟨-, k2, k3⟩ := id bB
  obtain ⟨hzr, r0, r1⟩ := id bR
  obtain ⟨-, hfr⟩ := id fR
  go_wp2_with fail
  refine (hokB _ ry).mono ?_
  rintro e w2 ⟨rfl, hB⟩
  clear hokB
  clear k0 k1 k2 k3 r0 r1 hzr hfr
  replace hW := hW.trans (hB.mono hW.size)
  replace bA := bA.keep hB
  replace bB := bB.keep hB
  replace rx := rx.keep hB
  replace ry := ry.keep hB
  replace bR := bR.keep hB
  replace fR := fR.keep hB
  clear hB
  obtain ⟨-, k0, k1⟩ := id bA
  obtain ⟨-, k2, k3⟩ := id bB
  obtain ⟨hzr, r0, r1⟩ := id bR
  obtain ⟨-, hfr⟩ := id fR
  go_wp2
  refine bodyPost_ret (v := .tuple #[.agg #[.bool false, .slice none 0 0], .int .i64 1]) (by simp [results, Try.results20, go_sem, r0, r1, hzr]) rfl ⟨none, 0, rfl, Own.nil _ _, ?_⟩
  exact (hW.setCell (by show w.heap.size ≤ w.heap.size + 1 + 1; omega) _).setCell (by show w.heap.size ≤ w.heap.size + 1 + 1; omega) _

set_option maxHeartbeats 1000000 in
set_option maxRecDepth 100000 in
theorem bb_impl_hi (op : Int) (p q : Bool) (v u : Value) (xs ys : List Int) (w : World) (hx : Rd w v xs) (hy : Rd w u ys) (hoA : okB p xs = true) (hoB : okB q ys = true) (ho : 3 < op) :
    Calls Try.prog 20 #[.int .i64 op, .agg #[.bool p, v], .agg #[.bool q, u]] w fun e w' => ∃ a c, e = .returned (.tuple #[.agg #[.bool false, .slice a (([] : List Int)).length c], .int .i64 1]) ∧ Own w' w.heap.size (.slice a (([] : List Int)).length c) (([] : List Int)) ∧ Below w.heap.size w w' := by
  have hx' := hx
  have hy' := hy
  obtain ⟨a, cap, rfl, _, hzx, hnx, hcx⟩ := hx
  obtain ⟨a', cap', rfl, _, hzy, hny, hcy⟩ := hy
  clear hcx hcy hnx hny
  have bA := ((Box.new w (.bool p) (.slice a xs.length cap) 26).alloc (Obj.cells #[.bool q, .slice a' ys.length cap'] 26)).alloc (Obj.cells #[.bool false, .slice none 0 0] 26)
  have bB := (Box.new (w.alloc (Obj.cells #[.bool p, .slice a xs.length cap] 26)) (.bool q) (.slice a' ys.length cap') 26).alloc (Obj.cells #[.bool false, .slice none 0 0] 26)
  have rx := ((hx'.alloc (Obj.cells #[.bool p, .slice a xs.length cap] 26)).alloc (Obj.cells #[.bool q, .slice a' ys.length cap'] 26)).alloc (Obj.cells #[.bool false, .slice none 0 0] 26)
  have ry := ((hy'.alloc (Obj.cells #[.bool p, .slice a xs.length cap] 26)).alloc (Obj.cells #[.bool q, .slice a' ys.length cap'] 26)).alloc (Obj.cells #[.bool false, .slice none 0 0] 26)
  have hW := (((Below.refl w.heap.size w).alloc (Nat.le_refl _) (Obj.cells #[.bool p, .slice a xs.length cap] 26)).alloc (by simp) (Obj.cells #[.bool q, .slice a' ys.length cap'] 26)).alloc (by simp; omega) (Obj.cells #[.bool false, .slice none 0 0] 26)
  have bR := Box.new ((w.alloc (Obj.cells #[.bool p, .slice a xs.length cap] 26)).alloc (Obj.cells #[.bool q, .slice a' ys.length cap'] 26)) (.bool false) (.slice none 0 0) 26
  have fR := Unf.new ((w.alloc (Obj.cells #[.bool p, .slice a xs.length cap] 26)).alloc (Obj.cells #[.bool q, .slice a' ys.length cap'] 26)) #[.bool false, .slice none 0 0] 26
  simp only [World.size_alloc] at bB bR fR
  clear hx' hy'
  have hokA := fun W h => bigOk_any p (.slice a xs.length cap) xs W h
  rw [hoA] at hokA
  have hokB := fun W h => bigOk_any q (.slice a' ys.length cap') ys W h
  rw [hoB] at hokB
  clear hoA hoB
  have ho1 : ¬ op < 1 := by omega
  go_enter Try.func20, Try.ntmps20
  go_wp2_with fail
  refine (hokA _ rx).mono ?_
  rintro e w1 ⟨rfl, hB⟩
  clear hokA
  replace hW := hW.trans (hB.mono hW.size)
  replace bA := bA.keep hB
  replace bB := bB.keep hB
  replace rx := rx.keep hB
  replace ry := ry.keep hB
  replace bR := bR.keep hB
  replace fR := fR.keep hB
  clear hB
  obtain ⟨-, k0, k1⟩ := id bA
  obtain ⟨-, k2, k3⟩ := id bB
  obtain ⟨hzr, r0, r1⟩ := id bR
  obtain ⟨-, hfr⟩ := id fR
  go_wp2_with fail
  refine (hokB _ ry).mono ?_
  rintro e w2 ⟨rfl, hB⟩
  clear hokB
  clear k0 k1 k2 k3 r0 r1 hzr hfr
  replace hW := hW.trans (hB.mono hW.size)
  replace bA := bA.keep hB
  replace bB := bB.keep hB
  replace rx := rx.keep hB
  replace ry := ry.keep hB
  replace bR := bR.keep hB
  replace fR := fR.keep hB
  clear hB
  obtain ⟨-, k0, k1⟩ := id bA
  obtain ⟨-, k2, k3⟩ := id bB
  obtain ⟨hzr, r0, r1⟩ := id bR
  obtain ⟨-, hfr⟩ := id fR
  go_wp2
  refine bodyPost_ret (v := .tuple #[.agg #[.bool false, .slice none 0 0], .int .i64 1]) (by simp [results, Try.results20, go_sem, r0, r1, hzr]) rfl ⟨none, 0, rfl, Own.nil _ _, ?_⟩
  exact (hW.setCell (by show w.heap.size ≤ w.heap.size + 1 + 1; omega) _).setCell (by show w.heap.size ≤ w.heap.size + 1 + 1; omega) _

set_option maxHeartbeats 1000000 in
set_option maxRecDepth 100000 in
theorem bb_spec_a (op : Int) (p q : Bool) (v u : Value) (xs ys : List Int) (w : World) (hx : Rd w v xs) (hy : Rd w u ys) (hoA : okB p xs = false) :
    Calls Try.prog 21 #[.int .i64 op, .agg #[.bool p, v], .agg #[.bool q, u]] w fun e w' => ∃ a c, e = .returned (.tuple #[.agg #[.bool false, .slice a (([] : List Int)).length c], .int .i64 1]) ∧ Own w' w.heap.size (.slice a (([] : List Int)).length c) (([] : List Int)) ∧ Below w.heap.size w w' := by
  have hx' := hx
  have hy' := hy
  obtain ⟨a, cap, rfl, _, hzx, hnx, hcx⟩ := hx
  obtain ⟨a', cap', rfl, _, hzy, hny, hcy⟩ := hy
  clear hcx hcy hnx hny
  have bA := ((Box.new w (.bool p) (.slice a xs.length cap) 26).alloc (Obj.cells #[.bool q, .slice a' ys.length cap'] 26)).alloc (Obj.cells #[.bool false, .slice none 0 0] 26)
  have bB := (Box.new (w.alloc (Obj.cells #[.bool p, .slice a xs.length cap] 26)) (.bool q) (.slice a' ys.length cap') 26).alloc (Obj.cells #[.bool false, .slice none 0 0] 26)
  have rx := ((hx'.alloc (Obj.cells #[.bool p, .slice a xs.length cap] 26)).alloc (Obj.cells #[.bool q, .slice a' ys.length cap'] 26)).alloc (Obj.cells #[.bool false, .slice none 0 0] 26)
  have ry := ((hy'.alloc (Obj.cells #[.bool p, .slice a xs.length cap] 26)).alloc (Obj.cells #[.bool q, .slice a' ys.length cap'] 26)).alloc (Obj.cells #[.bool false, .slice none 0 0] 26)
  have hW := (((Below.refl w.heap.size w).alloc (Nat.le_refl _) (Obj.cells #[.bool p, .slice a xs.length cap] 26)).alloc (by simp) (Obj.cells #[.bool q, .slice a' ys.length cap'] 26)).alloc (by simp; omega) (Obj.cells #[.bool false, .slice none 0 0] 26)
  have bR := Box.new ((w.alloc (Obj.cells #[.bool p, .slice a xs.length cap] 26)).alloc (Obj.cells #[.bool q, .slice a' ys.length cap'] 26)) (.bool false) (.slice none 0 0) 26
  have fR := Unf.new ((w.alloc (Obj.cells #[.bool p, .slice a xs.length cap] 26)).alloc (Obj.cells #[.bool q, .slice a' ys.length cap'] 26)) #[.bool false, .slice none 0 0] 26
  simp only [World.size_alloc] at bB bR fR
  clear hx' hy'
  have hokA := fun W h => bigOkS_any p (.slice a xs.length cap) xs W h
  rw [hoA] at hokA
  clear hoA
  go_enter Try.func21, Try.ntmps21
  go_wp2_with fail
  refine (hokA _ rx).mono ?_
  rintro e w1 ⟨rfl, hB⟩
  clear hokA
  replace hW := hW.trans (hB.mono hW.size)
  replace bA := bA.keep hB
  replace bB := bB.keep hB
  replace rx := rx.keep hB
  replace ry := ry.keep hB
  replace bR := bR.keep hB
  replace fR := fR.keep hB
  clear hB
  obtain ⟨-, k0, k1⟩ := id bA
  obtain ⟨-, k2, k3⟩ := id bB
  obtain ⟨hzr, r0, r1⟩ := id bR
  obtain ⟨-, hfr⟩ := id fR
  go_wp2
  refine bodyPost_ret (v := .tuple #[.agg #[.bool false, .slice none 0 0], .int .i64 1]) (by simp [results, Try.results21, go_sem, r0, r1, hzr]) rfl ⟨none, 0, rfl, Own.nil _ _, ?_⟩
  exact (hW.setCell (by show w.heap.size ≤ w.heap.size + 1 + 1; omega) _).setCell (by show w.heap.size ≤ w.heap.size + 1 + 1; omega) _

set_option maxHeartbeats 1000000 in
set_option maxRecDepth 100000 in
theorem bb_spec_b (op : Int) (p q : Bool) (v u : Value) (xs ys : List Int) (w : World) (hx : Rd w v xs) (hy : Rd w u ys) (hoA : okB p xs = true) (hoB : okB q ys = false) :
    Calls Try.prog 21 #[.int .i64 op, .agg #[.bool p, v], .agg #[.bool q, u]] w fun e w' => ∃ a c, e = .returned (.tuple #[.agg #[.bool false, .slice a (([] : List Int)).length c], .int .i64 1]) ∧ Own w' w.heap.size (.slice a (([] : List Int)).length c) (([] : List Int)) ∧ Below w.heap.size w w' := by
  have hx' := hx
  have hy' := hy
  obtain ⟨a, cap, rfl, _, hzx, hnx, hcx⟩ := hx
  obtain ⟨a', cap', rfl, _, hzy, hny, hcy⟩ := hy
  clear hcx hcy hnx hny
  have bA := ((Box.new w (.bool p) (.slice a xs.length cap) 26).alloc (Obj.cells #[.bool q, .slice a' ys.length cap'] 26)).alloc (Obj.cells #[.bool false, .slice none 0 0] 26)
  have bB := (Box.new (w.alloc (Obj.cells #[.bool p, .slice a xs.length cap] 26)) (.bool q) (.slice a' ys.length cap') 26).alloc (Obj.cells #[.bool false, .slice none 0 0] 26)
  have rx := ((hx'.alloc (Obj.cells #[.bool p, .slice a xs.length cap] 26)).alloc (Obj.cells #[.bool q, .slice a' ys.length cap'] 26)).alloc (Obj.cells #[.bool false, .slice none 0 0] 26)
  have ry := ((hy'.alloc (Obj.cells #[.bool p, .slice a xs.length cap] 26)).alloc (Obj.cells #[.bool q, .slice a' ys.length cap'] 26)).alloc (Obj.cells #[.bool false, .slice none 0 0] 26)
  have hW := (((Below.refl w.heap.size w).alloc (Nat.le_refl _) (Obj.cells #[.bool p, .slice a xs.length cap] 26)).alloc (by simp) (Obj.cells #[.bool q, .slice a' ys.length cap'] 26)).alloc (by simp; omega) (Obj.cells #[.bool false, .slice none 0 0] 26)
  have bR := Box.new ((w.alloc (Obj.cells #[.bool p, .slice a xs.length cap] 26)).alloc (Obj.cells #[.bool q, .slice a' ys.length cap'] 26)) (.bool false) (.slice none 0 0) 26
  have fR := Unf.new ((w.alloc (Obj.cells #[.bool p, .slice a xs.length cap] 26)).alloc (Obj.cells #[.bool q, .slice a' ys.length cap'] 26)) #[.bool false, .slice none 0 0] 26
  simp only [World.size_alloc] at bB bR fR
  clear hx' hy'
  have hokA := fun W h => bigOkS_any p (.slice a xs.length cap) xs W h
  rw [hoA] at hokA
  have hokB := fun W h => bigOkS_any q (.slice a' ys.length cap') ys W h
  rw [hoB] at hokB
  clear hoA hoB
  go_enter Try.func21, Try.ntmps21
  go_wp2_with fail
  refine (hokA _ rx).mono ?_
  rintro e w1 ⟨rfl, hB⟩
  clear hokA
  replace hW := hW.trans (hB.mono hW.size)
  replace bA := bA.keep hB
  replace bB := bB.keep hB
  replace rx := rx.keep hB
  replace ry := ry.keep hB
  replace bR := bR.keep hB
  replace fR := fR.keep hB
  clear hB
  obtain ⟨-, k0, k1⟩ := id bA
  obtain ⟨-, k2, k3⟩ := id bB
  obtain ⟨hzr, r0, r1⟩ := id bR
  obtain ⟨-, hfr⟩ := id fR
  go_wp2_with fail
  refine (hokB _ ry).mono ?_
  rintro e w2 ⟨rfl, hB⟩
  clear hokB
  clear k0 k1 k2 k3 r0 r1 hzr hfr
  replace hW := hW.trans (hB.mono hW.size)
  replace bA := bA.keep hB
  replace bB := bB.keep hB
  replace rx := rx.keep hB
  replace ry := ry.keep hB
  replace bR := bR.keep hB
  replace fR := fR.keep hB
  clear hB
  obtain ⟨-, k0, k1⟩ := id bA
  obtain ⟨-, k2, k3⟩ := id bB
  obtain ⟨hzr, r0, r1⟩ := id bR
  obtain ⟨-, hfr⟩ := id fR
  go_wp2
  refine bodyPost_ret (v := .tuple #[.agg #[.bool false, .slice none 0 0], .int .i64 1]) (by simp [results, Try.results21, go_sem, r0, r1, hzr]) rfl ⟨none, 0, rfl, Own.nil _ _, ?_⟩
  exact (hW.setCell (by show w.heap.size ≤ w.heap.size + 1 + 1; omega) _).setCell (by show w.heap.size ≤ w.heap.size + 1 + 1; omega) _

set_option maxHeartbeats 1000000 in
set_option maxRecDepth 100000 in
theorem bb_spec_lo (op : Int) (p q : Bool) (v u : Value) (xs ys : List Int) (w : World) (hx : Rd w v xs) (hy : Rd w u ys) (hoA : okB p xs = true) (hoB : okB q ys = true) (ho : op < 1) :
    Calls Try.prog 21 #[.int .i64 op, .agg #[.bool p, v], .agg #[.bool q, u]] w fun e w' => ∃ a c, e = .returned (.tuple #[.agg #[.bool false, .slice a (([] : List Int)).length c], .int .i64 1]) ∧ Own w' w.heap.size (.slice a (([] : List Int)).length c) (([] : List Int)) ∧ Below w.heap.size w w' := by
  have hx' := hx
  have hy' := hy
  obtain ⟨a, cap, rfl, _, hzx, hnx, hcx⟩ := hx
  obtain ⟨a', cap', rfl, _, hzy, hny, hcy⟩ := hy
  clear hcx hcy hnx hny
  have bA := ((Box.new w (.bool p) (.slice a xs.length cap) 26).alloc (Obj.cells #[.bool q, .slice a' ys.length cap'] 26)).alloc (Obj.cells #[.bool false, .slice none 0 0] 26)
  have bB := (Box.new (w.alloc (Obj.cells #[.bool p, .slice a xs.length cap] 26)) (.bool q) (.slice a' ys.length cap') 26).alloc (Obj.cells #[.bool false, .slice none 0 0] 26)
  have rx := ((hx'.alloc (Obj.cells #[.bool p, .slice a xs.length cap] 26)).alloc (Obj.cells #[.bool q, .slice a' ys.length cap'] 26)).alloc (Obj.cells #[.bool false, .slice none 0 0] 26)
  have ry := ((hy'.alloc (Obj.cells #[.bool p, .slice a xs.length cap] 26)).alloc (Obj.cells #[.bool q, .slice a' ys.length cap'] 26)).alloc (Obj.cells #[.bool false, .slice none 0 0] 26)
  have hW := (((Below.refl w.heap.size w).alloc (Nat.le_refl _) (Obj.cells #[.bool p, .slice a xs.length cap] 26)).alloc (by simp) (Obj.cells #[.bool q, .slice a' ys.length cap'] 26)).alloc (by simp; omega) (Obj.cells #[.bool false, .slice none 0 0] 26)
  have bR := Box.new ((w.alloc (Obj.cells #[.bool p, .slice a xs.length cap] 26)).alloc (Obj.cells #[.bool q, .slice a' ys.length cap'] 26)) (.bool false) (.slice none 0 0) 26
  have fR := Unf.new ((w.alloc (Obj.cells #[.bool p, .slice a xs.length cap] 26)).alloc (Obj.cells #[.bool q, .slice a' ys.length cap'] 26)) #[.bool false, .slice none 0 0] 26
  simp only [World.size_alloc] at bB bR fR
  clear hx' hy'
  have hokA := fun W h => bigOkS_any p (.slice a xs.length cap) xs W h
  rw [hoA] at hokA
  have hokB := fun W h => bigOkS_any q (.slice a' ys.length cap') ys W h
  rw [hoB] at hokB
  clear hoA hoB
  go_enter Try.func21, Try.ntmps21
  go_wp2_with fail
  refine (hokA _ rx).mono ?_
  rintro e w1 ⟨rfl, hB⟩
  clear hokA
  replace hW := hW.trans (hB.mono hW.size)
  replace bA := bA.keep hB
  replace bB := bB.keep hB
  replace rx := rx.keep hB
  replace ry := ry.keep hB
  replace bR := bR.keep hB
  replace fR := fR.keep hB
  clear hB
  obtain ⟨-, k0, k1⟩ := id bA
  obtain ⟨-, k2, k3⟩ := id bB
  obtain ⟨hzr, r0, r1⟩ := id bR
  obtain ⟨-, hfr⟩ := id fR
  go_wp2_with fail
  refine (hokB _ ry).mono ?_
  rintro e w2 ⟨rfl, hB⟩
  clear hokB
  clear k0 k1 k2 k3 r0 r1 hzr hfr
  replace hW := hW.trans (hB.mono hW.size)
  replace bA := bA.keep hB
  replace bB := bB.keep hB
  replace rx := rx.keep hB
  replace ry := ry.keep hB
  replace bR := bR.keep hB
  replace fR := fR.keep hB
  clear hB
  obtain ⟨-, k0, k1⟩ := id bA
  obtain ⟨-, k2, k3⟩ := id bB
  obtain ⟨hzr, r0, r1⟩ := id bR
  obtain ⟨-, hfr⟩ := id fR
  go_wp2
  refine bodyPost_ret (v := .tuple #[.agg #[.bool false, .slice none 0 0], .int .i64 1]) (by simp [results, Try.results21, go_sem, r0, r1, hzr]) rfl ⟨none, 0, rfl, Own.nil _ _, ?_⟩
  exact (hW.setCell (by show w.heap.size ≤ w.heap.size + 1 + 1; omega) _).setCell (by show w.heap.size ≤ w.heap.size + 1 + 1; omega) _

set_option maxHeartbeats 1000000 in
set_option maxRecDepth 100000 in
theorem bb_spec_hi (op : Int) (p q : Bool) (v u : Value) (xs ys : List Int) (w : World) (hx : Rd w v xs) (hy : Rd w u ys) (hoA : okB p xs = true) (hoB : okB q ys = true) (ho : 3 < op) :
    Calls Try.prog 21 #[.int .i64 op, .agg #[.bool p, v], .agg #[.bool q, u]] w fun e w' => ∃ a c, e = .returned (.tuple #[.agg #[.bool false, .slice a (([] : List Int)).length c], .int .i64 1]) ∧ Own w' w.heap.size (.slice a (([] : List Int)).length c) (([] : List Int)) ∧ Below w.heap.size w w' := by
  have hx' := hx
  have hy' := hy
  obtain ⟨a, cap, rfl, _, hzx, hnx, hcx⟩ := hx
  obtain ⟨a', cap', rfl, _, hzy, hny, hcy⟩ := hy
  clear hcx hcy hnx hny
  have bA := ((Box.new w (.bool p) (.slice a xs.length cap) 26).alloc (Obj.cells #[.bool q, .slice a' ys.length cap'] 26)).alloc (Obj.cells #[.bool false, .slice none 0 0] 26)
  have bB := (Box.new (w.alloc (Obj.cells #[.bool p, .slice a xs.length cap] 26)) (.bool q) (.slice a' ys.length cap') 26).alloc (Obj.cells #[.bool false, .slice none 0 0] 26)
  have rx := ((hx'.alloc (Obj.cells #[.bool p, .slice a xs.length cap] 26)).alloc (Obj.cells #[.bool q, .slice a' ys.length cap'] 26)).alloc (Obj.cells #[.bool false, .slice none 0 0] 26)
  have ry := ((hy'.alloc (Obj.cells #[.bool p, .slice a xs.length cap] 26)).alloc (Obj.cells #[.bool q, .slice a' ys.length cap'] 26)).alloc (Obj.cells #[.bool false, .slice none 0 0] 26)
  have hW := (((Below.refl w.heap.size w).alloc (Nat.le_refl _) (Obj.cells #[.bool p, .slice a xs.length cap] 26)).alloc (by simp) (Obj.cells #[.bool q, .slice a' ys.length cap'] 26)).alloc (by simp; omega) (Obj.cells #[.bool false, .slice none 0 0] 26)
  have bR := Box.new ((w.alloc (Obj.cells #[.bool p, .slice a xs.length cap] 26)).alloc (Obj.cells #[.bool q, .slice a' ys.length cap'] 26)) (.bool false) (.slice none 0 0) 26
  have fR := Unf.new ((w.alloc (Obj.cells #[.bool p, .slice a xs.length cap] 26)).alloc (Obj.cells #[.bool q, .slice a' ys.length cap'] 26)) #[.bool false, .slice none 0 0] 26
  simp only [World.size_alloc] at bB bR fR
  clear hx' hy'
  have hokA := fun W h => bigOkS_any p (.slice a xs.length cap) xs W h
  rw [hoA] at hokA
  have hokB := fun W h => bigOkS_any q (.slice a' ys.length cap') ys W h
  rw [hoB] at hokB
  clear hoA hoB
  have ho1 : ¬ op < 1 := by omega
  go_enter Try.func21, Try.ntmps21
  go_wp2_with fail
  refine (hokA _ rx).mono ?_
  rintro e w1 ⟨rfl, hB⟩
  clear hokA
  replace hW := hW.trans (hB.mono hW.size)
  replace bA := bA.keep hB
  replace bB := bB.keep hB
  replace rx := rx.keep hB
  replace ry := ry.keep hB
  replace bR := bR.keep hB
  replace fR := fR.keep hB
  clear hB
  obtain ⟨-, k0, k1⟩ := id bA
  obtain ⟨-, k2, k3⟩ := id bB
  obtain ⟨hzr, r0, r1⟩ := id bR
  obtain ⟨-, hfr⟩ := id fR
  go_wp2_with fail
  refine (hokB _ ry).mono ?_
  rintro e w2 ⟨rfl, hB⟩
  clear hokB
  clear k0 k1 k2 k3 r0 r1 hzr hfr
  replace hW := hW.trans (hB.mono hW.size)
  replace bA := bA.keep hB
  replace bB := bB.keep hB
  replace rx := rx.keep hB
  replace ry := ry.keep hB
  replace bR := bR.keep hB
  replace fR := fR.keep hB
  clear hB
  obtain ⟨-, k0, k1⟩ := id bA
  obtain ⟨-, k2, k3⟩ := id bB
  obtain ⟨hzr, r0, r1⟩ := id bR
  obtain ⟨-, hfr⟩ := id fR
  go_wp2
  refine bodyPost_ret (v := .tuple #[.agg #[.bool false, .slice none 0 0], .int .i64 1]) (by simp [results, Try.results21, go_sem, r0, r1, hzr]) rfl ⟨none, 0, rfl, Own.nil _ _, ?_⟩
  exact (hW.setCell (by show w.heap.size ≤ w.heap.size + 1 + 1; omega) _).setCell (by show w.heap.size ≤ w.heap.size + 1 + 1; omega) _

end Go.Proofs.Ythgpacajeaphhaa

namespace Go.Proofs.Ythgpacajeaphhaa
open Go.RowKit
set_option linter.unusedVariables false
set_option linter.unusedSimpArgs false

/-- What the walk need not see. -/
def BitFacts (op : Int) (p q ng : Bool) (X Y m NN VV : Nat) : Prop :=
  (op = 1 ∨ op = 2 ∨ op = 3) ∧ VV / 2 ^ (32 * m) = (if ng = true then 4294967295 else 0) ∧ VV < 2 ^ (32 * m + 32) ∧ NN = (if ng = true then 2 ^ (32 * m + 32) - VV else VV) ∧
    ∀ A B : List Int, val A = tw p (32 * (m + 1)) X → val B = tw q (32 * (m + 1)) Y → bop op (val A) (val B) = VV
def VpF (m NN : Nat) (Z : List Int) : Prop := ∀ (U : List Int) (c : Nat), c ≤ 1 → val U + 4294967296 ^ (m + 1) * c + val Z = 4294967296 ^ (m + 1) → val U = NN
theorem Unf.but {w w' : World} {b : Nat} {row : Option Nat} (h : Unf w b) (hg : w.grownBy w' row) (hne : some b ≠ row) : Unf w' b :=
  ⟨Nat.lt_of_lt_of_le h.1 hg.size, fun o => by have h1 := h.2 o; unfold World.frozen? at h1 ⊢; rw [hg.block b h.1 hne]; exact h1⟩

set_option maxHeartbeats 4000000 in
set_option maxRecDepth 100000 in
theorem bb_impl (op : Int) (p q : Bool) (v u : Value) (xs ys : List Int) (w : World) (hx : Rd w v xs) (hy : Rd w u ys) (m : Nat) (hm : m = max xs.length ys.length) (hoA : okB p xs = true) (hoB : okB q ys = true) (ho : op = 1 ∨ op = 2 ∨ op = 3) :
    Calls Try.prog 20 #[.int .i64 op, .agg #[.bool p, v], .agg #[.bool q, u]] w fun e w' => ∃ a c, e = .returned (.tuple #[.agg #[.bool (fitS (bopB op p q) (bbN op p q (val xs) (val ys) (32 * m))), .slice a (fitL (bbN op p q (val xs) (val ys) (32 * m))).length c], .int .i64 (fitC (bbN op p q (val xs) (val ys) (32 * m)))]) ∧ Own w' w.heap.size (.slice a (fitL (bbN op p q (val xs) (val ys) (32 * m))).length c) (fitL (bbN op p q (val xs) (val ys) (32 * m))) ∧ Below w.heap.size w w' := by
  have hx' := hx
  have hy' := hy
  obtain ⟨a, cap, rfl, _, hzx, hnx, hcx⟩ := hx
  obtain ⟨a', cap', rfl, _, hzy, hny, hcy⟩ := hy
  clear hcx hcy hnx hny
  have bA := ((Box.new w (.bool p) (.slice a xs.length cap) 26).alloc (Obj.cells #[.bool q, .slice a' ys.length cap'] 26)).alloc (Obj.cells #[.bool false, .slice none 0 0] 26)
  have bB := (Box.new (w.alloc (Obj.cells #[.bool p, .slice a xs.length cap] 26)) (.bool q) (.slice a' ys.length cap') 26).alloc (Obj.cells #[.bool false, .slice none 0 0] 26)
  have rx := ((hx'.alloc (Obj.cells #[.bool p, .slice a xs.length cap] 26)).alloc (Obj.cells #[.bool q, .slice a' ys.length cap'] 26)).alloc (Obj.cells #[.bool false, .slice none 0 0] 26)
  have ry := ((hy'.alloc (Obj.cells #[.bool p, .slice a xs.length cap] 26)).alloc (Obj.cells #[.bool q, .slice a' ys.length cap'] 26)).alloc (Obj.cells #[.bool false, .slice none 0 0] 26)
  have hW := (((Below.refl w.heap.size w).alloc (Nat.le_refl _) (Obj.cells #[.bool p, .slice a xs.length cap] 26)).alloc (by simp) (Obj.cells #[.bool q, .slice a' ys.length cap'] 26)).alloc (by simp; omega) (Obj.cells #[.bool false, .slice none 0 0] 26)
  have bR := Box.new ((w.alloc (Obj.cells #[.bool p, .slice a xs.length cap] 26)).alloc (Obj.cells #[.bool q, .slice a' ys.length cap'] 26)) (.bool false) (.slice none 0 0) 26
  have fR := Unf.new ((w.alloc (Obj.cells #[.bool p, .slice a xs.length cap] 26)).alloc (Obj.cells #[.bool q, .slice a' ys.length cap'] 26)) #[.bool false, .slice none 0 0] 26
  simp only [World.size_alloc] at bB bR fR
  clear hx' hy'
  have hokA := fun W h => bigOk_any p (.slice a xs.length cap) xs W h
  rw [hoA] at hokA
  have hokB := fun W h => bigOk_any q (.slice a' ys.length cap') ys W h
  rw [hoB] at hokB
  have hnA := okB_norm hoA
  have hnB := okB_norm hoB
  have hm1 : m ≤ 128 := by omega
  have hmx : max (xs.length : Int) (ys.length : Int) = (m : Int) := by omega
  have hpA : p = true → 0 < val xs := fun h => okB_pos hzx (h ▸ hoA)
  have hpB : q = true → 0 < val ys := fun h => okB_pos hzy (h ▸ hoB)
  have hxl : val xs < 2 ^ (32 * m) := Nat.lt_of_lt_of_le (val_lt hzx) (by rw [R_pow]; exact Nat.pow_le_pow_right (by decide) (by omega))
  have hyl : val ys < 2 ^ (32 * m) := Nat.lt_of_lt_of_le (val_lt hzy) (by rw [R_pow]; exact Nat.pow_le_pow_right (by decide) (by omega))
  have ho1 : ¬ op < 1 := by omega
  have ho3 : ¬ 3 < op := by omega
  have hTx := fun W h => twos_any p (.slice a xs.length cap) xs (m + 1) W h hpA (by omega) (by omega)
  have hTy := fun W h => twos_any q (.slice a' ys.length cap') ys (m + 1) W h hpB (by omega) (by omega)
  rw [show ((m + 1 : Nat) : Int) = (m : Int) + 1 from rfl] at hTx hTy
  have hhi := bbV_high op p q (val xs) (val ys) (32 * m) hxl hyl hpA hpB
  have hlt := bbV_lt op p q (val xs) (val ys) (32 * m) hxl hyl hpA hpB
  have hN : bbN op p q (val xs) (val ys) (32 * m) = if bopB op p q = true then 2 ^ (32 * m + 32) - bbV op p q (val xs) (val ys) (32 * m) else bbV op p q (val xs) (val ys) (32 * m) := rfl
  have hV : ∀ X Y : List Int, val X = tw p (32 * (m + 1)) (val xs) → val Y = tw q (32 * (m + 1)) (val ys) → bop op (val X) (val Y) = bbV op p q (val xs) (val ys) (32 * m) := fun X Y h1 h2 => by rw [h1, h2]; rfl
  have hSg := fun W (B n' c' : Nat) a' zs h1 h2 hb => signed_any (bopB op p q) B n' c' a' zs (bbN op p q (val xs) (val ys) (32 * m)) W h1 h2 hb
  generalize fitS (bopB op p q) (bbN op p q (val xs) (val ys) (32 * m)) = S at hSg ⊢
  generalize fitL (bbN op p q (val xs) (val ys) (32 * m)) = L at hSg ⊢
  generalize fitC (bbN op p q (val xs) (val ys) (32 * m)) = C at hSg ⊢
  generalize bbN op p q (val xs) (val ys) (32 * m) = NN at hSg hN
  generalize bbV op p q (val xs) (val ys) (32 * m) = VV at hhi hlt hN hV
  generalize bopB op p q = ng at hhi hN hSg
  have HB : BitFacts op p q ng (val xs) (val ys) m NN VV := ⟨ho, hhi, hlt, hN, hV⟩
  clear hhi hlt hN hV hoA hoB hxl hyl hpA hpB hnA hnB hm ho
  go_enter Try.func20, Try.ntmps20
  go_wp2_with fail
  refine (hokA _ rx).mono ?_
  rintro e w1 ⟨rfl, hB⟩
  clear hokA
  replace hW := hW.trans (hB.mono hW.size)
  replace bA := bA.keep hB
  replace bB := bB.keep hB
  replace rx := rx.keep hB
  replace ry := ry.keep hB
  replace bR := bR.keep hB
  replace fR := fR.keep hB
  clear hB
  obtain ⟨-, k0, k1⟩ := id bA
  obtain ⟨-, k2, k3⟩ := id bB
  obtain ⟨hzr, r0, r1⟩ := id bR
  obtain ⟨-, hfr⟩ := id fR
  go_wp2_with fail
  refine (hokB _ ry).mono ?_
  rintro e w2 ⟨rfl, hB⟩
  clear hokB
  clear k0 k1 k2 k3 r0 r1 hzr hfr
  replace hW := hW.trans (hB.mono hW.size)
  replace bA := bA.keep hB
  replace bB := bB.keep hB
  replace rx := rx.keep hB
  replace ry := ry.keep hB
  replace bR := bR.keep hB
  replace fR := fR.keep hB
  clear hB
  obtain ⟨-, k0, k1⟩ := id bA
  obtain ⟨-, k2, k3⟩ := id bB
  obtain ⟨hzr, r0, r1⟩ := id bR
  obtain ⟨-, hfr⟩ := id fR
  go_upto_region 4 with fail
  go_cut [9, 10] from 38 to 76 (fun s9 s10 wc => ∃ (gx cx : Nat) (X : List Int) (gy cy : Nat) (Y : List Int), s9 = .slice (some ⟨gx, 0, none⟩) (m + 1) cx ∧ s10 = .slice (some ⟨gy, 0, none⟩) (m + 1) cy ∧ X.length = m + 1 ∧ Y.length = m + 1 ∧ val X = tw p (32 * (m + 1)) (val xs) ∧ val Y = tw q (32 * (m + 1)) (val ys) ∧ Own wc (w.heap.size + 1 + 1 + 1) (.slice (some ⟨gx, 0, none⟩) (m + 1) cx) X ∧ Own wc (gx + 1) (.slice (some ⟨gy, 0, none⟩) (m + 1) cy) Y ∧ Below w.heap.size w wc ∧ Box wc (w.heap.size + 1 + 1) (.bool false) (.slice none 0 0) ∧ Unf wc (w.heap.size + 1 + 1))
  case first =>
    clear hSg HB
    have HQ : Hid (Box w2 w.heap.size (.bool p) (.slice a xs.length cap) ∧ Box w2 (w.heap.size + 1) (.bool q) (.slice a' ys.length cap') ∧ Box w2 (w.heap.size + 1 + 1) (.bool false) (.slice none 0 0) ∧ Unf w2 (w.heap.size + 1 + 1) ∧ Below w.heap.size w w2) := ⟨bA, bB, bR, fR, hW⟩
    clear bA bB bR fR hW r0 r1 hzr hfr
    go_region_held3 (fun W => W.cell? ⟨w.heap.size, 0, none⟩ = some (.bool p) ∧ W.cell? ⟨w.heap.size, 1, none⟩ = some (.slice a xs.length cap) ∧ W.cell? ⟨w.heap.size + 1, 0, none⟩ = some (.bool q) ∧ W.cell? ⟨w.heap.size + 1, 1, none⟩ = some (.slice a' ys.length cap')) (go_keep) (first | (go_at_call 45; refine (hTx _ rx.drew).mono ?_; rintro e w3 ⟨gx, cx, X, rfl, hXl, hXv, oX, hB3⟩; clear hTx; obtain ⟨-, x0, x1⟩ := HQ.out.1.drew.keep hB3; obtain ⟨-, y0, y1⟩ := HQ.out.2.1.drew.keep hB3) | (go_at_call 45; refine (hTy _ (ry.drew.keep hB3)).mono ?_; rintro e w4 ⟨gy, cy, Y, rfl, hYl, hYv, oY, hB4⟩; clear hTy; obtain ⟨-, x2, x3⟩ := (HQ.out.1.drew.keep hB3).keep hB4; obtain ⟨-, y2, y3⟩ := (HQ.out.2.1.drew.keep hB3).keep hB4))
    all_goals go_wp2_with fail
    all_goals go_meet
    all_goals obtain ⟨bA, bB, bR, fR, hW⟩ := HQ.out
    all_goals have hW3 := hW.drew.trans (hB3.mono hW.size)
    all_goals have lx := oX.lt gx rfl
    all_goals exact ⟨gx, cx, X, gy, cy, Y, rfl, rfl, hXl, hYl, hXv, hYv, (oX.keep hB4).mono (by have := bR.1; simp only [World.size_drew]; omega), oY.mono (by omega), hW3.trans (hB4.mono hW3.size), (bR.drew.keep hB3).keep hB4, (fR.drew.keep hB3).keep hB4⟩
  case rest =>
    obtain ⟨gx, cx, X, gy, cy, Y, rfl, rfl, hXl, hYl, hXv, hYv, oX, oY, hW4, bR4, fR4⟩ := hcut
    clear bA bB bR fR hW r0 r1 hzr hfr rx ry k0 k1 k2 k3 hTx hTy
    have HVV : Hid (bop op (val X) (val Y) = VV) := HB.2.2.2.2 X Y hXv hYv
    clear hXv hYv
    have lx := oX.lt gx rfl
    have ly := oY.lt gy rfl
    have hne : ¬ gx = gy := by omega
    have hne' : ¬ gy = gx := by omega
    have hzX := oX.2.2
    have hzY := oY.2.2
    go_wp2
    go_loopw [46] (fun i wr => ∃ (k : Nat) (Z : List Int), k ≤ m + 1 ∧ i = .int .i64 k ∧ Z.length = k ∧ Own wr (w.heap.size + 1 + 1 + 1) (.slice (some ⟨gx, 0, none⟩) (m + 1) cx) (Z ++ X.drop k) ∧ Own wr (gx + 1) (.slice (some ⟨gy, 0, none⟩) (m + 1) cy) Y ∧ val Z = bop op (val (X.take k)) (val (Y.take k)) ∧ Below w.heap.size w wr ∧ Box wr (w.heap.size + 1 + 1) (.bool false) (.slice none 0 0) ∧ Unf wr (w.heap.size + 1 + 1)) (fun i _ => m + 1 - (intOf i).toNat)
    case atStart => exact ⟨0, [], Nat.zero_le _, rfl, rfl, by simpa using oX, oY, by simp [val, bop], hW4, bR4, fR4⟩
    case round =>
      obtain ⟨k, Z, hk, rfl, hZl, oZ, oYr, hZv, hWr, bRr, fRr⟩ := hrel
      clear oX oY hW4 bR4 fR4
      by_cases hlt : k < m + 1
      · have hcx := oZ.cell k (by simp; omega)
        have hge : (Z ++ X.drop k).getD k 0 = X.getD k 0 := by simp [List.getD, List.getElem?_append_right (by omega : Z.length ≤ k), hZl]
        rw [hge] at hcx
        have hcy := oYr.cell k (by omega)
        have hfx := oZ.frozen k
        have hXb := hzX.get k
        have hYb := hzY.get k
        have hSx := val_take_succ X k
        have hSy := val_take_succ Y k
        obtain ⟨x, hx⟩ : ∃ x : Nat, X.getD k 0 = (x : Int) := ⟨(X.getD k 0).toNat, by omega⟩
        obtain ⟨y, hy⟩ : ∃ y : Nat, Y.getD k 0 = (y : Int) := ⟨(Y.getD k 0).toNat, by omega⟩
        rw [hx] at hcx hXb hSx
        rw [hy] at hcy hYb hSy
        rw [Int.toNat_natCast] at hSx hSy
        have hcb := fun W => combined_any op x y W HB.1 (by omega) (by omega)
        have hbl : bop op x y < 4294967296 := bop_lt op (k := 32) (by omega) (by omega)
        have htx := val_lt (hzX.take k)
        have hty := val_lt (hzY.take k)
        rw [List.length_take, Nat.min_eq_left (by omega), R_pow] at htx hty
        have hst := bop_step op (32 * k) (val (X.take k)) (val (Y.take k)) x y htx hty
        rw [← R_pow] at hst
        rw [← hSx, ← hSy, ← hZv] at hst
        generalize bop op x y = D at hcb hbl hst
        have HZ : Hid (val (Z ++ [(D : Int)]) = bop op (val (X.take (k + 1))) (val (Y.take (k + 1)))) := by
          show _ = _
          rw [hst, val_append, hZl]; simp [val]
        have hSt := oZ.store k (z := (D : Int)) (by omega) (by omega)
        have hse : (Z ++ X.drop k).set k (D : Int) = (Z ++ [(D : Int)]) ++ X.drop (k + 1) := by
          rw [List.set_append_right _ _ (by omega), hZl, Nat.sub_self, List.drop_eq_getElem_cons (by omega : k < X.length), List.set_cons_zero]
          simp
        rw [hse] at hSt
        have HR : Hid (Own (wr.setCell ⟨gx, k, none⟩ (.int .u32 (D : Int))) (w.heap.size + 1 + 1 + 1) (.slice (some ⟨gx, 0, none⟩) (m + 1) cx) ((Z ++ [(D : Int)]) ++ X.drop (k + 1)) ∧ Own (wr.setCell ⟨gx, k, none⟩ (.int .u32 (D : Int))) (gx + 1) (.slice (some ⟨gy, 0, none⟩) (m + 1) cy) Y ∧ Below w.heap.size w (wr.setCell ⟨gx, k, none⟩ (.int .u32 (D : Int))) ∧ Box (wr.setCell ⟨gx, k, none⟩ (.int .u32 (D : Int))) (w.heap.size + 1 + 1) (.bool false) (.slice none 0 0) ∧ Unf (wr.setCell ⟨gx, k, none⟩ (.int .u32 (D : Int))) (w.heap.size + 1 + 1)) :=
          ⟨hSt, oYr.setBelow (by show gx < gx + 1; omega) _, hWr.setCell (by show w.heap.size ≤ gx; omega) _, bRr.setOther (by show ¬ _ = _; omega) _ _, fRr.set _ _⟩
        have hk1 : (k : Int) < (m : Int) + 1 := by omega
        clear hSt hse hst hSx hSy htx hty hge oZ oYr hZv hWr bRr fRr hx hy HVV HB hSg
        go_upto_region 8 with fail
        go_region_with (go_at_call 46; refine (hcb _).mono ?_; rintro e w5 ⟨rfl, rfl⟩)
        all_goals go_wp2
        all_goals go_roundw
        all_goals first | (obtain ⟨q1, q2, q3, q4, q5⟩ := HR.out; exact ⟨k + 1, Z ++ [(D : Int)], by omega, by go_num, by simp [hZl], q1.drew, q2.drew, HZ.out, q3.drew, q4.drew, q5.drew⟩) | (simp [intOf]; omega)
      · have hk' : k = m + 1 := by omega
        subst hk'
        rw [List.drop_of_length_le (by omega), List.append_nil] at oZ
        rw [List.take_of_length_le (by omega), List.take_of_length_le (by omega), HVV.out] at hZv
        have hzZ := oZ.2.2
        have hcm := oZ.cell m (by omega)
        have hla := limb_at hzZ m (by omega)
        rw [hZv, R_pow, HB.2.1] at hla
        have hzb := hzZ.get m
        cases hng : ng with
        | false =>
          rw [hng, if_neg (by simp)] at hla
          have e0 : Z.getD m 0 = 0 := by omega
          rw [e0] at hcm
          have hNN : val Z = NN := by rw [hZv, HB.2.2.2.1, hng, if_neg (by simp)]
          have hsz := hSg wr (w.heap.size + 1 + 1 + 1) (m + 1) cx (some ⟨gx, 0, none⟩) Z oZ hNN (by have := bRr.1; omega)
          rw [hng] at hsz
          clear hla hZv hNN hSg HB HVV oZ oYr e0 hng
          obtain ⟨hzr, r0, r1⟩ := id bRr
          obtain ⟨-, hfr⟩ := id fRr
          go_wp2_with fail
          refine hsz.mono ?_
          rintro e w6 ⟨a6, c6, rfl, hO6, hB6⟩
          clear hsz r0 r1 hzr hfr
          replace bRr := bRr.keep hB6
          replace fRr := fRr.keep hB6
          have hW6 := hWr.trans (hB6.mono hWr.size)
          obtain ⟨hzr, r0, r1⟩ := id bRr
          obtain ⟨-, hfr⟩ := id fRr
          go_wp2
          refine bodyPost_ret (v := .tuple #[.agg #[.bool S, .slice a6 L.length c6], .int .i64 C]) (by simp [results, Try.results20, go_sem, r0, r1, hzr]) rfl ⟨a6, c6, rfl, ?_, ?_⟩
          · exact ((hO6.setBelow (by show w.heap.size + 1 + 1 < _; omega) _).setBelow (by show w.heap.size + 1 + 1 < _; omega) _).mono (by omega)
          · exact (hW6.setCell (by show w.heap.size ≤ w.heap.size + 1 + 1; omega) _).setCell (by show w.heap.size ≤ w.heap.size + 1 + 1; omega) _
        | true =>
          rw [hng, if_pos rfl] at hla
          have e0 : Z.getD m 0 = 4294967295 := by omega
          rw [e0] at hcm
          have hneg := negate_any (w.heap.size + 1 + 1 + 1) gx cx Z wr (by rw [hZl]; exact oZ)
          rw [hZl] at hneg
          have hvp : ∀ (U : List Int) (c : Nat), c ≤ 1 → val U + 4294967296 ^ (m + 1) * c + val Z = 4294967296 ^ (m + 1) → val U = NN := fun U c hc hU => by
            have h1 := HB.2.2.1
            rw [HB.2.2.2.1, hng, if_pos rfl]
            rw [hZv, R_pow, show 32 * (m + 1) = 32 * m + 32 from by omega] at hU
            have h2 : 0 < VV := by
              rcases Nat.eq_zero_or_pos VV with h | h
              · have h3 := HB.2.1
                rw [h, hng, if_pos rfl, Nat.zero_div] at h3; omega
              · exact h
            have : c = 0 ∨ c = 1 := by omega
            rcases this with rfl | rfl
            · omega
            · omega
          have hsz := fun W U h1 h2 h3 => hSg W (w.heap.size + 1 + 1 + 1) (m + 1) cx (some ⟨gx, 0, none⟩) U h1 h2 h3
          rw [hng] at hsz
          have HVP : VpF m NN Z := hvp
          clear hla hZv hSg HB HVV oZ oYr e0 hng hvp
          go_wp2_with fail
          refine hneg.mono ?_
          rintro e w5 ⟨rfl, U, c, hUl, hU, hc1, hUv, hg5⟩
          have hUN := HVP U c hc1 hUv
          clear hneg hUv
          have bR5 := bRr.but hg5 (by simp; omega)
          have fR5 := fRr.but hg5 (by simp; omega)
          have hW5 := hWr.trans (gb_to hg5 (B := w.heap.size) (by intro k h; cases h; omega) (by have := hWr.size; omega))
          have hs5 := hsz w5 U hU hUN (by have := bR5.1; omega)
          clear hsz bRr fRr hWr hg5 hUN
          obtain ⟨hzr, r0, r1⟩ := id bR5
          obtain ⟨-, hfr⟩ := id fR5
          go_wp2_with fail
          refine hs5.mono ?_
          rintro e w6 ⟨a6, c6, rfl, hO6, hB6⟩
          clear hs5 r0 r1 hzr hfr
          replace bR5 := bR5.keep hB6
          replace fR5 := fR5.keep hB6
          have hW6 := hW5.trans (hB6.mono hW5.size)
          obtain ⟨hzr, r0, r1⟩ := id bR5
          obtain ⟨-, hfr⟩ := id fR5
          go_wp2
          refine bodyPost_ret (v := .tuple #[.agg #[.bool S, .slice a6 L.length c6], .int .i64 C]) (by simp [results, Try.results20, go_sem, r0, r1, hzr]) rfl ⟨a6, c6, rfl, ?_, ?_⟩
          · exact ((hO6.setBelow (by show w.heap.size + 1 + 1 < _; omega) _).setBelow (by show w.heap.size + 1 + 1 < _; omega) _).mono (by omega)
          · exact (hW6.setCell (by show w.heap.size ≤ w.heap.size + 1 + 1; omega) _).setCell (by show w.heap.size ≤ w.heap.size + 1 + 1; omega) _
end Go.Proofs.Ythgpacajeaphhaa
