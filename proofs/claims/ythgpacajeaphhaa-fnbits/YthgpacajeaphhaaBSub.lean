import Derived.Test.YthgpacajeaphhaaBAdd
import Derived.Deep.RegionHeld3
namespace Go.Proofs.Ythgpacajeaphhaa
open Go.RowKit
set_option linter.unusedVariables false
set_option linter.unusedSimpArgs false

set_option maxHeartbeats 1000000 in
set_option maxRecDepth 100000 in
theorem bigSub_any (p q : Bool) (v u : Value) (xs ys : List Int) (w : World) (hx : Rd w v xs) (hy : Rd w u ys) :
    Calls Try.prog 14 #[.agg #[.bool p, v], .agg #[.bool q, u]] w fun e w' => ∃ a c, e = .returned (.tuple #[.agg #[.bool (opS (okB p xs && okB q ys) (sumR p (val xs) (!q) (val ys)).1 (sumR p (val xs) (!q) (val ys)).2), .slice a (opL (okB p xs && okB q ys) (sumR p (val xs) (!q) (val ys)).2).length c], .int .i64 (opC (okB p xs && okB q ys) (sumR p (val xs) (!q) (val ys)).2)]) ∧ Own w' w.heap.size (.slice a (opL (okB p xs && okB q ys) (sumR p (val xs) (!q) (val ys)).2).length c) (opL (okB p xs && okB q ys) (sumR p (val xs) (!q) (val ys)).2) ∧ Below w.heap.size w w' := by
  have hx' := hx
  have hy' := hy
  obtain ⟨a, cap, rfl, _, hzx, hnx, hcx⟩ := hx
  obtain ⟨a', cap', rfl, _, hzy, hny, hcy⟩ := hy
  clear hcx hcy hnx hny
  have bA := ((Box.new w (.bool p) (.slice a xs.length cap) 26).alloc (Obj.cells #[.bool q, .slice a' ys.length cap'] 26)).alloc (Obj.cells #[.bool false, .slice none 0 0] 26)
  have bB := (Box.new (w.alloc (Obj.cells #[.bool p, .slice a xs.length cap] 26)) (.bool q) (.slice a' ys.length cap') 26).alloc (Obj.cells #[.bool false, .slice none 0 0] 26)
  have rx := ((hx'.alloc (Obj.cells #[.bool p, .slice a xs.length cap] 26)).alloc (Obj.cells #[.bool q, .slice a' ys.length cap'] 26)).alloc (Obj.cells #[.bool false, .slice none 0 0] 26)
  have ry := ((hy'.alloc (Obj.cells #[.bool p, .slice a xs.length cap] 26)).alloc (Obj.cells #[.bool q, .slice a' ys.length cap'] 26)).alloc (Obj.cells #[.bool false, .slice none 0 0] 26)
  have hW := (((Below.refl w.heap.size w).alloc (Nat.le_refl _) (Obj.cells #[.bool p, .slice a xs.length cap] 26)).alloc (by simp) (Obj.cells #[.bool q, .slice a' ys.length cap'] 26)).alloc (by simp; omega) (Obj.cells #[.bool false, .slice none 0 0] 26)
  have bR := Box.new ((w.alloc (Obj.cells #[.bool p, .slice a xs.length cap] 26)).alloc (Obj.cells #[.bool q, .slice a' ys.length cap'] 26)) (.bool false) (.slice none 0 0) 26
  have fR := Unf.new ((w.alloc (Obj.cells #[.bool p, .slice a xs.length cap] 26)).alloc (Obj.cells #[.bool q, .slice a' ys.length cap'] 26)) #[.bool false, .slice none 0 0] 26
  have hne1 : ¬ (w.heap.size + 1 + 1 = w.heap.size) := by omega
  have hne2 : ¬ (w.heap.size = w.heap.size + 1 + 1) := by omega
  have fA := ((Unf.new w #[.bool p, .slice a xs.length cap] 26).keep ((Below.refl _ _).alloc (Nat.le_refl _) (Obj.cells #[.bool q, .slice a' ys.length cap'] 26))).keep ((Below.refl _ _).alloc (Nat.le_refl _) (Obj.cells #[.bool false, .slice none 0 0] 26))
  have fB := (Unf.new (w.alloc (Obj.cells #[.bool p, .slice a xs.length cap] 26)) #[.bool q, .slice a' ys.length cap'] 26).keep ((Below.refl _ _).alloc (Nat.le_refl _) (Obj.cells #[.bool false, .slice none 0 0] 26))
  simp only [World.size_alloc] at bB fB bR fR
  cases hoA : okB p xs with
  | false =>
    rw [Bool.false_and]
    have e1 : ∀ s m, opS false s m = false := fun _ _ => rfl
    have e2 : ∀ m, opL false m = [] := fun _ => rfl
    have e3 : ∀ m, opC false m = 1 := fun _ => rfl
    rw [e1, e2, e3]
    clear e1 e2 e3
    have hokA := fun W h => bigOk_any p (.slice a xs.length cap) xs W h
    rw [hoA] at hokA
    clear hoA hx' hy'
    go_enter Try.func14, Try.ntmps14
    go_wp2_with fail
    refine (hokA _ rx).mono ?_
    rintro e w1 ⟨rfl, hB⟩
    replace hW := hW.trans (hB.mono hW.size)
    replace bA := bA.keep hB
    replace bB := bB.keep hB
    replace fA := fA.keep hB
    replace fB := fB.keep hB
    replace rx := rx.keep hB
    replace ry := ry.keep hB
    replace bR := bR.keep hB
    replace fR := fR.keep hB
    clear hB
    obtain ⟨-, k0, k1⟩ := id bA
    obtain ⟨-, k2, k3⟩ := id bB
    obtain ⟨hzr, r0, r1⟩ := id bR
    obtain ⟨-, hfr⟩ := id fR
    go_wp2
    refine bodyPost_ret (v := .tuple #[.agg #[.bool false, .slice none 0 0], .int .i64 1]) (by simp [results, Try.results14, go_sem, r0, r1, hzr]) rfl ⟨none, 0, rfl, Own.nil _ _, ?_⟩
    exact (hW.setCell (by show w.heap.size ≤ w.heap.size + 1 + 1; omega) _).setCell (by show w.heap.size ≤ w.heap.size + 1 + 1; omega) _
  | true =>
    cases hoB : okB q ys with
    | false =>
      rw [Bool.and_false]
      have e1 : ∀ s m, opS false s m = false := fun _ _ => rfl
      have e2 : ∀ m, opL false m = [] := fun _ => rfl
      have e3 : ∀ m, opC false m = 1 := fun _ => rfl
      rw [e1, e2, e3]
      clear e1 e2 e3
      have hokA := fun W h => bigOk_any p (.slice a xs.length cap) xs W h
      rw [hoA] at hokA
      have hokB := fun W h => bigOk_any q (.slice a' ys.length cap') ys W h
      rw [hoB] at hokB
      clear hoA hoB hx' hy'
      go_enter Try.func14, Try.ntmps14
      go_wp2_with fail
      refine (hokA _ rx).mono ?_
      rintro e w1 ⟨rfl, hB⟩
      replace hW := hW.trans (hB.mono hW.size)
      replace bA := bA.keep hB
      replace bB := bB.keep hB
      replace fA := fA.keep hB
      replace fB := fB.keep hB
      replace rx := rx.keep hB
      replace ry := ry.keep hB
      replace bR := bR.keep hB
      replace fR := fR.keep hB
      clear hB
      obtain ⟨-, k0, k1⟩ := id bA
      obtain ⟨-, k2, k3⟩ := id bB
      obtain ⟨hzr, r0, r1⟩ := id bR
      obtain ⟨-, hfr⟩ := id fR
      go_wp2_with fail
      refine (hokB _ ry).mono ?_
      rintro e w2 ⟨rfl, hB⟩
      clear k0 k1 k2 k3 r0 r1 hzr hfr
      replace hW := hW.trans (hB.mono hW.size)
      replace bA := bA.keep hB
      replace bB := bB.keep hB
      replace fA := fA.keep hB
      replace fB := fB.keep hB
      replace rx := rx.keep hB
      replace ry := ry.keep hB
      replace bR := bR.keep hB
      replace fR := fR.keep hB
      clear hB
      obtain ⟨-, k0, k1⟩ := id bA
      obtain ⟨-, k2, k3⟩ := id bB
      obtain ⟨hzr, r0, r1⟩ := id bR
      obtain ⟨-, hfr⟩ := id fR
      go_wp2
      refine bodyPost_ret (v := .tuple #[.agg #[.bool false, .slice none 0 0], .int .i64 1]) (by simp [results, Try.results14, go_sem, r0, r1, hzr]) rfl ⟨none, 0, rfl, Own.nil _ _, ?_⟩
      exact (hW.setCell (by show w.heap.size ≤ w.heap.size + 1 + 1; omega) _).setCell (by show w.heap.size ≤ w.heap.size + 1 + 1; omega) _
    | true =>
      rw [Bool.and_true]
      have e1 : ∀ s m, opS true s m = fitS s m := fun _ _ => rfl
      have e2 : ∀ m, opL true m = fitL m := fun _ => rfl
      have e3 : ∀ m, opC true m = fitC m := fun _ => rfl
      rw [e1, e2, e3]
      clear e1 e2 e3
      have hnA := okB_norm hoA
      have hnB := okB_norm hoB
      have hokA := fun W h => bigOk_any p (.slice a xs.length cap) xs W h
      rw [hoA] at hokA
      have hokB := fun W h => bigOk_any q (.slice a' ys.length cap') ys W h
      rw [hoB] at hokB
      clear hoA hoB hx' hy'
      have hP := fun W h1 h2 => plusB_any p (!q) (.slice a xs.length cap) (.slice a' ys.length cap') xs ys W h1 h2 hnA.1 hnB.1 (by omega) (by omega)
      generalize fitS (sumR p (val xs) (!q) (val ys)).1 (sumR p (val xs) (!q) (val ys)).2 = s at hP ⊢
      generalize fitL (sumR p (val xs) (!q) (val ys)).2 = L at hP ⊢
      generalize fitC (sumR p (val xs) (!q) (val ys)).2 = C at hP ⊢
      clear hnA hnB
      go_enter Try.func14, Try.ntmps14
      go_wp2_with fail
      refine (hokA _ rx).mono ?_
      rintro e w1 ⟨rfl, hB⟩
      replace hW := hW.trans (hB.mono hW.size)
      replace bA := bA.keep hB
      replace bB := bB.keep hB
      replace fA := fA.keep hB
      replace fB := fB.keep hB
      replace rx := rx.keep hB
      replace ry := ry.keep hB
      replace bR := bR.keep hB
      replace fR := fR.keep hB
      clear hB
      obtain ⟨-, k0, k1⟩ := id bA
      obtain ⟨-, k2, k3⟩ := id bB
      obtain ⟨hzr, r0, r1⟩ := id bR
      obtain ⟨-, hfr⟩ := id fR
      go_wp2_with fail
      refine (hokB _ ry).mono ?_
      rintro e w2 ⟨rfl, hB⟩
      clear k0 k1 k2 k3 r0 r1 hzr hfr
      replace hW := hW.trans (hB.mono hW.size)
      replace bA := bA.keep hB
      replace bB := bB.keep hB
      replace fA := fA.keep hB
      replace fB := fB.keep hB
      replace rx := rx.keep hB
      replace ry := ry.keep hB
      replace bR := bR.keep hB
      replace fR := fR.keep hB
      clear hB
      obtain ⟨-, k0, k1⟩ := id bA
      obtain ⟨-, k2, k3⟩ := id bB
      obtain ⟨hzr, r0, r1⟩ := id bR
      obtain ⟨-, hfr⟩ := id fR
      clear hokA hokB
      go_wp2_with fail
      refine (hP _ rx ry).mono ?_
      rintro e w3 ⟨a3, c3, rfl, hO3, hB⟩
      clear hP
      have hlo := fR.1
      have hWl := hW.size
      clear k0 k1 k2 k3 r0 r1 hzr hfr
      replace hW := hW.trans (hB.mono hW.size)
      replace bA := bA.keep hB
      replace bB := bB.keep hB
      replace fA := fA.keep hB
      replace fB := fB.keep hB
      replace rx := rx.keep hB
      replace ry := ry.keep hB
      replace bR := bR.keep hB
      replace fR := fR.keep hB
      clear hB
      obtain ⟨-, k0, k1⟩ := id bA
      obtain ⟨-, k2, k3⟩ := id bB
      obtain ⟨hzr, r0, r1⟩ := id bR
      obtain ⟨-, hfr⟩ := id fR
      go_wp2
      refine bodyPost_ret (v := .tuple #[.agg #[.bool s, .slice a3 L.length c3], .int .i64 C]) (by simp [results, Try.results14, go_sem, r0, r1, hzr]) rfl ⟨a3, c3, rfl, ?_, ?_⟩
      · exact ((hO3.setBelow (by show w.heap.size + 1 + 1 < _; exact hlo) _).setBelow (by show w.heap.size + 1 + 1 < _; exact hlo) _).mono (hWl)
      · exact (hW.setCell (by show w.heap.size ≤ w.heap.size + 1 + 1; omega) _).setCell (by show w.heap.size ≤ w.heap.size + 1 + 1; omega) _
end Go.Proofs.Ythgpacajeaphhaa
