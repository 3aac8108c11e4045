import Derived.Test.YthgpacajeaphhaaBAdd
import Derived.Test.YthgpacajeaphhaaMulS
import Derived.Test.YthgpacajeaphhaaTimes
import Derived.Deep.RegionHeld3
namespace Go.Proofs.Ythgpacajeaphhaa
open Go.RowKit
set_option linter.unusedVariables false
set_option linter.unusedSimpArgs false

set_option maxHeartbeats 1000000 in
set_option maxRecDepth 100000 in
theorem bigMulS_any (p q : Bool) (v u : Value) (xs ys : List Int) (w : World) (hx : Rd w v xs) (hy : Rd w u ys) :
    Calls Try.prog 19 #[.agg #[.bool p, v], .agg #[.bool q, u]] w fun e w' => ∃ a c, e = .returned (.tuple #[.agg #[.bool (opS (okB p xs && okB q ys) (p != q) (val xs * val ys)), .slice a (opL (okB p xs && okB q ys) (val xs * val ys)).length c], .int .i64 (opC (okB p xs && okB q ys) (val xs * val ys))]) ∧ Own w' w.heap.size (.slice a (opL (okB p xs && okB q ys) (val xs * val ys)).length c) (opL (okB p xs && okB q ys) (val xs * val ys)) ∧ Below w.heap.size w w' := by
  have hx' := hx
  have hy' := hy
  obtain ⟨a, cap, rfl, _, hzx, hnx, hcx⟩ := hx
  obtain ⟨a', cap', rfl, _, hzy, hny, hcy⟩ := hy
  clear hcx hcy hnx hny
  have bA := ((Box.new w (.bool p) (.slice a xs.length cap) 26).alloc (Obj.cells #[.bool q, .slice a' ys.length cap'] 26)).alloc (Obj.cells #[.bool false, .slice none 0 0] 26)
  have bB := (Box.new (w.alloc (Obj.cells #[.bool p, .slice a xs.length cap] 26)) (.bool q) (.slice a' ys.length cap') 26).alloc (Obj.cells #[.bool false, .slice none 0 0] 26)
  have rx := ((hx'.alloc (Obj.cells #[.bool p, .slice a xs.length cap] 26)).alloc (Obj.cells #[.bool q, .slice a' ys.length cap'] 26)).alloc (Obj.cells #[.bool false, .slice none 0 0] 26)
  have ry := ((hy'.alloc (Obj.cells #[.bool p, .slice a xs.length cap] 26)).alloc (Obj.cells #[.bool q, .slice a' ys.length cap'] 26)).alloc (Obj.cells #[.bool false, .slice none 0 0] 26)
  have hW := (((Below.refl w.heap.size w).alloc (Nat.le_refl _) (Obj.cells #[.bool p, .slice a xs.length cap] 26)).alloc (by simp) (Obj.cells #[.bool q, .slice a' ys.length cap'] 26)).alloc (by simp; omega) (Obj.cells #[.bool false, .slice none 0 0] 26)
  have bR := Box.new ((w.alloc (Obj.cells #[.bool p, .slice a xs.length cap] 26)).alloc (Obj.cells #[.bool q, .slice a' ys.length cap'] 26)) (.bool false) (.slice none 0 0) 26
  have fR := Unf.new ((w.alloc (Obj.cells #[.bool p, .slice a xs.length cap] 26)).alloc (Obj.cells #[.bool q, .slice a' ys.length cap'] 26)) #[.bool false, .slice none 0 0] 26
  have hne1 : ¬ (w.heap.size + 1 + 1 = w.heap.size) := by omega
  have hne2 : ¬ (w.heap.size = w.heap.size + 1 + 1) := by omega
  have fA := ((Unf.new w #[.bool p, .slice a xs.length cap] 26).keep ((Below.refl _ _).alloc (Nat.le_refl _) (Obj.cells #[.bool q, .slice a' ys.length cap'] 26))).keep ((Below.refl _ _).alloc (Nat.le_refl _) (Obj.cells #[.bool false, .slice none 0 0] 26))
  have fB := (Unf.new (w.alloc (Obj.cells #[.bool p, .slice a xs.length cap] 26)) #[.bool q, .slice a' ys.length cap'] 26).keep ((Below.refl _ _).alloc (Nat.le_refl _) (Obj.cells #[.bool false, .slice none 0 0] 26))
  simp only [World.size_alloc] at bB fB bR fR
  cases hoA : okB p xs with
  | false =>
    rw [Bool.false_and]
    have e1 : ∀ s m, opS false s m = false := fun _ _ => rfl
    have e2 : ∀ m, opL false m = [] := fun _ => rfl
    have e3 : ∀ m, opC false m = 1 := fun _ => rfl
    rw [e1, e2, e3]
    clear e1 e2 e3
    have hokA := fun W h => bigOkS_any p (.slice a xs.length cap) xs W h
    rw [hoA] at hokA
    clear hoA hx' hy'
    go_enter Try.func19, Try.ntmps19
    go_wp2_with fail
    refine (hokA _ rx).mono ?_
    rintro e w1 ⟨rfl, hB⟩
    replace hW := hW.trans (hB.mono hW.size)
    replace bA := bA.keep hB
    replace bB := bB.keep hB
    replace fA := fA.keep hB
    replace fB := fB.keep hB
    replace rx := rx.keep hB
    replace ry := ry.keep hB
    replace bR := bR.keep hB
    replace fR := fR.keep hB
    clear hB
    obtain ⟨-, k0, k1⟩ := id bA
    obtain ⟨-, k2, k3⟩ := id bB
    obtain ⟨hzr, r0, r1⟩ := id bR
    obtain ⟨-, hfr⟩ := id fR
    go_wp2
    refine bodyPost_ret (v := .tuple #[.agg #[.bool false, .slice none 0 0], .int .i64 1]) (by simp [results, Try.results19, go_sem, r0, r1, hzr]) rfl ⟨none, 0, rfl, Own.nil _ _, ?_⟩
    exact (hW.setCell (by show w.heap.size ≤ w.heap.size + 1 + 1; omega) _).setCell (by show w.heap.size ≤ w.heap.size + 1 + 1; omega) _
  | true =>
    cases hoB : okB q ys with
    | false =>
      rw [Bool.and_false]
      have e1 : ∀ s m, opS false s m = false := fun _ _ => rfl
      have e2 : ∀ m, opL false m = [] := fun _ => rfl
      have e3 : ∀ m, opC false m = 1 := fun _ => rfl
      rw [e1, e2, e3]
      clear e1 e2 e3
      have hokA := fun W h => bigOkS_any p (.slice a xs.length cap) xs W h
      rw [hoA] at hokA
      have hokB := fun W h => bigOkS_any q (.slice a' ys.length cap') ys W h
      rw [hoB] at hokB
      clear hoA hoB hx' hy'
      go_enter Try.func19, Try.ntmps19
      go_wp2_with fail
      refine (hokA _ rx).mono ?_
      rintro e w1 ⟨rfl, hB⟩
      replace hW := hW.trans (hB.mono hW.size)
      replace bA := bA.keep hB
      replace bB := bB.keep hB
      replace fA := fA.keep hB
      replace fB := fB.keep hB
      replace rx := rx.keep hB
      replace ry := ry.keep hB
      replace bR := bR.keep hB
      replace fR := fR.keep hB
      clear hB
      obtain ⟨-, k0, k1⟩ := id bA
      obtain ⟨-, k2, k3⟩ := id bB
      obtain ⟨hzr, r0, r1⟩ := id bR
      obtain ⟨-, hfr⟩ := id fR
      go_wp2_with fail
      refine (hokB _ ry).mono ?_
      rintro e w2 ⟨rfl, hB⟩
      clear k0 k1 k2 k3 r0 r1 hzr hfr
      replace hW := hW.trans (hB.mono hW.size)
      replace bA := bA.keep hB
      replace bB := bB.keep hB
      replace fA := fA.keep hB
      replace fB := fB.keep hB
      replace rx := rx.keep hB
      replace ry := ry.keep hB
      replace bR := bR.keep hB
      replace fR := fR.keep hB
      clear hB
      obtain ⟨-, k0, k1⟩ := id bA
      obtain ⟨-, k2, k3⟩ := id bB
      obtain ⟨hzr, r0, r1⟩ := id bR
      obtain ⟨-, hfr⟩ := id fR
      go_wp2
      refine bodyPost_ret (v := .tuple #[.agg #[.bool false, .slice none 0 0], .int .i64 1]) (by simp [results, Try.results19, go_sem, r0, r1, hzr]) rfl ⟨none, 0, rfl, Own.nil _ _, ?_⟩
      exact (hW.setCell (by show w.heap.size ≤ w.heap.size + 1 + 1; omega) _).setCell (by show w.heap.size ≤ w.heap.size + 1 + 1; omega) _
    | true =>
      rw [Bool.and_true]
      have e1 : ∀ s m, opS true s m = fitS s m := fun _ _ => rfl
      have e2 : ∀ m, opL true m = fitL m := fun _ => rfl
      have e3 : ∀ m, opC true m = fitC m := fun _ => rfl
      rw [e1, e2, e3]
      clear e1 e2 e3
      have hnA := okB_norm hoA
      have hnB := okB_norm hoB
      have hokA := fun W h => bigOkS_any p (.slice a xs.length cap) xs W h
      rw [hoA] at hokA
      have hokB := fun W h => bigOkS_any q (.slice a' ys.length cap') ys W h
      rw [hoB] at hokB
      clear hoA hoB hx' hy'
      have hM := fun W h1 h2 => mulMag_any (.slice a xs.length cap) (.slice a' ys.length cap') xs ys W h1 h2 (by omega) (by omega)
      have hG := fun W v h => l1Big_lim (p != q) v (val xs * val ys) W h
      have hF := fun B n c a1 W h1 h2 => l1Fit_any (p != q) B n c a1 (val xs * val ys) W h1 h2
      generalize fitS (p != q) (val xs * val ys) = s at hF ⊢
      generalize fitL (val xs * val ys) = L at hF ⊢
      generalize fitC (val xs * val ys) = C at hF ⊢
      generalize nz (p != q) (val xs * val ys) = s1 at hG hF
      generalize lim (val xs * val ys) = L1 at hM hG hF
      clear hnA hnB
      go_enter Try.func19, Try.ntmps19
      go_wp2_with fail
      refine (hokA _ rx).mono ?_
      rintro e w1 ⟨rfl, hB⟩
      replace hW := hW.trans (hB.mono hW.size)
      replace bA := bA.keep hB
      replace bB := bB.keep hB
      replace fA := fA.keep hB
      replace fB := fB.keep hB
      replace rx := rx.keep hB
      replace ry := ry.keep hB
      replace bR := bR.keep hB
      replace fR := fR.keep hB
      clear hB
      obtain ⟨-, k0, k1⟩ := id bA
      obtain ⟨-, k2, k3⟩ := id bB
      obtain ⟨hzr, r0, r1⟩ := id bR
      obtain ⟨-, hfr⟩ := id fR
      go_wp2_with fail
      refine (hokB _ ry).mono ?_
      rintro e w2 ⟨rfl, hB⟩
      clear k0 k1 k2 k3 r0 r1 hzr hfr
      replace hW := hW.trans (hB.mono hW.size)
      replace bA := bA.keep hB
      replace bB := bB.keep hB
      replace fA := fA.keep hB
      replace fB := fB.keep hB
      replace rx := rx.keep hB
      replace ry := ry.keep hB
      replace bR := bR.keep hB
      replace fR := fR.keep hB
      clear hB
      obtain ⟨-, k0, k1⟩ := id bA
      obtain ⟨-, k2, k3⟩ := id bB
      obtain ⟨hzr, r0, r1⟩ := id bR
      obtain ⟨-, hfr⟩ := id fR
      clear hokA hokB
      have hM := hM w2.drew rx.drew ry.drew
      go_wp2_with fail
      go_region_held3 (fun W => W.cell? ⟨w.heap.size, 0, none⟩ = some (.bool p) ∧ W.cell? ⟨w.heap.size, 1, none⟩ = some (.slice a xs.length cap) ∧ W.cell? ⟨w.heap.size + 1, 0, none⟩ = some (.bool q) ∧ W.cell? ⟨w.heap.size + 1, 1, none⟩ = some (.slice a' ys.length cap')) (go_keep) (first | (go_at_call 44; refine hM.mono ?_; rintro e w3 ⟨a3, c3, rfl, hO3, hB3⟩; have hW3 := hW.drew.trans (hB3.mono hW.size); have bA3 := bA.drew.keep hB3; have bB3 := bB.drew.keep hB3; have bR3 := bR.drew.keep hB3; have fR3 := fR.drew.keep hB3; obtain ⟨-, x0, x1⟩ := id bA3; obtain ⟨-, y0, y1⟩ := id bB3) | (go_at_call 43; refine (hG _ _ hO3.rd).mono ?_; rintro e w4 ⟨a4, c4, rfl, hO4, hB4⟩; have hW4 := hW3.trans (hB4.mono hW3.size); have bA4 := bA3.keep hB4; have bB4 := bB3.keep hB4; have bR4 := bR3.keep hB4; have fR4 := fR3.keep hB4; obtain ⟨-, x2, x3⟩ := id bA4; obtain ⟨-, y2, y3⟩ := id bB4; have hl4 := hB4.size) | (go_at_call 42; refine (hF _ _ _ _ _ hO4 hl4).mono ?_; rintro e w5 ⟨a5, c5, rfl, hO5, hB5⟩; have hW5 := hW4.trans (hB5.mono hW4.size); obtain ⟨-, x4, x5⟩ := bA4.keep hB5; obtain ⟨-, y4, y5⟩ := bB4.keep hB5; obtain ⟨hzs, s0, s1'⟩ := bR4.keep hB5; obtain ⟨-, hfs⟩ := fR4.keep hB5; have hlo := fR3.1))
      go_wp2
      refine bodyPost_ret (v := .tuple #[.agg #[.bool s, .slice a5 L.length c5], .int .i64 C]) (by simp [results, Try.results19, go_sem, s0, s1', hzs]) rfl ⟨a5, c5, rfl, ?_, ?_⟩
      · exact ((hO5.setBelow (by show w.heap.size + 1 + 1 < _; exact hlo) _).setBelow (by show w.heap.size + 1 + 1 < _; exact hlo) _).mono (Nat.le_trans (by omega) (Nat.le_of_lt hlo))
      · exact (hW5.setCell (by show w.heap.size ≤ w.heap.size + 1 + 1; omega) _).setCell (by show w.heap.size ≤ w.heap.size + 1 + 1; omega) _

set_option maxHeartbeats 1000000 in
set_option maxRecDepth 100000 in
theorem bigMul_any (p q : Bool) (v u : Value) (xs ys : List Int) (w : World) (hx : Rd w v xs) (hy : Rd w u ys) :
    Calls Try.prog 10 #[.agg #[.bool p, v], .agg #[.bool q, u]] w fun e w' => ∃ a c, e = .returned (.tuple #[.agg #[.bool (opS (okB p xs && okB q ys) (p != q) (val xs * val ys)), .slice a (opL (okB p xs && okB q ys) (val xs * val ys)).length c], .int .i64 (opC (okB p xs && okB q ys) (val xs * val ys))]) ∧ Own w' w.heap.size (.slice a (opL (okB p xs && okB q ys) (val xs * val ys)).length c) (opL (okB p xs && okB q ys) (val xs * val ys)) ∧ Below w.heap.size w w' := by
  have hx' := hx
  have hy' := hy
  obtain ⟨a, cap, rfl, _, hzx, hnx, hcx⟩ := hx
  obtain ⟨a', cap', rfl, _, hzy, hny, hcy⟩ := hy
  clear hcx hcy hnx hny
  have bA := ((Box.new w (.bool p) (.slice a xs.length cap) 26).alloc (Obj.cells #[.bool q, .slice a' ys.length cap'] 26)).alloc (Obj.cells #[.bool false, .slice none 0 0] 26)
  have bB := (Box.new (w.alloc (Obj.cells #[.bool p, .slice a xs.length cap] 26)) (.bool q) (.slice a' ys.length cap') 26).alloc (Obj.cells #[.bool false, .slice none 0 0] 26)
  have rx := ((hx'.alloc (Obj.cells #[.bool p, .slice a xs.length cap] 26)).alloc (Obj.cells #[.bool q, .slice a' ys.length cap'] 26)).alloc (Obj.cells #[.bool false, .slice none 0 0] 26)
  have ry := ((hy'.alloc (Obj.cells #[.bool p, .slice a xs.length cap] 26)).alloc (Obj.cells #[.bool q, .slice a' ys.length cap'] 26)).alloc (Obj.cells #[.bool false, .slice none 0 0] 26)
  have hW := (((Below.refl w.heap.size w).alloc (Nat.le_refl _) (Obj.cells #[.bool p, .slice a xs.length cap] 26)).alloc (by simp) (Obj.cells #[.bool q, .slice a' ys.length cap'] 26)).alloc (by simp; omega) (Obj.cells #[.bool false, .slice none 0 0] 26)
  have bR := Box.new ((w.alloc (Obj.cells #[.bool p, .slice a xs.length cap] 26)).alloc (Obj.cells #[.bool q, .slice a' ys.length cap'] 26)) (.bool false) (.slice none 0 0) 26
  have fR := Unf.new ((w.alloc (Obj.cells #[.bool p, .slice a xs.length cap] 26)).alloc (Obj.cells #[.bool q, .slice a' ys.length cap'] 26)) #[.bool false, .slice none 0 0] 26
  have hne1 : ¬ (w.heap.size + 1 + 1 = w.heap.size) := by omega
  have hne2 : ¬ (w.heap.size = w.heap.size + 1 + 1) := by omega
  have fA := ((Unf.new w #[.bool p, .slice a xs.length cap] 26).keep ((Below.refl _ _).alloc (Nat.le_refl _) (Obj.cells #[.bool q, .slice a' ys.length cap'] 26))).keep ((Below.refl _ _).alloc (Nat.le_refl _) (Obj.cells #[.bool false, .slice none 0 0] 26))
  have fB := (Unf.new (w.alloc (Obj.cells #[.bool p, .slice a xs.length cap] 26)) #[.bool q, .slice a' ys.length cap'] 26).keep ((Below.refl _ _).alloc (Nat.le_refl _) (Obj.cells #[.bool false, .slice none 0 0] 26))
  simp only [World.size_alloc] at bB fB bR fR
  cases hoA : okB p xs with
  | false =>
    rw [Bool.false_and]
    have e1 : ∀ s m, opS false s m = false := fun _ _ => rfl
    have e2 : ∀ m, opL false m = [] := fun _ => rfl
    have e3 : ∀ m, opC false m = 1 := fun _ => rfl
    rw [e1, e2, e3]
    clear e1 e2 e3
    have hokA := fun W h => bigOk_any p (.slice a xs.length cap) xs W h
    rw [hoA] at hokA
    clear hoA hx' hy'
    go_enter Try.func10, Try.ntmps10
    go_wp2_with fail
    refine (hokA _ rx).mono ?_
    rintro e w1 ⟨rfl, hB⟩
    replace hW := hW.trans (hB.mono hW.size)
    replace bA := bA.keep hB
    replace bB := bB.keep hB
    replace fA := fA.keep hB
    replace fB := fB.keep hB
    replace rx := rx.keep hB
    replace ry := ry.keep hB
    replace bR := bR.keep hB
    replace fR := fR.keep hB
    clear hB
    obtain ⟨-, k0, k1⟩ := id bA
    obtain ⟨-, k2, k3⟩ := id bB
    obtain ⟨hzr, r0, r1⟩ := id bR
    obtain ⟨-, hfr⟩ := id fR
    go_wp2
    refine bodyPost_ret (v := .tuple #[.agg #[.bool false, .slice none 0 0], .int .i64 1]) (by simp [results, Try.results10, go_sem, r0, r1, hzr]) rfl ⟨none, 0, rfl, Own.nil _ _, ?_⟩
    exact (hW.setCell (by show w.heap.size ≤ w.heap.size + 1 + 1; omega) _).setCell (by show w.heap.size ≤ w.heap.size + 1 + 1; omega) _
  | true =>
    cases hoB : okB q ys with
    | false =>
      rw [Bool.and_false]
      have e1 : ∀ s m, opS false s m = false := fun _ _ => rfl
      have e2 : ∀ m, opL false m = [] := fun _ => rfl
      have e3 : ∀ m, opC false m = 1 := fun _ => rfl
      rw [e1, e2, e3]
      clear e1 e2 e3
      have hokA := fun W h => bigOk_any p (.slice a xs.length cap) xs W h
      rw [hoA] at hokA
      have hokB := fun W h => bigOk_any q (.slice a' ys.length cap') ys W h
      rw [hoB] at hokB
      clear hoA hoB hx' hy'
      go_enter Try.func10, Try.ntmps10
      go_wp2_with fail
      refine (hokA _ rx).mono ?_
      rintro e w1 ⟨rfl, hB⟩
      replace hW := hW.trans (hB.mono hW.size)
      replace bA := bA.keep hB
      replace bB := bB.keep hB
      replace fA := fA.keep hB
      replace fB := fB.keep hB
      replace rx := rx.keep hB
      replace ry := ry.keep hB
      replace bR := bR.keep hB
      replace fR := fR.keep hB
      clear hB
      obtain ⟨-, k0, k1⟩ := id bA
      obtain ⟨-, k2, k3⟩ := id bB
      obtain ⟨hzr, r0, r1⟩ := id bR
      obtain ⟨-, hfr⟩ := id fR
      go_wp2_with fail
      refine (hokB _ ry).mono ?_
      rintro e w2 ⟨rfl, hB⟩
      clear k0 k1 k2 k3 r0 r1 hzr hfr
      replace hW := hW.trans (hB.mono hW.size)
      replace bA := bA.keep hB
      replace bB := bB.keep hB
      replace fA := fA.keep hB
      replace fB := fB.keep hB
      replace rx := rx.keep hB
      replace ry := ry.keep hB
      replace bR := bR.keep hB
      replace fR := fR.keep hB
      clear hB
      obtain ⟨-, k0, k1⟩ := id bA
      obtain ⟨-, k2, k3⟩ := id bB
      obtain ⟨hzr, r0, r1⟩ := id bR
      obtain ⟨-, hfr⟩ := id fR
      go_wp2
      refine bodyPost_ret (v := .tuple #[.agg #[.bool false, .slice none 0 0], .int .i64 1]) (by simp [results, Try.results10, go_sem, r0, r1, hzr]) rfl ⟨none, 0, rfl, Own.nil _ _, ?_⟩
      exact (hW.setCell (by show w.heap.size ≤ w.heap.size + 1 + 1; omega) _).setCell (by show w.heap.size ≤ w.heap.size + 1 + 1; omega) _
    | true =>
      rw [Bool.and_true]
      have e1 : ∀ s m, opS true s m = fitS s m := fun _ _ => rfl
      have e2 : ∀ m, opL true m = fitL m := fun _ => rfl
      have e3 : ∀ m, opC true m = fitC m := fun _ => rfl
      rw [e1, e2, e3]
      clear e1 e2 e3
      have hnA := okB_norm hoA
      have hnB := okB_norm hoB
      have hokA := fun W h => bigOk_any p (.slice a xs.length cap) xs W h
      rw [hoA] at hokA
      have hokB := fun W h => bigOk_any q (.slice a' ys.length cap') ys W h
      rw [hoB] at hokB
      clear hoA hoB hx' hy'
      have hM := fun W h1 h2 => times_any (.slice a xs.length cap) (.slice a' ys.length cap') xs ys W h1 h2 (by omega) (by omega)
      have hG := fun B n c a W z h e b => signed_any (p != q) B n c a z (val xs * val ys) W h e b
      generalize fitS (p != q) (val xs * val ys) = s at hG ⊢
      generalize fitL (val xs * val ys) = L at hG ⊢
      generalize fitC (val xs * val ys) = C at hG ⊢
      have HVL : Hid (val (lim (val xs * val ys)) = (val xs * val ys)) := val_lim _
      generalize lim (val xs * val ys) = L1 at hM HVL
      clear hnA hnB
      go_enter Try.func10, Try.ntmps10
      go_wp2_with fail
      refine (hokA _ rx).mono ?_
      rintro e w1 ⟨rfl, hB⟩
      replace hW := hW.trans (hB.mono hW.size)
      replace bA := bA.keep hB
      replace bB := bB.keep hB
      replace fA := fA.keep hB
      replace fB := fB.keep hB
      replace rx := rx.keep hB
      replace ry := ry.keep hB
      replace bR := bR.keep hB
      replace fR := fR.keep hB
      clear hB
      obtain ⟨-, k0, k1⟩ := id bA
      obtain ⟨-, k2, k3⟩ := id bB
      obtain ⟨hzr, r0, r1⟩ := id bR
      obtain ⟨-, hfr⟩ := id fR
      go_wp2_with fail
      refine (hokB _ ry).mono ?_
      rintro e w2 ⟨rfl, hB⟩
      clear k0 k1 k2 k3 r0 r1 hzr hfr
      replace hW := hW.trans (hB.mono hW.size)
      replace bA := bA.keep hB
      replace bB := bB.keep hB
      replace fA := fA.keep hB
      replace fB := fB.keep hB
      replace rx := rx.keep hB
      replace ry := ry.keep hB
      replace bR := bR.keep hB
      replace fR := fR.keep hB
      clear hB
      obtain ⟨-, k0, k1⟩ := id bA
      obtain ⟨-, k2, k3⟩ := id bB
      obtain ⟨hzr, r0, r1⟩ := id bR
      obtain ⟨-, hfr⟩ := id fR
      clear hokA hokB
      have hM := hM w2.drew rx.drew ry.drew
      go_wp2_with fail
      go_region_held3 (fun W => W.cell? ⟨w.heap.size, 0, none⟩ = some (.bool p) ∧ W.cell? ⟨w.heap.size, 1, none⟩ = some (.slice a xs.length cap) ∧ W.cell? ⟨w.heap.size + 1, 0, none⟩ = some (.bool q) ∧ W.cell? ⟨w.heap.size + 1, 1, none⟩ = some (.slice a' ys.length cap')) (go_keep) (first | (go_at_call 32; refine hM.mono ?_; rintro e w3 ⟨a3, c3, rfl, hO3, hB3⟩; have hW3 := hW.drew.trans (hB3.mono hW.size); have bA3 := bA.drew.keep hB3; have bB3 := bB.drew.keep hB3; have bR3 := bR.drew.keep hB3; have fR3 := fR.drew.keep hB3; obtain ⟨-, x0, x1⟩ := id bA3; obtain ⟨-, y0, y1⟩ := id bB3) | (go_at_call 31; refine (hG _ _ _ _ _ _ hO3 HVL.out hB3.size).mono ?_; rintro e w5 ⟨a5, c5, rfl, hO5, hB5⟩; have hW5 := hW3.trans (hB5.mono hW3.size); obtain ⟨-, x4, x5⟩ := bA3.keep hB5; obtain ⟨-, y4, y5⟩ := bB3.keep hB5; obtain ⟨hzs, s0, s1'⟩ := bR3.keep hB5; obtain ⟨-, hfs⟩ := fR3.keep hB5; have hlo := fR.drew.1))
      go_wp2
      refine bodyPost_ret (v := .tuple #[.agg #[.bool s, .slice a5 L.length c5], .int .i64 C]) (by simp [results, Try.results10, go_sem, s0, s1', hzs]) rfl ⟨a5, c5, rfl, ?_, ?_⟩
      · exact ((hO5.setBelow (by show w.heap.size + 1 + 1 < _; exact hlo) _).setBelow (by show w.heap.size + 1 + 1 < _; exact hlo) _).mono (Nat.le_trans (by omega) (Nat.le_of_lt hlo))
      · exact (hW5.setCell (by show w.heap.size ≤ w.heap.size + 1 + 1; omega) _).setCell (by show w.heap.size ≤ w.heap.size + 1 + 1; omega) _
end Go.Proofs.Ythgpacajeaphhaa
