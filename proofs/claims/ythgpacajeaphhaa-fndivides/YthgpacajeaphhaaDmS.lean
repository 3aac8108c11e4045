import Derived.Test.YthgpacajeaphhaaDmR
import Derived.Test.YthgpacajeaphhaaFloorA
import Derived.Deep.RegionHeld3
import Derived.Deep.CutRange
namespace Go.Proofs.Ythgpacajeaphhaa
open Go.RowKit
set_option linter.unusedVariables false
set_option linter.unusedSimpArgs false

theorem flQ_le2 (p q : Bool) {X Y : Nat} (hY : 0 < Y) : flQ p X q Y ≤ X := by
  unfold flQ
  split
  · rename_i h
    have h1 := Nat.div_add_mod X Y
    have h2 : 0 < X % Y := Nat.pos_of_ne_zero h.2
    have h3 : Y ≠ 1 := fun e => h.2 (by rw [e, Nat.mod_one])
    have h4 : 1 * (X / Y) ≤ Y * (X / Y) := Nat.mul_le_mul_right _ hY
    rw [Nat.one_mul] at h4
    omega
  · exact Nat.div_le_self _ _
theorem flR_lt (p q : Bool) {X Y : Nat} (hY : 0 < Y) : flR p X q Y < Y := by
  have := Nat.mod_lt X hY
  unfold flR
  split
  · rename_i h
    have h2 : 0 < X % Y := Nat.pos_of_ne_zero h.2
    omega
  · exact this

set_option maxHeartbeats 4000000 in
set_option maxRecDepth 100000 in
theorem dm_spec (p q : Bool) (v u : Value) (xs ys : List Int) (w : World) (hx : Rd w v xs) (hy : Rd w u ys) (hoA : okB p xs = true) (hoB : okB q ys = true) (h0 : ¬ ys.length = 0) :
    Calls Try.prog 18 #[.agg #[.bool p, v], .agg #[.bool q, u]] w fun e w' => ∃ a c a' c', e = .returned (.tuple #[.agg #[.bool (nz (p != q) (flQ p (val xs) q (val ys))), .slice a (lim (flQ p (val xs) q (val ys))).length c], .agg #[.bool (nz q (flR p (val xs) q (val ys))), .slice a' (lim (flR p (val xs) q (val ys))).length c'], .int .i64 0]) ∧ Own w' w.heap.size (.slice a (lim (flQ p (val xs) q (val ys))).length c) (lim (flQ p (val xs) q (val ys))) ∧ Own w' w.heap.size (.slice a' (lim (flR p (val xs) q (val ys))).length c') (lim (flR p (val xs) q (val ys))) ∧ Below w.heap.size w w' := by
  have hx' := hx
  have hy' := hy
  obtain ⟨a, cap, rfl, _, hzx, hnx, hcx⟩ := hx
  obtain ⟨a', cap', rfl, _, hzy, hny, hcy⟩ := hy
  clear hcx hcy hnx hny
  have bA := (((Box.new w (.bool p) (.slice a xs.length cap) 26).alloc (Obj.cells #[.bool q, .slice a' ys.length cap'] 26)).alloc (Obj.cells #[.bool false, .slice none 0 0] 26)).alloc (Obj.cells #[.bool false, .slice none 0 0] 26)
  have bB := ((Box.new (w.alloc (Obj.cells #[.bool p, .slice a xs.length cap] 26)) (.bool q) (.slice a' ys.length cap') 26).alloc (Obj.cells #[.bool false, .slice none 0 0] 26)).alloc (Obj.cells #[.bool false, .slice none 0 0] 26)
  have rx := (((hx'.alloc (Obj.cells #[.bool p, .slice a xs.length cap] 26)).alloc (Obj.cells #[.bool q, .slice a' ys.length cap'] 26)).alloc (Obj.cells #[.bool false, .slice none 0 0] 26)).alloc (Obj.cells #[.bool false, .slice none 0 0] 26)
  have ry := (((hy'.alloc (Obj.cells #[.bool p, .slice a xs.length cap] 26)).alloc (Obj.cells #[.bool q, .slice a' ys.length cap'] 26)).alloc (Obj.cells #[.bool false, .slice none 0 0] 26)).alloc (Obj.cells #[.bool false, .slice none 0 0] 26)
  have hW := ((((Below.refl w.heap.size w).alloc (Nat.le_refl _) (Obj.cells #[.bool p, .slice a xs.length cap] 26)).alloc (by simp) (Obj.cells #[.bool q, .slice a' ys.length cap'] 26)).alloc (by simp; omega) (Obj.cells #[.bool false, .slice none 0 0] 26)).alloc (by simp; omega) (Obj.cells #[.bool false, .slice none 0 0] 26)
  have bR := (Box.new ((w.alloc (Obj.cells #[.bool p, .slice a xs.length cap] 26)).alloc (Obj.cells #[.bool q, .slice a' ys.length cap'] 26)) (.bool false) (.slice none 0 0) 26).alloc (Obj.cells #[.bool false, .slice none 0 0] 26)
  have fR := (Unf.new ((w.alloc (Obj.cells #[.bool p, .slice a xs.length cap] 26)).alloc (Obj.cells #[.bool q, .slice a' ys.length cap'] 26)) #[.bool false, .slice none 0 0] 26).keep ((Below.refl _ _).alloc (Nat.le_refl _) (Obj.cells #[.bool false, .slice none 0 0] 26))
  have bT := Box.new (((w.alloc (Obj.cells #[.bool p, .slice a xs.length cap] 26)).alloc (Obj.cells #[.bool q, .slice a' ys.length cap'] 26)).alloc (Obj.cells #[.bool false, .slice none 0 0] 26)) (.bool false) (.slice none 0 0) 26
  have fT := Unf.new (((w.alloc (Obj.cells #[.bool p, .slice a xs.length cap] 26)).alloc (Obj.cells #[.bool q, .slice a' ys.length cap'] 26)).alloc (Obj.cells #[.bool false, .slice none 0 0] 26)) #[.bool false, .slice none 0 0] 26
  simp only [World.size_alloc] at bB bR fR bT fT
  clear hx' hy'
  have hokA := fun W h => bigOkS_any p (.slice a xs.length cap) xs W h
  rw [hoA] at hokA
  have hokB := fun W h => bigOkS_any q (.slice a' ys.length cap') ys W h
  rw [hoB] at hokB
  have hnA := okB_norm hoA
  have hnB := okB_norm hoB
  have hYp : 0 < val ys := by have := le_val hzy hnB.1 (by omega); have h1 : 0 < 4294967296 ^ (ys.length - 1) := Nat.pow_pos (by decide); omega
  have e0 : ((ys.length : Int) == 0) = false := beq_len0 h0
  have hQl : (lim (flQ p (val xs) q (val ys))).length ≤ 128 := Nat.le_trans (lim_length_le (Nat.lt_of_le_of_lt (flQ_le2 p q hYp) (val_lt hzx))) hnA.2
  have hRl : (lim (flR p (val xs) q (val ys))).length ≤ 128 := Nat.le_trans (lim_length_le (Nat.lt_of_lt_of_le (flR_lt p q hYp) (Nat.le_of_lt (val_lt hzy)))) hnB.2
  have hFl := fun W h1 h2 => l1Floor_any p q (.slice a xs.length cap) (.slice a' ys.length cap') xs ys W h1 h2 hnA.1 hnB.1 (by omega) (by omega) hYp
  generalize nz (p != q) (flQ p (val xs) q (val ys)) = S1 at hFl ⊢
  generalize nz q (flR p (val xs) q (val ys)) = S2 at hFl ⊢
  generalize lim (flQ p (val xs) q (val ys)) = L1 at hFl hQl ⊢
  generalize lim (flR p (val xs) q (val ys)) = L2 at hFl hRl ⊢
  have hQl' : ¬ (128 : Int) < (L1.length : Int) := by omega
  clear hoA hoB hnA hnB hYp hzx hzy
  have d1 : ¬ (w.heap.size + 1 + 1 = w.heap.size + 1 + 1 + 1) := by omega
  have d2 : ¬ (w.heap.size + 1 + 1 + 1 = w.heap.size + 1 + 1) := by omega
  go_enter Try.func18, Try.ntmps18
  go_wp2_with fail
  refine (hokA _ rx).mono ?_
  rintro e w1 ⟨rfl, hB⟩
  clear hokA
  replace hW := hW.trans (hB.mono hW.size)
  replace bA := bA.keep hB
  replace bB := bB.keep hB
  replace rx := rx.keep hB
  replace ry := ry.keep hB
  replace bR := bR.keep hB
  replace fR := fR.keep hB
  replace bT := bT.keep hB
  replace fT := fT.keep hB
  clear hB
  obtain ⟨-, k0, k1⟩ := id bA
  obtain ⟨-, k2, k3⟩ := id bB
  obtain ⟨hzr, r0, r1⟩ := id bR
  obtain ⟨-, hfr⟩ := id fR
  obtain ⟨hzt, t0, t1⟩ := id bT
  obtain ⟨-, hft⟩ := id fT
  go_wp2_with fail
  refine (hokB _ ry).mono ?_
  rintro e w2 ⟨rfl, hB⟩
  clear hokB
  clear k0 k1 k2 k3 r0 r1 hzr hfr t0 t1 hzt hft
  replace hW := hW.trans (hB.mono hW.size)
  replace bA := bA.keep hB
  replace bB := bB.keep hB
  replace rx := rx.keep hB
  replace ry := ry.keep hB
  replace bR := bR.keep hB
  replace fR := fR.keep hB
  replace bT := bT.keep hB
  replace fT := fT.keep hB
  clear hB
  obtain ⟨-, k0, k1⟩ := id bA
  obtain ⟨-, k2, k3⟩ := id bB
  obtain ⟨hzr, r0, r1⟩ := id bR
  obtain ⟨-, hfr⟩ := id fR
  obtain ⟨hzt, t0, t1⟩ := id bT
  obtain ⟨-, hft⟩ := id fT
  go_wp2_with fail
  refine (hFl _ rx ry).mono ?_
  rintro e w3 ⟨a7, c7, a8, c8, rfl, o7, o8, hB⟩
  clear hFl
  have hw2 : w.heap.size + 1 + 1 + 1 < w2.heap.size := bT.1
  have hw23 := hB.size
  clear k0 k1 k2 k3 r0 r1 hzr hfr t0 t1 hzt hft
  replace hW := hW.trans (hB.mono hW.size)
  replace bA := bA.keep hB
  replace bB := bB.keep hB
  replace rx := rx.keep hB
  replace ry := ry.keep hB
  replace bR := bR.keep hB
  replace fR := fR.keep hB
  replace bT := bT.keep hB
  replace fT := fT.keep hB
  clear hB
  obtain ⟨-, k0, k1⟩ := id bA
  obtain ⟨-, k2, k3⟩ := id bB
  obtain ⟨hzr, r0, r1⟩ := id bR
  obtain ⟨-, hfr⟩ := id fR
  obtain ⟨hzt, t0, t1⟩ := id bT
  obtain ⟨-, hft⟩ := id fT
  have d3 : ¬ (w3.heap.size = w.heap.size + 1 + 1) := by omega
  have d4 : ¬ (w3.heap.size = w.heap.size + 1 + 1 + 1) := by omega
  have d5 : ¬ (w3.heap.size + 1 = w.heap.size + 1 + 1) := by omega
  have d6 : ¬ (w3.heap.size + 1 = w.heap.size + 1 + 1 + 1) := by omega
  have d3' : ¬ (w.heap.size + 1 + 1 = w3.heap.size) := by omega
  have d4' : ¬ (w.heap.size + 1 + 1 + 1 = w3.heap.size) := by omega
  have d5' : ¬ (w.heap.size + 1 + 1 = w3.heap.size + 1) := by omega
  have d6' : ¬ (w.heap.size + 1 + 1 + 1 = w3.heap.size + 1) := by omega
  have hbz : w.heap.size ≤ w2.heap.size := by omega
  go_upto_region 8 with fail
  have b7 := (Box.new w3 (.bool S1) (.slice a7 L1.length c7) 26).alloc (Obj.cells #[.bool S2, .slice a8 L2.length c8] 26)
  have b8 := Box.new (w3.alloc (Obj.cells #[.bool S1, .slice a7 L1.length c7] 26)) (.bool S2) (.slice a8 L2.length c8) 26
  simp only [World.size_alloc] at b8
  have hW8 := (hW.alloc hW.size (Obj.cells #[.bool S1, .slice a7 L1.length c7] 26)).alloc (by have := hW.size; simp; omega) (Obj.cells #[.bool S2, .slice a8 L2.length c8] 26)
  have bR8 := (bR.alloc (Obj.cells #[.bool S1, .slice a7 L1.length c7] 26)).alloc (Obj.cells #[.bool S2, .slice a8 L2.length c8] 26)
  have bT8 := (bT.alloc (Obj.cells #[.bool S1, .slice a7 L1.length c7] 26)).alloc (Obj.cells #[.bool S2, .slice a8 L2.length c8] 26)
  have fR8 := (fR.keep ((Below.refl _ _).alloc (Nat.le_refl _) (Obj.cells #[.bool S1, .slice a7 L1.length c7] 26))).keep ((Below.refl _ _).alloc (Nat.le_refl _) (Obj.cells #[.bool S2, .slice a8 L2.length c8] 26))
  have fT8 := (fT.keep ((Below.refl _ _).alloc (Nat.le_refl _) (Obj.cells #[.bool S1, .slice a7 L1.length c7] 26))).keep ((Below.refl _ _).alloc (Nat.le_refl _) (Obj.cells #[.bool S2, .slice a8 L2.length c8] 26))
  have o78 := (o7.alloc (Obj.cells #[.bool S1, .slice a7 L1.length c7] 26)).alloc (Obj.cells #[.bool S2, .slice a8 L2.length c8] 26)
  have o88 := (o8.alloc (Obj.cells #[.bool S1, .slice a7 L1.length c7] 26)).alloc (Obj.cells #[.bool S2, .slice a8 L2.length c8] 26)
  clear o7 o8 bR bT fR fT bA bB hW rx ry
  clear k0 k1 k2 k3 r0 r1 hzr hfr t0 t1 hzt hft
  generalize ((w3.alloc (Obj.cells #[.bool S1, .slice a7 L1.length c7] 26)).alloc (Obj.cells #[.bool S2, .slice a8 L2.length c8] 26)) = W8 at b7 b8 hW8 bR8 bT8 fR8 fT8 o78 o88 ⊢
  obtain ⟨-, x0, x1⟩ := id b7
  obtain ⟨-, y0, y1⟩ := id b8
  obtain ⟨hzr, r0, r1⟩ := id bR8
  obtain ⟨-, hfr⟩ := id fR8
  obtain ⟨hzt, t0, t1⟩ := id bT8
  obtain ⟨-, hft⟩ := id fT8
  have h4 : w.heap.size + 1 + 1 < w2.heap.size := by omega
  have h5 : w.heap.size + 1 + 1 + 1 < w2.heap.size := by omega
  have g4 : w.heap.size ≤ w.heap.size + 1 + 1 := by omega
  have g5 : w.heap.size ≤ w.heap.size + 1 + 1 + 1 := by omega
  go_region
  all_goals go_wp2
  all_goals refine bodyPost_ret (v := .tuple #[.agg #[.bool S1, .slice a7 L1.length c7], .agg #[.bool S2, .slice a8 L2.length c8], .int .i64 0]) (by simp [results, Try.results18, go_sem, *]) rfl ⟨a7, c7, a8, c8, rfl, ?_, ?_, ?_⟩
  all_goals first
    | exact (((((o78.setBelow h4 _).setBelow h4 _).setBelow h5 _).setBelow h5 _).drew).mono hbz
    | exact (((((o88.setBelow h4 _).setBelow h4 _).setBelow h5 _).setBelow h5 _).drew).mono hbz
    | exact ((((hW8.setCell g4 _).setCell g4 _).setCell g5 _).setCell g5 _).drew
    | exact (((((o78.setBelow h5 _).setBelow h5 _).setBelow h4 _).setBelow h4 _).drew).mono hbz
    | exact (((((o88.setBelow h5 _).setBelow h5 _).setBelow h4 _).setBelow h4 _).drew).mono hbz
    | exact ((((hW8.setCell g5 _).setCell g5 _).setCell g4 _).setCell g4 _).drew
end Go.Proofs.Ythgpacajeaphhaa
