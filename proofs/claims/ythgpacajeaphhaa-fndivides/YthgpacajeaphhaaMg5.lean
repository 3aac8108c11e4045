import Derived.Test.YthgpacajeaphhaaMg4
import Derived.Test.YthgpacajeaphhaaMg3
import Derived.Deep.RegionHeld3
import Derived.Deep.CutRange
namespace Go.Proofs.Ythgpacajeaphhaa
open Go.RowKit
set_option linter.unusedVariables false
set_option linter.unusedSimpArgs false

set_option maxHeartbeats 4000000 in
set_option maxRecDepth 100000 in
theorem dm_impl_adj (p q : Bool) (v u : Value) (xs ys : List Int) (w : World) (hx : Rd w v xs) (hy : Rd w u ys) (hoA : okB p xs = true) (hoB : okB q ys = true) (h0 : ¬ ys.length = 0) (hpq : p ≠ q) (hm : val xs % val ys ≠ 0) :
    Calls Try.prog 17 #[.agg #[.bool p, v], .agg #[.bool q, u]] w fun e w' => ∃ a c a' c', e = .returned (.tuple #[.agg #[.bool (nz (p != q) (flQ p (val xs) q (val ys))), .slice a (lim (flQ p (val xs) q (val ys))).length c], .agg #[.bool (nz q (flR p (val xs) q (val ys))), .slice a' (lim (flR p (val xs) q (val ys))).length c'], .int .i64 0]) ∧ Own w' w.heap.size (.slice a (lim (flQ p (val xs) q (val ys))).length c) (lim (flQ p (val xs) q (val ys))) ∧ Own w' w.heap.size (.slice a' (lim (flR p (val xs) q (val ys))).length c') (lim (flR p (val xs) q (val ys))) ∧ Apart (.slice a (lim (flQ p (val xs) q (val ys))).length c) (.slice a' (lim (flR p (val xs) q (val ys))).length c') ∧ Below w.heap.size w w' := by
  have hx' := hx
  have hy' := hy
  obtain ⟨a, cap, rfl, _, hzx, hnx, hcx⟩ := hx
  obtain ⟨a', cap', rfl, _, hzy, hny, hcy⟩ := hy
  clear hcx hcy hnx hny
  have bA := (((Box.new w (.bool p) (.slice a xs.length cap) 26).alloc (Obj.cells #[.bool q, .slice a' ys.length cap'] 26)).alloc (Obj.cells #[.bool false, .slice none 0 0] 26)).alloc (Obj.cells #[.bool false, .slice none 0 0] 26)
  have bB := ((Box.new (w.alloc (Obj.cells #[.bool p, .slice a xs.length cap] 26)) (.bool q) (.slice a' ys.length cap') 26).alloc (Obj.cells #[.bool false, .slice none 0 0] 26)).alloc (Obj.cells #[.bool false, .slice none 0 0] 26)
  have rx := (((hx'.alloc (Obj.cells #[.bool p, .slice a xs.length cap] 26)).alloc (Obj.cells #[.bool q, .slice a' ys.length cap'] 26)).alloc (Obj.cells #[.bool false, .slice none 0 0] 26)).alloc (Obj.cells #[.bool false, .slice none 0 0] 26)
  have ry := (((hy'.alloc (Obj.cells #[.bool p, .slice a xs.length cap] 26)).alloc (Obj.cells #[.bool q, .slice a' ys.length cap'] 26)).alloc (Obj.cells #[.bool false, .slice none 0 0] 26)).alloc (Obj.cells #[.bool false, .slice none 0 0] 26)
  have hW := ((((Below.refl w.heap.size w).alloc (Nat.le_refl _) (Obj.cells #[.bool p, .slice a xs.length cap] 26)).alloc (by simp) (Obj.cells #[.bool q, .slice a' ys.length cap'] 26)).alloc (by simp; omega) (Obj.cells #[.bool false, .slice none 0 0] 26)).alloc (by simp; omega) (Obj.cells #[.bool false, .slice none 0 0] 26)
  have bR := (Box.new ((w.alloc (Obj.cells #[.bool p, .slice a xs.length cap] 26)).alloc (Obj.cells #[.bool q, .slice a' ys.length cap'] 26)) (.bool false) (.slice none 0 0) 26).alloc (Obj.cells #[.bool false, .slice none 0 0] 26)
  have fR := (Unf.new ((w.alloc (Obj.cells #[.bool p, .slice a xs.length cap] 26)).alloc (Obj.cells #[.bool q, .slice a' ys.length cap'] 26)) #[.bool false, .slice none 0 0] 26).keep ((Below.refl _ _).alloc (Nat.le_refl _) (Obj.cells #[.bool false, .slice none 0 0] 26))
  have bT := Box.new (((w.alloc (Obj.cells #[.bool p, .slice a xs.length cap] 26)).alloc (Obj.cells #[.bool q, .slice a' ys.length cap'] 26)).alloc (Obj.cells #[.bool false, .slice none 0 0] 26)) (.bool false) (.slice none 0 0) 26
  have fT := Unf.new (((w.alloc (Obj.cells #[.bool p, .slice a xs.length cap] 26)).alloc (Obj.cells #[.bool q, .slice a' ys.length cap'] 26)).alloc (Obj.cells #[.bool false, .slice none 0 0] 26)) #[.bool false, .slice none 0 0] 26
  simp only [World.size_alloc] at bB bR fR bT fT
  clear hx' hy'
  have hokA := fun W h => bigOk_any p (.slice a xs.length cap) xs W h
  rw [hoA] at hokA
  have hokB := fun W h => bigOk_any q (.slice a' ys.length cap') ys W h
  rw [hoB] at hokB
  have hnA := okB_norm hoA
  have hnB := okB_norm hoB
  have hYp : 0 < val ys := by have := le_val hzy hnB.1 (by omega); have h1 : 0 < 4294967296 ^ (ys.length - 1) := Nat.pow_pos (by decide); omega
  have e0 : ((ys.length : Int) == 0) = false := beq_len0 h0
  have hQl : (lim (flQ p (val xs) q (val ys))).length ≤ 128 := Nat.le_trans (lim_length_le (Nat.lt_of_le_of_lt (flQ_le2 p q hYp) (val_lt hzx))) hnA.2
  have hRl : (lim (flR p (val xs) q (val ys))).length ≤ 128 := Nat.le_trans (lim_length_le (Nat.lt_of_lt_of_le (flR_lt p q hYp) (Nat.le_of_lt (val_lt hzy)))) hnB.2
  have hDv := fun W h1 h2 => dividedBy_any (.slice a xs.length cap) (.slice a' ys.length cap') xs ys W h1 h2 hnA.1 hnB.1 (by omega) (by omega) (by omega)
  have eQ : flQ p (val xs) q (val ys) = val xs / val ys + 1 := by unfold flQ; rw [if_pos ⟨hpq, hm⟩]
  have eR : flR p (val xs) q (val ys) = val ys - val xs % val ys := by unfold flR; rw [if_pos ⟨hpq, hm⟩]
  have hd1 : (lim (val xs / val ys)).length ≤ 1048576 := Nat.le_trans (lim_length_le (Nat.lt_of_le_of_lt (Nat.div_le_self _ _) (val_lt hzx))) (by omega)
  have hPl := fun W u1 u2 h1 h2 => plus_any u1 u2 (lim (val xs / val ys)) [1] W h1 h2 hd1 (by simp)
  rw [val_lim, show val [1] = 1 from by simp [val], ← eQ] at hPl
  have hml := Nat.mod_lt (val xs) hYp
  have hrl : (lim (val xs % val ys)).length ≤ ys.length := lim_length_le (Nat.lt_of_lt_of_le hml (Nat.le_of_lt (val_lt hzy)))
  have hMi := fun W u2 h1 h2 => minus_any (.slice a' ys.length cap') u2 ys (lim (val xs % val ys)) W h1 h2 (by omega) hrl (by rw [val_lim]; omega)
  rw [val_lim, ← eR] at hMi
  have hlp : 0 < (lim (val xs % val ys)).length := by
    rcases Nat.eq_zero_or_pos (lim (val xs % val ys)).length with h | h
    · exact absurd (lim_eq_nil.mp (List.eq_nil_of_length_eq_zero h)) hm
    · exact h
  have hS1 := fun W (B n' c' : Nat) a' h hb => signed_gen (p != q) B n' c' a' (lim (flQ p (val xs) q (val ys))) (flQ p (val xs) q (val ys)) W h (val_lim _) hb
  have hS2 := fun W (B n' c' : Nat) a' h hb => signed_any q B n' c' a' (lim (flR p (val xs) q (val ys))) (flR p (val xs) q (val ys)) W h (val_lim _) hb
  have hf1 := fit_yes hQl (p != q)
  have hf2 := fit_yes hRl q
  rw [hf1.1, hf1.2.1, hf1.2.2] at hS1
  rw [hf2.1, hf2.2.1, hf2.2.2] at hS2
  generalize nz (p != q) (flQ p (val xs) q (val ys)) = S1 at hS1 ⊢
  generalize nz q (flR p (val xs) q (val ys)) = S2 at hS2 ⊢
  clear hf1 hf2 hQl hRl eQ eR
  generalize lim (flQ p (val xs) q (val ys)) = L1 at hS1 hPl ⊢
  generalize lim (flR p (val xs) q (val ys)) = L2 at hS2 hMi ⊢
  generalize lim (val xs / val ys) = LQ at hDv hPl hd1
  generalize lim (val xs % val ys) = LR at hDv hMi hrl hlp
  have hlp' : (0 : Int) < (LR.length : Int) := by omega
  have hpq' : (p != q) = true := by simpa using hpq
  generalize hX : (p != q) = sx at hS1 hpq'
  subst hpq'
  have hpb : (p == q) = false := by simpa using hpq
  clear hoA hoB hnA hnB hYp hzx hzy hml hm
  have d1 : ¬ (w.heap.size + 1 + 1 = w.heap.size + 1 + 1 + 1) := by omega
  have d2 : ¬ (w.heap.size + 1 + 1 + 1 = w.heap.size + 1 + 1) := by omega
  go_enter Try.func17, Try.ntmps17
  go_wp2_with fail
  refine (hokA _ rx).mono ?_
  rintro e w1 ⟨rfl, hB⟩
  clear hokA
  replace hW := hW.trans (hB.mono hW.size)
  replace bA := bA.keep hB
  replace bB := bB.keep hB
  replace rx := rx.keep hB
  replace ry := ry.keep hB
  replace bR := bR.keep hB
  replace fR := fR.keep hB
  replace bT := bT.keep hB
  replace fT := fT.keep hB
  clear hB
  obtain ⟨-, k0, k1⟩ := id bA
  obtain ⟨-, k2, k3⟩ := id bB
  obtain ⟨hzr, r0, r1⟩ := id bR
  obtain ⟨-, hfr⟩ := id fR
  obtain ⟨hzt, t0, t1⟩ := id bT
  obtain ⟨-, hft⟩ := id fT
  go_wp2_with fail
  refine (hokB _ ry).mono ?_
  rintro e w2 ⟨rfl, hB⟩
  clear hokB
  clear k0 k1 k2 k3 r0 r1 hzr hfr t0 t1 hzt hft
  replace hW := hW.trans (hB.mono hW.size)
  replace bA := bA.keep hB
  replace bB := bB.keep hB
  replace rx := rx.keep hB
  replace ry := ry.keep hB
  replace bR := bR.keep hB
  replace fR := fR.keep hB
  replace bT := bT.keep hB
  replace fT := fT.keep hB
  clear hB
  obtain ⟨-, k0, k1⟩ := id bA
  obtain ⟨-, k2, k3⟩ := id bB
  obtain ⟨hzr, r0, r1⟩ := id bR
  obtain ⟨-, hfr⟩ := id fR
  obtain ⟨hzt, t0, t1⟩ := id bT
  obtain ⟨-, hft⟩ := id fT
  go_wp2_with fail
  refine (hDv _ rx ry).mono ?_
  rintro e w3 ⟨a3, c3, a4, c4, rfl, oq, ⟨wm, om, orr, hm1, hm2⟩, hB⟩
  clear hDv
  have hw2 : w.heap.size + 1 + 1 + 1 < w2.heap.size := bT.1
  have hw23 := hB.size
  clear k0 k1 k2 k3 r0 r1 hzr hfr t0 t1 hzt hft
  replace hW := hW.trans (hB.mono hW.size)
  replace bA := bA.keep hB
  replace bB := bB.keep hB
  replace rx := rx.keep hB
  replace ry := ry.keep hB
  replace bR := bR.keep hB
  replace fR := fR.keep hB
  replace bT := bT.keep hB
  replace fT := fT.keep hB
  clear hB
  obtain ⟨-, k0, k1⟩ := id bA
  obtain ⟨-, k2, k3⟩ := id bB
  obtain ⟨hzr, r0, r1⟩ := id bR
  obtain ⟨-, hfr⟩ := id fR
  obtain ⟨hzt, t0, t1⟩ := id bT
  obtain ⟨-, hft⟩ := id fT
  go_wp2_with fail
  refine (hPl _ _ _ (oq.rd.alloc _) (Rd.one w3 w3.heap.size rfl 49 (by decide) (by decide))).mono ?_
  rintro e w4 ⟨a5, c5, rfl, oq2, hB'⟩
  have hB := below_of_alloc hB'
  have orr2 := orr.keep hB
  have oq3 : Own w4 w2.heap.size _ _ := oq2.mono (by simp; omega)
  have hw34 := hB.size
  clear hPl hB' oq orr oq2 om hm1 hm2
  clear k0 k1 k2 k3 r0 r1 hzr hfr t0 t1 hzt hft
  replace hW := hW.trans (hB.mono hW.size)
  replace bA := bA.keep hB
  replace bB := bB.keep hB
  replace rx := rx.keep hB
  replace ry := ry.keep hB
  replace bR := bR.keep hB
  replace fR := fR.keep hB
  replace bT := bT.keep hB
  replace fT := fT.keep hB
  clear hB
  obtain ⟨-, k0, k1⟩ := id bA
  obtain ⟨-, k2, k3⟩ := id bB
  obtain ⟨hzr, r0, r1⟩ := id bR
  obtain ⟨-, hfr⟩ := id fR
  obtain ⟨hzt, t0, t1⟩ := id bT
  obtain ⟨-, hft⟩ := id fT
  go_wp2_with fail
  refine (hMi _ _ ry orr2.rd).mono ?_
  rintro e w5 ⟨a6, c6, rfl, or3, hB⟩
  have oq4 := oq3.keep hB
  have or4 := or3
  have om4 := oq3
  have hm4 : w2.heap.size ≤ w4.heap.size := by omega
  have hw45 := hB.size
  clear hMi oq3 orr2 or3
  clear k0 k1 k2 k3 r0 r1 hzr hfr t0 t1 hzt hft
  replace hW := hW.trans (hB.mono hW.size)
  replace bA := bA.keep hB
  replace bB := bB.keep hB
  replace rx := rx.keep hB
  replace ry := ry.keep hB
  replace bR := bR.keep hB
  replace fR := fR.keep hB
  replace bT := bT.keep hB
  replace fT := fT.keep hB
  clear hB
  obtain ⟨-, k0, k1⟩ := id bA
  obtain ⟨-, k2, k3⟩ := id bB
  obtain ⟨hzr, r0, r1⟩ := id bR
  obtain ⟨-, hfr⟩ := id fR
  obtain ⟨hzt, t0, t1⟩ := id bT
  obtain ⟨-, hft⟩ := id fT
  go_wp2_with fail
  refine (hS1 _ _ _ _ _ oq4 (by omega)).mono ?_
  rintro e w6 ⟨a7, c7, rfl, g7, hB⟩
  have o7 := (g7 _ _ oq4).keep hB
  have m7 := (g7 _ _ om4).lt
  clear g7 om4
  have orz := or4.keep hB
  have hw56 := hB.size
  clear hS1 oq4 or4
  clear k0 k1 k2 k3 r0 r1 hzr hfr t0 t1 hzt hft
  replace hW := hW.trans (hB.mono hW.size)
  replace bA := bA.keep hB
  replace bB := bB.keep hB
  replace rx := rx.keep hB
  replace ry := ry.keep hB
  replace bR := bR.keep hB
  replace fR := fR.keep hB
  replace bT := bT.keep hB
  replace fT := fT.keep hB
  clear hB
  have b7 := Box.new w6 (.bool S1) (.slice a7 L1.length c7) 26
  replace hW := hW.alloc hW.size (Obj.cells #[.bool S1, .slice a7 L1.length c7] 26)
  replace bA := bA.alloc (Obj.cells #[.bool S1, .slice a7 L1.length c7] 26)
  replace bB := bB.alloc (Obj.cells #[.bool S1, .slice a7 L1.length c7] 26)
  replace bR := bR.alloc (Obj.cells #[.bool S1, .slice a7 L1.length c7] 26)
  replace bT := bT.alloc (Obj.cells #[.bool S1, .slice a7 L1.length c7] 26)
  replace fR := fR.keep ((Below.refl _ _).alloc (Nat.le_refl _) (Obj.cells #[.bool S1, .slice a7 L1.length c7] 26))
  replace fT := fT.keep ((Below.refl _ _).alloc (Nat.le_refl _) (Obj.cells #[.bool S1, .slice a7 L1.length c7] 26))
  replace rx := rx.alloc (Obj.cells #[.bool S1, .slice a7 L1.length c7] 26)
  replace ry := ry.alloc (Obj.cells #[.bool S1, .slice a7 L1.length c7] 26)
  replace orz := orz.alloc (Obj.cells #[.bool S1, .slice a7 L1.length c7] 26)
  replace o7 := o7.alloc (Obj.cells #[.bool S1, .slice a7 L1.length c7] 26)
  obtain ⟨-, k0, k1⟩ := id bA
  obtain ⟨-, k2, k3⟩ := id bB
  obtain ⟨hzr, r0, r1⟩ := id bR
  obtain ⟨-, hfr⟩ := id fR
  obtain ⟨hzt, t0, t1⟩ := id bT
  obtain ⟨-, hft⟩ := id fT
  go_wp2_with fail
  refine (hS2 _ _ _ _ _ orz (by simp; omega)).mono ?_
  rintro e w7 ⟨a8, c8, rfl, o8, hB⟩
  have hAp := Apart.of m7 o8.lt (Nat.le_refl _)
  clear m7
  have hw67 := hB.size
  simp only [World.size_alloc] at hw67
  replace b7 := b7.keep hB
  replace o7 := o7.keep hB
  clear hS2 orz
  clear k0 k1 k2 k3 r0 r1 hzr hfr t0 t1 hzt hft
  replace hW := hW.trans (hB.mono hW.size)
  replace bA := bA.keep hB
  replace bB := bB.keep hB
  replace rx := rx.keep hB
  replace ry := ry.keep hB
  replace bR := bR.keep hB
  replace fR := fR.keep hB
  replace bT := bT.keep hB
  replace fT := fT.keep hB
  clear hB
  obtain ⟨-, k0, k1⟩ := id bA
  obtain ⟨-, k2, k3⟩ := id bB
  obtain ⟨hzr, r0, r1⟩ := id bR
  obtain ⟨-, hfr⟩ := id fR
  obtain ⟨hzt, t0, t1⟩ := id bT
  obtain ⟨-, hft⟩ := id fT
  obtain ⟨-, x0, x1⟩ := id b7
  have d3 : ¬ (w7.heap.size = w.heap.size + 1 + 1) := by omega
  have d4 : ¬ (w7.heap.size = w.heap.size + 1 + 1 + 1) := by omega
  have d5 : ¬ (w6.heap.size = w.heap.size + 1 + 1) := by omega
  have d6 : ¬ (w6.heap.size = w.heap.size + 1 + 1 + 1) := by omega
  have d3' : ¬ (w.heap.size + 1 + 1 = w7.heap.size) := by omega
  have d4' : ¬ (w.heap.size + 1 + 1 + 1 = w7.heap.size) := by omega
  have d5' : ¬ (w.heap.size + 1 + 1 = w6.heap.size) := by omega
  have d6' : ¬ (w.heap.size + 1 + 1 + 1 = w6.heap.size) := by omega
  have hbz : w.heap.size ≤ w2.heap.size := by omega
  go_upto_region 11 with fail
  clear x0 x1
  replace b7 := b7.alloc (Obj.cells #[.bool S2, .slice a8 L2.length c8] 26)
  have b8 := Box.new w7 (.bool S2) (.slice a8 L2.length c8) 26
  have hW8 := hW.alloc hW.size (Obj.cells #[.bool S2, .slice a8 L2.length c8] 26)
  have bR8 := bR.alloc (Obj.cells #[.bool S2, .slice a8 L2.length c8] 26)
  have bT8 := bT.alloc (Obj.cells #[.bool S2, .slice a8 L2.length c8] 26)
  have fR8 := fR.keep ((Below.refl _ _).alloc (Nat.le_refl _) (Obj.cells #[.bool S2, .slice a8 L2.length c8] 26))
  have fT8 := fT.keep ((Below.refl _ _).alloc (Nat.le_refl _) (Obj.cells #[.bool S2, .slice a8 L2.length c8] 26))
  have o78 := o7.alloc (Obj.cells #[.bool S2, .slice a8 L2.length c8] 26)
  have o88 := (o8.mono hm4).alloc (Obj.cells #[.bool S2, .slice a8 L2.length c8] 26)
  clear o7 o8 bR bT fR fT bA bB hW rx ry
  clear k0 k1 k2 k3 r0 r1 hzr hfr t0 t1 hzt hft
  generalize (w7.alloc (Obj.cells #[.bool S2, .slice a8 L2.length c8] 26)) = W8 at b7 b8 hW8 bR8 bT8 fR8 fT8 o78 o88 ⊢
  obtain ⟨-, x0, x1⟩ := id b7
  obtain ⟨-, y0, y1⟩ := id b8
  obtain ⟨hzr, r0, r1⟩ := id bR8
  obtain ⟨-, hfr⟩ := id fR8
  obtain ⟨hzt, t0, t1⟩ := id bT8
  obtain ⟨-, hft⟩ := id fT8
  have h4 : w.heap.size + 1 + 1 < w2.heap.size := by omega
  have h5 : w.heap.size + 1 + 1 + 1 < w2.heap.size := by omega
  have g4 : w.heap.size ≤ w.heap.size + 1 + 1 := by omega
  have g5 : w.heap.size ≤ w.heap.size + 1 + 1 + 1 := by omega
  go_region
  all_goals go_wp2
  all_goals refine bodyPost_ret (v := .tuple #[.agg #[.bool S1, .slice a7 L1.length c7], .agg #[.bool S2, .slice a8 L2.length c8], .int .i64 0]) (by simp [results, Try.results17, go_sem, *]) rfl ⟨a7, c7, a8, c8, rfl, ?_, ?_, hAp, ?_⟩
  all_goals first
    | exact (((((o78.setBelow h4 _).setBelow h4 _).setBelow h5 _).setBelow h5 _).drew).mono hbz
    | exact (((((o88.setBelow h4 _).setBelow h4 _).setBelow h5 _).setBelow h5 _).drew).mono hbz
    | exact ((((hW8.setCell g4 _).setCell g4 _).setCell g5 _).setCell g5 _).drew
    | exact (((((o78.setBelow h5 _).setBelow h5 _).setBelow h4 _).setBelow h4 _).drew).mono hbz
    | exact (((((o88.setBelow h5 _).setBelow h5 _).setBelow h4 _).setBelow h4 _).drew).mono hbz
    | exact ((((hW8.setCell g5 _).setCell g5 _).setCell g4 _).setCell g4 _).drew
end Go.Proofs.Ythgpacajeaphhaa

namespace Go.Proofs.Ythgpacajeaphhaa
open Go.RowKit
set_option linter.unusedVariables false
set_option linter.unusedSimpArgs false

set_option maxHeartbeats 4000000 in
set_option maxRecDepth 100000 in
theorem dm_impl_same (p q : Bool) (v u : Value) (xs ys : List Int) (w : World) (hx : Rd w v xs) (hy : Rd w u ys) (hoA : okB p xs = true) (hoB : okB q ys = true) (h0 : ¬ ys.length = 0) (hpq : p = q) :
    Calls Try.prog 17 #[.agg #[.bool p, v], .agg #[.bool q, u]] w fun e w' => ∃ a c a' c', e = .returned (.tuple #[.agg #[.bool (nz (p != q) (flQ p (val xs) q (val ys))), .slice a (lim (flQ p (val xs) q (val ys))).length c], .agg #[.bool (nz q (flR p (val xs) q (val ys))), .slice a' (lim (flR p (val xs) q (val ys))).length c'], .int .i64 0]) ∧ Own w' w.heap.size (.slice a (lim (flQ p (val xs) q (val ys))).length c) (lim (flQ p (val xs) q (val ys))) ∧ Own w' w.heap.size (.slice a' (lim (flR p (val xs) q (val ys))).length c') (lim (flR p (val xs) q (val ys))) ∧ Apart (.slice a (lim (flQ p (val xs) q (val ys))).length c) (.slice a' (lim (flR p (val xs) q (val ys))).length c') ∧ Below w.heap.size w w' := by
  have hx' := hx
  have hy' := hy
  obtain ⟨a, cap, rfl, _, hzx, hnx, hcx⟩ := hx
  obtain ⟨a', cap', rfl, _, hzy, hny, hcy⟩ := hy
  clear hcx hcy hnx hny
  have bA := (((Box.new w (.bool p) (.slice a xs.length cap) 26).alloc (Obj.cells #[.bool q, .slice a' ys.length cap'] 26)).alloc (Obj.cells #[.bool false, .slice none 0 0] 26)).alloc (Obj.cells #[.bool false, .slice none 0 0] 26)
  have bB := ((Box.new (w.alloc (Obj.cells #[.bool p, .slice a xs.length cap] 26)) (.bool q) (.slice a' ys.length cap') 26).alloc (Obj.cells #[.bool false, .slice none 0 0] 26)).alloc (Obj.cells #[.bool false, .slice none 0 0] 26)
  have rx := (((hx'.alloc (Obj.cells #[.bool p, .slice a xs.length cap] 26)).alloc (Obj.cells #[.bool q, .slice a' ys.length cap'] 26)).alloc (Obj.cells #[.bool false, .slice none 0 0] 26)).alloc (Obj.cells #[.bool false, .slice none 0 0] 26)
  have ry := (((hy'.alloc (Obj.cells #[.bool p, .slice a xs.length cap] 26)).alloc (Obj.cells #[.bool q, .slice a' ys.length cap'] 26)).alloc (Obj.cells #[.bool false, .slice none 0 0] 26)).alloc (Obj.cells #[.bool false, .slice none 0 0] 26)
  have hW := ((((Below.refl w.heap.size w).alloc (Nat.le_refl _) (Obj.cells #[.bool p, .slice a xs.length cap] 26)).alloc (by simp) (Obj.cells #[.bool q, .slice a' ys.length cap'] 26)).alloc (by simp; omega) (Obj.cells #[.bool false, .slice none 0 0] 26)).alloc (by simp; omega) (Obj.cells #[.bool false, .slice none 0 0] 26)
  have bR := (Box.new ((w.alloc (Obj.cells #[.bool p, .slice a xs.length cap] 26)).alloc (Obj.cells #[.bool q, .slice a' ys.length cap'] 26)) (.bool false) (.slice none 0 0) 26).alloc (Obj.cells #[.bool false, .slice none 0 0] 26)
  have fR := (Unf.new ((w.alloc (Obj.cells #[.bool p, .slice a xs.length cap] 26)).alloc (Obj.cells #[.bool q, .slice a' ys.length cap'] 26)) #[.bool false, .slice none 0 0] 26).keep ((Below.refl _ _).alloc (Nat.le_refl _) (Obj.cells #[.bool false, .slice none 0 0] 26))
  have bT := Box.new (((w.alloc (Obj.cells #[.bool p, .slice a xs.length cap] 26)).alloc (Obj.cells #[.bool q, .slice a' ys.length cap'] 26)).alloc (Obj.cells #[.bool false, .slice none 0 0] 26)) (.bool false) (.slice none 0 0) 26
  have fT := Unf.new (((w.alloc (Obj.cells #[.bool p, .slice a xs.length cap] 26)).alloc (Obj.cells #[.bool q, .slice a' ys.length cap'] 26)).alloc (Obj.cells #[.bool false, .slice none 0 0] 26)) #[.bool false, .slice none 0 0] 26
  simp only [World.size_alloc] at bB bR fR bT fT
  clear hx' hy'
  have hokA := fun W h => bigOk_any p (.slice a xs.length cap) xs W h
  rw [hoA] at hokA
  have hokB := fun W h => bigOk_any q (.slice a' ys.length cap') ys W h
  rw [hoB] at hokB
  have hnA := okB_norm hoA
  have hnB := okB_norm hoB
  have hYp : 0 < val ys := by have := le_val hzy hnB.1 (by omega); have h1 : 0 < 4294967296 ^ (ys.length - 1) := Nat.pow_pos (by decide); omega
  have e0 : ((ys.length : Int) == 0) = false := beq_len0 h0
  have hQl : (lim (flQ p (val xs) q (val ys))).length ≤ 128 := Nat.le_trans (lim_length_le (Nat.lt_of_le_of_lt (flQ_le2 p q hYp) (val_lt hzx))) hnA.2
  have hRl : (lim (flR p (val xs) q (val ys))).length ≤ 128 := Nat.le_trans (lim_length_le (Nat.lt_of_lt_of_le (flR_lt p q hYp) (Nat.le_of_lt (val_lt hzy)))) hnB.2
  have hDv := fun W h1 h2 => dividedBy_any (.slice a xs.length cap) (.slice a' ys.length cap') xs ys W h1 h2 hnA.1 hnB.1 (by omega) (by omega) (by omega)
  have eQ : flQ p (val xs) q (val ys) = val xs / val ys := by unfold flQ; rw [if_neg (fun h => h.1 hpq)]
  have eR : flR p (val xs) q (val ys) = val xs % val ys := by unfold flR; rw [if_neg (fun h => h.1 hpq)]
  rw [← eQ, ← eR] at hDv
  have hS1 := fun W (B n' c' : Nat) a' h hb => signed_gen (p != q) B n' c' a' (lim (flQ p (val xs) q (val ys))) (flQ p (val xs) q (val ys)) W h (val_lim _) hb
  have hS2 := fun W (B n' c' : Nat) a' h hb => signed_any q B n' c' a' (lim (flR p (val xs) q (val ys))) (flR p (val xs) q (val ys)) W h (val_lim _) hb
  have hf1 := fit_yes hQl (p != q)
  have hf2 := fit_yes hRl q
  rw [hf1.1, hf1.2.1, hf1.2.2] at hS1
  rw [hf2.1, hf2.2.1, hf2.2.2] at hS2
  generalize nz (p != q) (flQ p (val xs) q (val ys)) = S1 at hS1 ⊢
  generalize nz q (flR p (val xs) q (val ys)) = S2 at hS2 ⊢
  clear hf1 hf2 hQl hRl eQ eR
  generalize lim (flQ p (val xs) q (val ys)) = L1 at hS1 hDv ⊢
  generalize lim (flR p (val xs) q (val ys)) = L2 at hS2 hDv ⊢
  subst hpq
  rw [show (p != p) = false from by simp] at hS1
  clear hoA hoB hnA hnB hYp hzx hzy
  have d1 : ¬ (w.heap.size + 1 + 1 = w.heap.size + 1 + 1 + 1) := by omega
  have d2 : ¬ (w.heap.size + 1 + 1 + 1 = w.heap.size + 1 + 1) := by omega
  go_enter Try.func17, Try.ntmps17
  go_wp2_with fail
  refine (hokA _ rx).mono ?_
  rintro e w1 ⟨rfl, hB⟩
  clear hokA
  replace hW := hW.trans (hB.mono hW.size)
  replace bA := bA.keep hB
  replace bB := bB.keep hB
  replace rx := rx.keep hB
  replace ry := ry.keep hB
  replace bR := bR.keep hB
  replace fR := fR.keep hB
  replace bT := bT.keep hB
  replace fT := fT.keep hB
  clear hB
  obtain ⟨-, k0, k1⟩ := id bA
  obtain ⟨-, k2, k3⟩ := id bB
  obtain ⟨hzr, r0, r1⟩ := id bR
  obtain ⟨-, hfr⟩ := id fR
  obtain ⟨hzt, t0, t1⟩ := id bT
  obtain ⟨-, hft⟩ := id fT
  go_wp2_with fail
  refine (hokB _ ry).mono ?_
  rintro e w2 ⟨rfl, hB⟩
  clear hokB
  clear k0 k1 k2 k3 r0 r1 hzr hfr t0 t1 hzt hft
  replace hW := hW.trans (hB.mono hW.size)
  replace bA := bA.keep hB
  replace bB := bB.keep hB
  replace rx := rx.keep hB
  replace ry := ry.keep hB
  replace bR := bR.keep hB
  replace fR := fR.keep hB
  replace bT := bT.keep hB
  replace fT := fT.keep hB
  clear hB
  obtain ⟨-, k0, k1⟩ := id bA
  obtain ⟨-, k2, k3⟩ := id bB
  obtain ⟨hzr, r0, r1⟩ := id bR
  obtain ⟨-, hfr⟩ := id fR
  obtain ⟨hzt, t0, t1⟩ := id bT
  obtain ⟨-, hft⟩ := id fT
  go_wp2_with fail
  refine (hDv _ rx ry).mono ?_
  rintro e w3 ⟨a3, c3, a4, c4, rfl, oq, ⟨wm, om4, orr, hm4, hm2⟩, hB⟩
  clear hDv
  have hw2 : w.heap.size + 1 + 1 + 1 < w2.heap.size := bT.1
  have hw23 := hB.size
  clear k0 k1 k2 k3 r0 r1 hzr hfr t0 t1 hzt hft
  replace hW := hW.trans (hB.mono hW.size)
  replace bA := bA.keep hB
  replace bB := bB.keep hB
  replace rx := rx.keep hB
  replace ry := ry.keep hB
  replace bR := bR.keep hB
  replace fR := fR.keep hB
  replace bT := bT.keep hB
  replace fT := fT.keep hB
  clear hB
  obtain ⟨-, k0, k1⟩ := id bA
  obtain ⟨-, k2, k3⟩ := id bB
  obtain ⟨hzr, r0, r1⟩ := id bR
  obtain ⟨-, hfr⟩ := id fR
  obtain ⟨hzt, t0, t1⟩ := id bT
  obtain ⟨-, hft⟩ := id fT
  go_wp2_with fail
  refine (hS1 _ _ _ _ _ oq (by omega)).mono ?_
  rintro e w6 ⟨a7, c7, rfl, g7, hB⟩
  have o7 := (g7 _ _ oq).keep hB
  have m7 := (g7 _ _ om4).lt
  clear g7 om4
  have orz := orr.keep hB
  have hw56 := hB.size
  clear hS1 oq orr
  clear k0 k1 k2 k3 r0 r1 hzr hfr t0 t1 hzt hft
  replace hW := hW.trans (hB.mono hW.size)
  replace bA := bA.keep hB
  replace bB := bB.keep hB
  replace rx := rx.keep hB
  replace ry := ry.keep hB
  replace bR := bR.keep hB
  replace fR := fR.keep hB
  replace bT := bT.keep hB
  replace fT := fT.keep hB
  clear hB
  have b7 := Box.new w6 (.bool S1) (.slice a7 L1.length c7) 26
  replace hW := hW.alloc hW.size (Obj.cells #[.bool S1, .slice a7 L1.length c7] 26)
  replace bA := bA.alloc (Obj.cells #[.bool S1, .slice a7 L1.length c7] 26)
  replace bB := bB.alloc (Obj.cells #[.bool S1, .slice a7 L1.length c7] 26)
  replace bR := bR.alloc (Obj.cells #[.bool S1, .slice a7 L1.length c7] 26)
  replace bT := bT.alloc (Obj.cells #[.bool S1, .slice a7 L1.length c7] 26)
  replace fR := fR.keep ((Below.refl _ _).alloc (Nat.le_refl _) (Obj.cells #[.bool S1, .slice a7 L1.length c7] 26))
  replace fT := fT.keep ((Below.refl _ _).alloc (Nat.le_refl _) (Obj.cells #[.bool S1, .slice a7 L1.length c7] 26))
  replace rx := rx.alloc (Obj.cells #[.bool S1, .slice a7 L1.length c7] 26)
  replace ry := ry.alloc (Obj.cells #[.bool S1, .slice a7 L1.length c7] 26)
  replace orz := orz.alloc (Obj.cells #[.bool S1, .slice a7 L1.length c7] 26)
  replace o7 := o7.alloc (Obj.cells #[.bool S1, .slice a7 L1.length c7] 26)
  obtain ⟨-, k0, k1⟩ := id bA
  obtain ⟨-, k2, k3⟩ := id bB
  obtain ⟨hzr, r0, r1⟩ := id bR
  obtain ⟨-, hfr⟩ := id fR
  obtain ⟨hzt, t0, t1⟩ := id bT
  obtain ⟨-, hft⟩ := id fT
  go_wp2_with fail
  refine (hS2 _ _ _ _ _ orz (by simp; omega)).mono ?_
  rintro e w7 ⟨a8, c8, rfl, o8, hB⟩
  have hAp := Apart.of m7 o8.lt (Nat.le_refl _)
  clear m7
  have hw67 := hB.size
  simp only [World.size_alloc] at hw67
  replace b7 := b7.keep hB
  replace o7 := o7.keep hB
  clear hS2 orz
  clear k0 k1 k2 k3 r0 r1 hzr hfr t0 t1 hzt hft
  replace hW := hW.trans (hB.mono hW.size)
  replace bA := bA.keep hB
  replace bB := bB.keep hB
  replace rx := rx.keep hB
  replace ry := ry.keep hB
  replace bR := bR.keep hB
  replace fR := fR.keep hB
  replace bT := bT.keep hB
  replace fT := fT.keep hB
  clear hB
  obtain ⟨-, k0, k1⟩ := id bA
  obtain ⟨-, k2, k3⟩ := id bB
  obtain ⟨hzr, r0, r1⟩ := id bR
  obtain ⟨-, hfr⟩ := id fR
  obtain ⟨hzt, t0, t1⟩ := id bT
  obtain ⟨-, hft⟩ := id fT
  obtain ⟨-, x0, x1⟩ := id b7
  have d3 : ¬ (w7.heap.size = w.heap.size + 1 + 1) := by omega
  have d4 : ¬ (w7.heap.size = w.heap.size + 1 + 1 + 1) := by omega
  have d5 : ¬ (w6.heap.size = w.heap.size + 1 + 1) := by omega
  have d6 : ¬ (w6.heap.size = w.heap.size + 1 + 1 + 1) := by omega
  have d3' : ¬ (w.heap.size + 1 + 1 = w7.heap.size) := by omega
  have d4' : ¬ (w.heap.size + 1 + 1 + 1 = w7.heap.size) := by omega
  have d5' : ¬ (w.heap.size + 1 + 1 = w6.heap.size) := by omega
  have d6' : ¬ (w.heap.size + 1 + 1 + 1 = w6.heap.size) := by omega
  have hbz : w.heap.size ≤ w2.heap.size := by omega
  go_upto_region 11 with fail
  clear x0 x1
  replace b7 := b7.alloc (Obj.cells #[.bool S2, .slice a8 L2.length c8] 26)
  have b8 := Box.new w7 (.bool S2) (.slice a8 L2.length c8) 26
  have hW8 := hW.alloc hW.size (Obj.cells #[.bool S2, .slice a8 L2.length c8] 26)
  have bR8 := bR.alloc (Obj.cells #[.bool S2, .slice a8 L2.length c8] 26)
  have bT8 := bT.alloc (Obj.cells #[.bool S2, .slice a8 L2.length c8] 26)
  have fR8 := fR.keep ((Below.refl _ _).alloc (Nat.le_refl _) (Obj.cells #[.bool S2, .slice a8 L2.length c8] 26))
  have fT8 := fT.keep ((Below.refl _ _).alloc (Nat.le_refl _) (Obj.cells #[.bool S2, .slice a8 L2.length c8] 26))
  have o78 := o7.alloc (Obj.cells #[.bool S2, .slice a8 L2.length c8] 26)
  have o88 := (o8.mono hm4).alloc (Obj.cells #[.bool S2, .slice a8 L2.length c8] 26)
  clear o7 o8 bR bT fR fT bA bB hW rx ry
  clear k0 k1 k2 k3 r0 r1 hzr hfr t0 t1 hzt hft
  generalize (w7.alloc (Obj.cells #[.bool S2, .slice a8 L2.length c8] 26)) = W8 at b7 b8 hW8 bR8 bT8 fR8 fT8 o78 o88 ⊢
  obtain ⟨-, x0, x1⟩ := id b7
  obtain ⟨-, y0, y1⟩ := id b8
  obtain ⟨hzr, r0, r1⟩ := id bR8
  obtain ⟨-, hfr⟩ := id fR8
  obtain ⟨hzt, t0, t1⟩ := id bT8
  obtain ⟨-, hft⟩ := id fT8
  have h4 : w.heap.size + 1 + 1 < w2.heap.size := by omega
  have h5 : w.heap.size + 1 + 1 + 1 < w2.heap.size := by omega
  have g4 : w.heap.size ≤ w.heap.size + 1 + 1 := by omega
  have g5 : w.heap.size ≤ w.heap.size + 1 + 1 + 1 := by omega
  go_region
  all_goals go_wp2
  all_goals refine bodyPost_ret (v := .tuple #[.agg #[.bool S1, .slice a7 L1.length c7], .agg #[.bool S2, .slice a8 L2.length c8], .int .i64 0]) (by simp [results, Try.results17, go_sem, *]) rfl ⟨a7, c7, a8, c8, rfl, ?_, ?_, hAp, ?_⟩
  all_goals first
    | exact (((((o78.setBelow h4 _).setBelow h4 _).setBelow h5 _).setBelow h5 _).drew).mono hbz
    | exact (((((o88.setBelow h4 _).setBelow h4 _).setBelow h5 _).setBelow h5 _).drew).mono hbz
    | exact ((((hW8.setCell g4 _).setCell g4 _).setCell g5 _).setCell g5 _).drew
    | exact (((((o78.setBelow h5 _).setBelow h5 _).setBelow h4 _).setBelow h4 _).drew).mono hbz
    | exact (((((o88.setBelow h5 _).setBelow h5 _).setBelow h4 _).setBelow h4 _).drew).mono hbz
    | exact ((((hW8.setCell g5 _).setCell g5 _).setCell g4 _).setCell g4 _).drew
end Go.Proofs.Ythgpacajeaphhaa

namespace Go.Proofs.Ythgpacajeaphhaa
open Go.RowKit
set_option linter.unusedVariables false
set_option linter.unusedSimpArgs false

set_option maxHeartbeats 4000000 in
set_option maxRecDepth 100000 in
theorem dm_impl_zero (p q : Bool) (v u : Value) (xs ys : List Int) (w : World) (hx : Rd w v xs) (hy : Rd w u ys) (hoA : okB p xs = true) (hoB : okB q ys = true) (h0 : ¬ ys.length = 0) (hpq : p ≠ q) (hm : val xs % val ys = 0) :
    Calls Try.prog 17 #[.agg #[.bool p, v], .agg #[.bool q, u]] w fun e w' => ∃ a c a' c', e = .returned (.tuple #[.agg #[.bool (nz (p != q) (flQ p (val xs) q (val ys))), .slice a (lim (flQ p (val xs) q (val ys))).length c], .agg #[.bool (nz q (flR p (val xs) q (val ys))), .slice a' (lim (flR p (val xs) q (val ys))).length c'], .int .i64 0]) ∧ Own w' w.heap.size (.slice a (lim (flQ p (val xs) q (val ys))).length c) (lim (flQ p (val xs) q (val ys))) ∧ Own w' w.heap.size (.slice a' (lim (flR p (val xs) q (val ys))).length c') (lim (flR p (val xs) q (val ys))) ∧ Apart (.slice a (lim (flQ p (val xs) q (val ys))).length c) (.slice a' (lim (flR p (val xs) q (val ys))).length c') ∧ Below w.heap.size w w' := by
  have hx' := hx
  have hy' := hy
  obtain ⟨a, cap, rfl, _, hzx, hnx, hcx⟩ := hx
  obtain ⟨a', cap', rfl, _, hzy, hny, hcy⟩ := hy
  clear hcx hcy hnx hny
  have bA := (((Box.new w (.bool p) (.slice a xs.length cap) 26).alloc (Obj.cells #[.bool q, .slice a' ys.length cap'] 26)).alloc (Obj.cells #[.bool false, .slice none 0 0] 26)).alloc (Obj.cells #[.bool false, .slice none 0 0] 26)
  have bB := ((Box.new (w.alloc (Obj.cells #[.bool p, .slice a xs.length cap] 26)) (.bool q) (.slice a' ys.length cap') 26).alloc (Obj.cells #[.bool false, .slice none 0 0] 26)).alloc (Obj.cells #[.bool false, .slice none 0 0] 26)
  have rx := (((hx'.alloc (Obj.cells #[.bool p, .slice a xs.length cap] 26)).alloc (Obj.cells #[.bool q, .slice a' ys.length cap'] 26)).alloc (Obj.cells #[.bool false, .slice none 0 0] 26)).alloc (Obj.cells #[.bool false, .slice none 0 0] 26)
  have ry := (((hy'.alloc (Obj.cells #[.bool p, .slice a xs.length cap] 26)).alloc (Obj.cells #[.bool q, .slice a' ys.length cap'] 26)).alloc (Obj.cells #[.bool false, .slice none 0 0] 26)).alloc (Obj.cells #[.bool false, .slice none 0 0] 26)
  have hW := ((((Below.refl w.heap.size w).alloc (Nat.le_refl _) (Obj.cells #[.bool p, .slice a xs.length cap] 26)).alloc (by simp) (Obj.cells #[.bool q, .slice a' ys.length cap'] 26)).alloc (by simp; omega) (Obj.cells #[.bool false, .slice none 0 0] 26)).alloc (by simp; omega) (Obj.cells #[.bool false, .slice none 0 0] 26)
  have bR := (Box.new ((w.alloc (Obj.cells #[.bool p, .slice a xs.length cap] 26)).alloc (Obj.cells #[.bool q, .slice a' ys.length cap'] 26)) (.bool false) (.slice none 0 0) 26).alloc (Obj.cells #[.bool false, .slice none 0 0] 26)
  have fR := (Unf.new ((w.alloc (Obj.cells #[.bool p, .slice a xs.length cap] 26)).alloc (Obj.cells #[.bool q, .slice a' ys.length cap'] 26)) #[.bool false, .slice none 0 0] 26).keep ((Below.refl _ _).alloc (Nat.le_refl _) (Obj.cells #[.bool false, .slice none 0 0] 26))
  have bT := Box.new (((w.alloc (Obj.cells #[.bool p, .slice a xs.length cap] 26)).alloc (Obj.cells #[.bool q, .slice a' ys.length cap'] 26)).alloc (Obj.cells #[.bool false, .slice none 0 0] 26)) (.bool false) (.slice none 0 0) 26
  have fT := Unf.new (((w.alloc (Obj.cells #[.bool p, .slice a xs.length cap] 26)).alloc (Obj.cells #[.bool q, .slice a' ys.length cap'] 26)).alloc (Obj.cells #[.bool false, .slice none 0 0] 26)) #[.bool false, .slice none 0 0] 26
  simp only [World.size_alloc] at bB bR fR bT fT
  clear hx' hy'
  have hokA := fun W h => bigOk_any p (.slice a xs.length cap) xs W h
  rw [hoA] at hokA
  have hokB := fun W h => bigOk_any q (.slice a' ys.length cap') ys W h
  rw [hoB] at hokB
  have hnA := okB_norm hoA
  have hnB := okB_norm hoB
  have hYp : 0 < val ys := by have := le_val hzy hnB.1 (by omega); have h1 : 0 < 4294967296 ^ (ys.length - 1) := Nat.pow_pos (by decide); omega
  have e0 : ((ys.length : Int) == 0) = false := beq_len0 h0
  have hQl : (lim (flQ p (val xs) q (val ys))).length ≤ 128 := Nat.le_trans (lim_length_le (Nat.lt_of_le_of_lt (flQ_le2 p q hYp) (val_lt hzx))) hnA.2
  have hRl : (lim (flR p (val xs) q (val ys))).length ≤ 128 := Nat.le_trans (lim_length_le (Nat.lt_of_lt_of_le (flR_lt p q hYp) (Nat.le_of_lt (val_lt hzy)))) hnB.2
  have hDv := fun W h1 h2 => dividedBy_any (.slice a xs.length cap) (.slice a' ys.length cap') xs ys W h1 h2 hnA.1 hnB.1 (by omega) (by omega) (by omega)
  have eQ : flQ p (val xs) q (val ys) = val xs / val ys := by unfold flQ; rw [if_neg (fun h => h.2 hm)]
  have eR : flR p (val xs) q (val ys) = val xs % val ys := by unfold flR; rw [if_neg (fun h => h.2 hm)]
  rw [← eQ, ← eR] at hDv
  have hS1 := fun W (B n' c' : Nat) a' h hb => signed_gen (p != q) B n' c' a' (lim (flQ p (val xs) q (val ys))) (flQ p (val xs) q (val ys)) W h (val_lim _) hb
  have hS2 := fun W (B n' c' : Nat) a' h hb => signed_any q B n' c' a' (lim (flR p (val xs) q (val ys))) (flR p (val xs) q (val ys)) W h (val_lim _) hb
  have hf1 := fit_yes hQl (p != q)
  have hf2 := fit_yes hRl q
  rw [hf1.1, hf1.2.1, hf1.2.2] at hS1
  rw [hf2.1, hf2.2.1, hf2.2.2] at hS2
  have hz2 : lim (flR p (val xs) q (val ys)) = [] := by rw [eR, hm, lim_zero]
  generalize nz (p != q) (flQ p (val xs) q (val ys)) = S1 at hS1 ⊢
  generalize nz q (flR p (val xs) q (val ys)) = S2 at hS2 ⊢
  clear hf1 hf2 hQl hRl eQ eR
  generalize lim (flQ p (val xs) q (val ys)) = L1 at hS1 hDv ⊢
  generalize lim (flR p (val xs) q (val ys)) = L2 at hS2 hDv hz2 ⊢
  have hl2 : ¬ (0 : Int) < (L2.length : Int) := by rw [hz2]; simp
  clear hz2
  have hpq' : (p != q) = true := by simpa using hpq
  generalize hX : (p != q) = sx at hS1 hpq'
  subst hpq'
  have hpb : (p == q) = false := by simpa using hpq
  clear hoA hoB hnA hnB hYp hzx hzy hm
  have d1 : ¬ (w.heap.size + 1 + 1 = w.heap.size + 1 + 1 + 1) := by omega
  have d2 : ¬ (w.heap.size + 1 + 1 + 1 = w.heap.size + 1 + 1) := by omega
  go_enter Try.func17, Try.ntmps17
  go_wp2_with fail
  refine (hokA _ rx).mono ?_
  rintro e w1 ⟨rfl, hB⟩
  clear hokA
  replace hW := hW.trans (hB.mono hW.size)
  replace bA := bA.keep hB
  replace bB := bB.keep hB
  replace rx := rx.keep hB
  replace ry := ry.keep hB
  replace bR := bR.keep hB
  replace fR := fR.keep hB
  replace bT := bT.keep hB
  replace fT := fT.keep hB
  clear hB
  obtain ⟨-, k0, k1⟩ := id bA
  obtain ⟨-, k2, k3⟩ := id bB
  obtain ⟨hzr, r0, r1⟩ := id bR
  obtain ⟨-, hfr⟩ := id fR
  obtain ⟨hzt, t0, t1⟩ := id bT
  obtain ⟨-, hft⟩ := id fT
  go_wp2_with fail
  refine (hokB _ ry).mono ?_
  rintro e w2 ⟨rfl, hB⟩
  clear hokB
  clear k0 k1 k2 k3 r0 r1 hzr hfr t0 t1 hzt hft
  replace hW := hW.trans (hB.mono hW.size)
  replace bA := bA.keep hB
  replace bB := bB.keep hB
  replace rx := rx.keep hB
  replace ry := ry.keep hB
  replace bR := bR.keep hB
  replace fR := fR.keep hB
  replace bT := bT.keep hB
  replace fT := fT.keep hB
  clear hB
  obtain ⟨-, k0, k1⟩ := id bA
  obtain ⟨-, k2, k3⟩ := id bB
  obtain ⟨hzr, r0, r1⟩ := id bR
  obtain ⟨-, hfr⟩ := id fR
  obtain ⟨hzt, t0, t1⟩ := id bT
  obtain ⟨-, hft⟩ := id fT
  go_wp2_with fail
  refine (hDv _ rx ry).mono ?_
  rintro e w3 ⟨a3, c3, a4, c4, rfl, oq, ⟨wm, om4, orr, hm4, hm2⟩, hB⟩
  clear hDv
  have hw2 : w.heap.size + 1 + 1 + 1 < w2.heap.size := bT.1
  have hw23 := hB.size
  clear k0 k1 k2 k3 r0 r1 hzr hfr t0 t1 hzt hft
  replace hW := hW.trans (hB.mono hW.size)
  replace bA := bA.keep hB
  replace bB := bB.keep hB
  replace rx := rx.keep hB
  replace ry := ry.keep hB
  replace bR := bR.keep hB
  replace fR := fR.keep hB
  replace bT := bT.keep hB
  replace fT := fT.keep hB
  clear hB
  obtain ⟨-, k0, k1⟩ := id bA
  obtain ⟨-, k2, k3⟩ := id bB
  obtain ⟨hzr, r0, r1⟩ := id bR
  obtain ⟨-, hfr⟩ := id fR
  obtain ⟨hzt, t0, t1⟩ := id bT
  obtain ⟨-, hft⟩ := id fT
  go_wp2_with fail
  refine (hS1 _ _ _ _ _ oq (by omega)).mono ?_
  rintro e w6 ⟨a7, c7, rfl, g7, hB⟩
  have o7 := (g7 _ _ oq).keep hB
  have m7 := (g7 _ _ om4).lt
  clear g7 om4
  have orz := orr.keep hB
  have hw56 := hB.size
  clear hS1 oq orr
  clear k0 k1 k2 k3 r0 r1 hzr hfr t0 t1 hzt hft
  replace hW := hW.trans (hB.mono hW.size)
  replace bA := bA.keep hB
  replace bB := bB.keep hB
  replace rx := rx.keep hB
  replace ry := ry.keep hB
  replace bR := bR.keep hB
  replace fR := fR.keep hB
  replace bT := bT.keep hB
  replace fT := fT.keep hB
  clear hB
  have b7 := Box.new w6 (.bool S1) (.slice a7 L1.length c7) 26
  replace hW := hW.alloc hW.size (Obj.cells #[.bool S1, .slice a7 L1.length c7] 26)
  replace bA := bA.alloc (Obj.cells #[.bool S1, .slice a7 L1.length c7] 26)
  replace bB := bB.alloc (Obj.cells #[.bool S1, .slice a7 L1.length c7] 26)
  replace bR := bR.alloc (Obj.cells #[.bool S1, .slice a7 L1.length c7] 26)
  replace bT := bT.alloc (Obj.cells #[.bool S1, .slice a7 L1.length c7] 26)
  replace fR := fR.keep ((Below.refl _ _).alloc (Nat.le_refl _) (Obj.cells #[.bool S1, .slice a7 L1.length c7] 26))
  replace fT := fT.keep ((Below.refl _ _).alloc (Nat.le_refl _) (Obj.cells #[.bool S1, .slice a7 L1.length c7] 26))
  replace rx := rx.alloc (Obj.cells #[.bool S1, .slice a7 L1.length c7] 26)
  replace ry := ry.alloc (Obj.cells #[.bool S1, .slice a7 L1.length c7] 26)
  replace orz := orz.alloc (Obj.cells #[.bool S1, .slice a7 L1.length c7] 26)
  replace o7 := o7.alloc (Obj.cells #[.bool S1, .slice a7 L1.length c7] 26)
  obtain ⟨-, k0, k1⟩ := id bA
  obtain ⟨-, k2, k3⟩ := id bB
  obtain ⟨hzr, r0, r1⟩ := id bR
  obtain ⟨-, hfr⟩ := id fR
  obtain ⟨hzt, t0, t1⟩ := id bT
  obtain ⟨-, hft⟩ := id fT
  go_wp2_with fail
  refine (hS2 _ _ _ _ _ orz (by simp; omega)).mono ?_
  rintro e w7 ⟨a8, c8, rfl, o8, hB⟩
  have hAp := Apart.of m7 o8.lt (Nat.le_refl _)
  clear m7
  have hw67 := hB.size
  simp only [World.size_alloc] at hw67
  replace b7 := b7.keep hB
  replace o7 := o7.keep hB
  clear hS2 orz
  clear k0 k1 k2 k3 r0 r1 hzr hfr t0 t1 hzt hft
  replace hW := hW.trans (hB.mono hW.size)
  replace bA := bA.keep hB
  replace bB := bB.keep hB
  replace rx := rx.keep hB
  replace ry := ry.keep hB
  replace bR := bR.keep hB
  replace fR := fR.keep hB
  replace bT := bT.keep hB
  replace fT := fT.keep hB
  clear hB
  obtain ⟨-, k0, k1⟩ := id bA
  obtain ⟨-, k2, k3⟩ := id bB
  obtain ⟨hzr, r0, r1⟩ := id bR
  obtain ⟨-, hfr⟩ := id fR
  obtain ⟨hzt, t0, t1⟩ := id bT
  obtain ⟨-, hft⟩ := id fT
  obtain ⟨-, x0, x1⟩ := id b7
  have d3 : ¬ (w7.heap.size = w.heap.size + 1 + 1) := by omega
  have d4 : ¬ (w7.heap.size = w.heap.size + 1 + 1 + 1) := by omega
  have d5 : ¬ (w6.heap.size = w.heap.size + 1 + 1) := by omega
  have d6 : ¬ (w6.heap.size = w.heap.size + 1 + 1 + 1) := by omega
  have d3' : ¬ (w.heap.size + 1 + 1 = w7.heap.size) := by omega
  have d4' : ¬ (w.heap.size + 1 + 1 + 1 = w7.heap.size) := by omega
  have d5' : ¬ (w.heap.size + 1 + 1 = w6.heap.size) := by omega
  have d6' : ¬ (w.heap.size + 1 + 1 + 1 = w6.heap.size) := by omega
  have hbz : w.heap.size ≤ w2.heap.size := by omega
  go_upto_region 11 with fail
  clear x0 x1
  replace b7 := b7.alloc (Obj.cells #[.bool S2, .slice a8 L2.length c8] 26)
  have b8 := Box.new w7 (.bool S2) (.slice a8 L2.length c8) 26
  have hW8 := hW.alloc hW.size (Obj.cells #[.bool S2, .slice a8 L2.length c8] 26)
  have bR8 := bR.alloc (Obj.cells #[.bool S2, .slice a8 L2.length c8] 26)
  have bT8 := bT.alloc (Obj.cells #[.bool S2, .slice a8 L2.length c8] 26)
  have fR8 := fR.keep ((Below.refl _ _).alloc (Nat.le_refl _) (Obj.cells #[.bool S2, .slice a8 L2.length c8] 26))
  have fT8 := fT.keep ((Below.refl _ _).alloc (Nat.le_refl _) (Obj.cells #[.bool S2, .slice a8 L2.length c8] 26))
  have o78 := o7.alloc (Obj.cells #[.bool S2, .slice a8 L2.length c8] 26)
  have o88 := (o8.mono hm4).alloc (Obj.cells #[.bool S2, .slice a8 L2.length c8] 26)
  clear o7 o8 bR bT fR fT bA bB hW rx ry
  clear k0 k1 k2 k3 r0 r1 hzr hfr t0 t1 hzt hft
  generalize (w7.alloc (Obj.cells #[.bool S2, .slice a8 L2.length c8] 26)) = W8 at b7 b8 hW8 bR8 bT8 fR8 fT8 o78 o88 ⊢
  obtain ⟨-, x0, x1⟩ := id b7
  obtain ⟨-, y0, y1⟩ := id b8
  obtain ⟨hzr, r0, r1⟩ := id bR8
  obtain ⟨-, hfr⟩ := id fR8
  obtain ⟨hzt, t0, t1⟩ := id bT8
  obtain ⟨-, hft⟩ := id fT8
  have h4 : w.heap.size + 1 + 1 < w2.heap.size := by omega
  have h5 : w.heap.size + 1 + 1 + 1 < w2.heap.size := by omega
  have g4 : w.heap.size ≤ w.heap.size + 1 + 1 := by omega
  have g5 : w.heap.size ≤ w.heap.size + 1 + 1 + 1 := by omega
  go_region
  all_goals go_wp2
  all_goals refine bodyPost_ret (v := .tuple #[.agg #[.bool S1, .slice a7 L1.length c7], .agg #[.bool S2, .slice a8 L2.length c8], .int .i64 0]) (by simp [results, Try.results17, go_sem, *]) rfl ⟨a7, c7, a8, c8, rfl, ?_, ?_, hAp, ?_⟩
  all_goals first
    | exact (((((o78.setBelow h4 _).setBelow h4 _).setBelow h5 _).setBelow h5 _).drew).mono hbz
    | exact (((((o88.setBelow h4 _).setBelow h4 _).setBelow h5 _).setBelow h5 _).drew).mono hbz
    | exact ((((hW8.setCell g4 _).setCell g4 _).setCell g5 _).setCell g5 _).drew
    | exact (((((o78.setBelow h5 _).setBelow h5 _).setBelow h4 _).setBelow h4 _).drew).mono hbz
    | exact (((((o88.setBelow h5 _).setBelow h5 _).setBelow h4 _).setBelow h4 _).drew).mono hbz
    | exact ((((hW8.setCell g5 _).setCell g5 _).setCell g4 _).setCell g4 _).drew
end Go.Proofs.Ythgpacajeaphhaa

namespace Go.Proofs.Ythgpacajeaphhaa
open Go.RowKit
set_option linter.unusedVariables false
set_option linter.unusedSimpArgs false

/-- What BigDivMod answers. -/
def dmOk (p q : Bool) (xs ys : List Int) : Bool := okB p xs && (okB q ys && !decide (ys.length = 0))
def dmS1 (p q : Bool) (xs ys : List Int) : Bool := if dmOk p q xs ys = true then nz (p != q) (flQ p (val xs) q (val ys)) else false
def dmL1 (p q : Bool) (xs ys : List Int) : List Int := if dmOk p q xs ys = true then lim (flQ p (val xs) q (val ys)) else []
def dmS2 (p q : Bool) (xs ys : List Int) : Bool := if dmOk p q xs ys = true then nz q (flR p (val xs) q (val ys)) else false
def dmL2 (p q : Bool) (xs ys : List Int) : List Int := if dmOk p q xs ys = true then lim (flR p (val xs) q (val ys)) else []
def dmC (p q : Bool) (xs ys : List Int) : Int := if dmOk p q xs ys = true then 0 else if (okB p xs && okB q ys) = true then 2 else 1
theorem dm_yes {p q : Bool} {xs ys : List Int} (h : dmOk p q xs ys = true) : dmS1 p q xs ys = nz (p != q) (flQ p (val xs) q (val ys)) ∧ dmL1 p q xs ys = lim (flQ p (val xs) q (val ys)) ∧ dmS2 p q xs ys = nz q (flR p (val xs) q (val ys)) ∧ dmL2 p q xs ys = lim (flR p (val xs) q (val ys)) ∧ dmC p q xs ys = 0 := by
  unfold dmS1 dmL1 dmS2 dmL2 dmC; rw [h]; exact ⟨rfl, rfl, rfl, rfl, rfl⟩
theorem dm_no {p q : Bool} {xs ys : List Int} (h : dmOk p q xs ys = false) : dmS1 p q xs ys = false ∧ dmL1 p q xs ys = [] ∧ dmS2 p q xs ys = false ∧ dmL2 p q xs ys = [] ∧ dmC p q xs ys = if (okB p xs && okB q ys) = true then 2 else 1 := by
  unfold dmS1 dmL1 dmS2 dmL2 dmC; rw [h]; exact ⟨rfl, rfl, rfl, rfl, rfl⟩
theorem bigDivMod_any (p q : Bool) (v u : Value) (xs ys : List Int) (w : World) (hx : Rd w v xs) (hy : Rd w u ys) :
    Calls Try.prog 17 #[.agg #[.bool p, v], .agg #[.bool q, u]] w fun e w' => ∃ a c a' c', e = .returned (.tuple #[.agg #[.bool (dmS1 p q xs ys), .slice a (dmL1 p q xs ys).length c], .agg #[.bool (dmS2 p q xs ys), .slice a' (dmL2 p q xs ys).length c'], .int .i64 (dmC p q xs ys)]) ∧ Own w' w.heap.size (.slice a (dmL1 p q xs ys).length c) (dmL1 p q xs ys) ∧ Own w' w.heap.size (.slice a' (dmL2 p q xs ys).length c') (dmL2 p q xs ys) ∧ Apart (.slice a (dmL1 p q xs ys).length c) (.slice a' (dmL2 p q xs ys).length c') ∧ Below w.heap.size w w' := by
  cases hoA : okB p xs with
  | false =>
    obtain ⟨e1, e2, e3, e4, e5⟩ := dm_no (by unfold dmOk; rw [hoA]; rfl : dmOk p q xs ys = false)
    rw [hoA, Bool.false_and, if_neg (by simp)] at e5
    rw [e1, e2, e3, e4, e5]; exact dm_impl_a p q v u xs ys w hx hy hoA
  | true =>
    cases hoB : okB q ys with
    | false =>
      obtain ⟨e1, e2, e3, e4, e5⟩ := dm_no (by unfold dmOk; rw [hoA, hoB]; rfl : dmOk p q xs ys = false)
      rw [hoA, hoB, Bool.and_false, if_neg (by simp)] at e5
      rw [e1, e2, e3, e4, e5]; exact dm_impl_b p q v u xs ys w hx hy hoA hoB
    | true =>
      by_cases h0 : ys.length = 0
      · obtain ⟨e1, e2, e3, e4, e5⟩ := dm_no (by unfold dmOk; rw [hoA, hoB, decide_eq_true h0]; rfl : dmOk p q xs ys = false)
        rw [hoA, hoB, Bool.and_true, if_pos rfl] at e5
        rw [e1, e2, e3, e4, e5]; exact dm_impl_z p q v u xs ys w hx hy hoA hoB h0
      · obtain ⟨e1, e2, e3, e4, e5⟩ := dm_yes (by unfold dmOk; rw [hoA, hoB, decide_eq_false h0]; rfl : dmOk p q xs ys = true)
        rw [e1, e2, e3, e4, e5]
        by_cases hpq : p = q
        · exact dm_impl_same p q v u xs ys w hx hy hoA hoB h0 hpq
        · by_cases hm : val xs % val ys = 0
          · exact dm_impl_zero p q v u xs ys w hx hy hoA hoB h0 hpq hm
          · exact dm_impl_adj p q v u xs ys w hx hy hoA hoB h0 hpq hm
end Go.Proofs.Ythgpacajeaphhaa
