import Derived.Test.YtfcoffllelgakaaDoorLimOne
import Derived.Test.YtfcoffllelgakaaDoorFloor
namespace Go.Proofs.YtfcoffllelgakaaDoor
open Go.RowKit
set_option linter.unusedVariables false
set_option linter.unusedSimpArgs false

set_option maxHeartbeats 2000000 in
set_option maxRecDepth 100000 in
theorem l1Floor_adj1 (p t : Bool) (v u : Value) (xs ys : List Int) (w : World) (hx : Rd w v xs) (hy : Rd w u ys) (nx : Norm xs) (ny : Norm ys) (hlx : xs.length ≤ 400000) (hly : ys.length ≤ 400000) (hpos : 0 < val ys) (hp : p = true) (ht : t = false) (hne : val xs % val ys ≠ 0) :
    Calls Tryd.prog 68 #[.agg #[.bool p, v], .agg #[.bool t, u]] w fun e w' => ∃ a c a' c', e = .returned (.tuple #[.agg #[.bool (nz (p != t) (flQ p (val xs) t (val ys))), .slice a (lim (flQ p (val xs) t (val ys))).length c], .agg #[.bool (nz t (flR p (val xs) t (val ys))), .slice a' (lim (flR p (val xs) t (val ys))).length c']]) ∧ Own w' w.heap.size (.slice a (lim (flQ p (val xs) t (val ys))).length c) (lim (flQ p (val xs) t (val ys))) ∧ Own w' w.heap.size (.slice a' (lim (flR p (val xs) t (val ys))).length c') (lim (flR p (val xs) t (val ys))) ∧ Below w.heap.size w w' := by
  have hx' := hx
  have hy' := hy
  obtain ⟨a, cap, rfl, _, hzx, hnx, hcx⟩ := hx
  obtain ⟨a', cap', rfl, _, hzy, hny, hcy⟩ := hy
  clear hcx hcy hnx hny
  obtain ⟨w0, hw0⟩ : ∃ w0, w0 = (((w.alloc (Obj.cells #[.bool p, .slice a xs.length cap] 29)).alloc (Obj.cells #[.bool t, .slice a' ys.length cap'] 29)).alloc (Obj.cells #[.bool false, .slice none 0 0] 29)).alloc (Obj.cells #[.bool false, .slice none 0 0] 29) := ⟨_, rfl⟩
  have bA : Box w0 w.heap.size (.bool p) (.slice a xs.length cap) := by rw [hw0]; exact (((Box.new w _ _ 29).alloc _).alloc _).alloc _
  have bB : Box w0 (w.heap.size + 1) (.bool t) (.slice a' ys.length cap') := by rw [hw0]; have := ((Box.new (w.alloc (Obj.cells #[.bool p, .slice a xs.length cap] 29)) (.bool t) (.slice a' ys.length cap') 29).alloc (Obj.cells #[.bool false, .slice none 0 0] 29)).alloc (Obj.cells #[.bool false, .slice none 0 0] 29); simpa only [World.size_alloc] using this
  have b4 : Box w0 (w.heap.size + 1 + 1) (.bool false) (.slice none 0 0) := by rw [hw0]; have := (Box.new ((w.alloc (Obj.cells #[.bool p, .slice a xs.length cap] 29)).alloc (Obj.cells #[.bool t, .slice a' ys.length cap'] 29)) (.bool false) (.slice none 0 0) 29).alloc (Obj.cells #[.bool false, .slice none 0 0] 29); simpa only [World.size_alloc] using this
  have b5 : Box w0 (w.heap.size + 1 + 1 + 1) (.bool false) (.slice none 0 0) := by rw [hw0]; have := (Box.new (((w.alloc (Obj.cells #[.bool p, .slice a xs.length cap] 29)).alloc (Obj.cells #[.bool t, .slice a' ys.length cap'] 29)).alloc (Obj.cells #[.bool false, .slice none 0 0] 29)) (.bool false) (.slice none 0 0) 29); simpa only [World.size_alloc] using this
  have f4 : Unf w0 (w.heap.size + 1 + 1) := by rw [hw0]; have := (Unf.new ((w.alloc (Obj.cells #[.bool p, .slice a xs.length cap] 29)).alloc (Obj.cells #[.bool t, .slice a' ys.length cap'] 29)) #[.bool false, .slice none 0 0] 29).keep ((Below.refl _ _).alloc (Nat.le_refl _) (Obj.cells #[.bool false, .slice none 0 0] 29)); simpa only [World.size_alloc] using this
  have f5 : Unf w0 (w.heap.size + 1 + 1 + 1) := by rw [hw0]; have := (Unf.new (((w.alloc (Obj.cells #[.bool p, .slice a xs.length cap] 29)).alloc (Obj.cells #[.bool t, .slice a' ys.length cap'] 29)).alloc (Obj.cells #[.bool false, .slice none 0 0] 29)) #[.bool false, .slice none 0 0] 29); simpa only [World.size_alloc] using this
  have rx : Rd w0 (.slice a xs.length cap) xs := by rw [hw0]; exact (((hx'.alloc _).alloc _).alloc _).alloc _
  have ry : Rd w0 (.slice a' ys.length cap') ys := by rw [hw0]; exact (((hy'.alloc _).alloc _).alloc _).alloc _
  have hW : Below w.heap.size w w0 := by rw [hw0]; exact ((((Below.refl w.heap.size w).alloc (Nat.le_refl _) _).alloc (by simp) _).alloc (by simp; omega) _).alloc (by simp; omega) _
  have HW0 : Hid _ := hw0
  clear hw0
  have hD := fun W h1 h2 => divMag_any (.slice a xs.length cap) (.slice a' ys.length cap') xs ys W h1 h2 nx ny (by omega) (by omega) hpos
  have hG := fun W v h => l1Big_lim (p != t) v (val xs / val ys) W h
  have hfr := floor_rest p (val xs) t (val ys) hpos
  -- the last region's calls
  obtain ⟨Qn, hQn⟩ : ∃ Qn, Qn = flQ p (val xs) t (val ys) := ⟨_, rfl⟩
  obtain ⟨Rn, hRn⟩ : ∃ Rn, Rn = flR p (val xs) t (val ys) := ⟨_, rfl⟩
  have hQle : Qn ≤ val xs + 1 := by
    have := Nat.div_le_self (val xs) (val ys)
    rw [hQn]; unfold flQ; split <;> omega
  have hQlen : (lim Qn).length ≤ xs.length + 1 := by
    refine lim_length_le ?_
    have h1 := val_lt hzx
    rw [Nat.pow_succ]
    have h2 : 0 < 4294967296 ^ xs.length := Nat.pow_pos (by decide)
    omega
  rw [← hQn, ← hRn] at hfr ⊢
  obtain ⟨s8, hs8⟩ : ∃ s8, s8 = nz (p != t) Qn := ⟨_, rfl⟩
  rw [← hs8] at hfr ⊢
  have hM := fun W v h1 h2 => mulMag_any v (.slice a' ys.length cap') (lim Qn) ys W h1 h2 (by omega) (by omega)
  rw [val_lim] at hM
  have hMlen : (lim (Qn * val ys)).length ≤ xs.length + 1 + ys.length := by
    refine lim_length_le ?_
    have h1 := val_lt (lim_limbs Qn)
    rw [val_lim] at h1
    have h2 : Qn < 4294967296 ^ (xs.length + 1) := Nat.lt_of_lt_of_le h1 (Nat.pow_le_pow_right (by decide) hQlen)
    rw [Nat.pow_add]
    exact Nat.mul_lt_mul'' h2 (val_lt hzy)
  have hG2 := fun W v h => l1Big_lim (s8 != t) v (Qn * val ys) W h
  have hMi := fun W v h => l1Minus_any (nz (s8 != t) (Qn * val ys)) v (lim (Qn * val ys)) W h
  rw [val_lim] at hMi
  have hS := fun W v h1 h2 => l1Sum_any p (nz (!(nz (s8 != t) (Qn * val ys))) (Qn * val ys)) (.slice a xs.length cap) v xs (lim (Qn * val ys)) W h1 h2 nx (lim_norm _) (by omega) (by omega)
  rw [val_lim, hfr.1, hfr.2] at hS
  generalize nz (!(nz (s8 != t) (Qn * val ys))) (Qn * val ys) = s6 at hMi hS
  generalize nz (s8 != t) (Qn * val ys) = s5 at hG2 hMi
  generalize lim (Qn * val ys) = LM at hM hG2 hMi hS
  generalize nz t Rn = s7 at hS ⊢
  clear hfr hQle hMlen
  have hadj : p ≠ t ∧ val xs % val ys ≠ 0 := ⟨by rw [hp, ht]; simp, hne⟩
  have eQ : Qn = val xs / val ys + 1 := by rw [hQn]; exact if_pos hadj
  have hpt2 : (p = true ∧ t = false) ∨ (p = false ∧ t = true) := by have := hadj.1; revert this; cases p <;> cases t <;> simp
  have hpp : (p != t) = true := by rcases hpt2 with ⟨rfl, rfl⟩ | ⟨rfl, rfl⟩ <;> rfl
  have hs1 : s8 = true := by rw [hs8, hpp, eQ]; exact nz_pos (Nat.succ_pos _)
  rw [hpp] at hG
  have hLR : ¬ (lim (val xs % val ys)).length = 0 := by rw [List.length_eq_zero_iff, lim_eq_nil]; exact hadj.2
  have hBo := fun W => bigOfS_any (-1) W (by decide) (by decide)
  rw [show decide ((-1 : Int) < 0) = true from rfl, show (-1 : Int).natAbs = 1 from rfl] at hBo
  have hqlen : (lim (val xs / val ys)).length ≤ xs.length := lim_length_le (Nat.lt_of_le_of_lt (Nat.div_le_self _ _) (val_lt hzx))
  have hS4 := fun W v u h1 h2 => l1Sum_any (nz true (val xs / val ys)) true v u (lim (val xs / val ys)) (lim 1) W h1 h2 (lim_norm _) (lim_norm _) (by omega) (by rw [lim_one]; simp)
  have hsm : sumR (nz true (val xs / val ys)) (val xs / val ys) true 1 = (true, val xs / val ys + 1) := by
    by_cases h : val xs / val ys = 0
    · rw [h, nz_zero]; rfl
    · rw [nz_pos (Nat.pos_of_ne_zero h), sumR_same]
  rw [val_lim, val_lim, hsm] at hS4
  simp only [← eQ] at hS4
  rw [show nz true Qn = true from nz_pos (by rw [eQ]; exact Nat.succ_pos _)] at hS4
  subst hs1
  generalize nz true (val xs / val ys) = sm at hG hS4
  generalize lim (val xs % val ys) = LD at hD hLR
  generalize lim (val xs / val ys) = Lq at hD hG hS4
  generalize lim 1 = L1 at hBo hS4
  generalize hLRn : lim Rn = LR at hS ⊢
  generalize hLQ : lim Qn = LQ at hS4 hM hQlen ⊢
  have hLD : 0 < LD.length := by omega
  clear hQn hRn eQ hs8 hLRn hLQ hadj hzx hzy nx ny hpos hpp hsm hqlen hLR
  subst hp
  subst ht
  clear hpt2 hne
  go_enter Tryd.func68, Tryd.ntmps68
  go_wp2_with fail
  rw [← HW0.out]
  refine (hD _ rx ry).mono ?_
  rintro e w1 ⟨a1, c1, a2, c2, rfl, hO1, hO2, hB1⟩
  clear hD HW0 hO2
  replace bA := bA.keep hB1
  replace bB := bB.keep hB1
  replace b4 := b4.keep hB1
  replace b5 := b5.keep hB1
  replace f4 := f4.keep hB1
  replace f5 := f5.keep hB1
  replace rx := rx.keep hB1
  replace ry := ry.keep hB1
  replace hW := hW.trans (hB1.mono hW.size)
  obtain ⟨-, k0, k1⟩ := id bA
  obtain ⟨-, k2, k3⟩ := id bB
  go_wp2_with fail
  refine (hG _ _ hO1.rd).mono ?_
  rintro e w2 ⟨a3, c3, rfl, hO3, hB2⟩
  have hw1 : w.heap.size + 1 + 1 + 1 < w1.heap.size := b5.1
  clear hG k0 k1 k2 k3 hO1
  replace bA := bA.keep hB2
  replace bB := bB.keep hB2
  replace b4 := b4.keep hB2
  replace b5 := b5.keep hB2
  replace f4 := f4.keep hB2
  replace f5 := f5.keep hB2
  replace rx := rx.keep hB2
  replace ry := ry.keep hB2
  replace hW := hW.trans (hB2.mono hW.size)
  have hlt2 : w.heap.size + 1 + 1 + 1 < w2.heap.size := b5.1
  have b8 := Box.new w2 (.bool sm) (.slice a3 Lq.length c3) 29
  have f8 := Unf.new w2 #[.bool sm, .slice a3 Lq.length c3] 29
  replace hO3 := hO3.alloc (Obj.cells #[.bool sm, .slice a3 Lq.length c3] 29)
  replace bA := bA.alloc (Obj.cells #[.bool sm, .slice a3 Lq.length c3] 29)
  replace bB := bB.alloc (Obj.cells #[.bool sm, .slice a3 Lq.length c3] 29)
  replace b4 := b4.alloc (Obj.cells #[.bool sm, .slice a3 Lq.length c3] 29)
  replace b5 := b5.alloc (Obj.cells #[.bool sm, .slice a3 Lq.length c3] 29)
  replace rx := rx.alloc (Obj.cells #[.bool sm, .slice a3 Lq.length c3] 29)
  replace ry := ry.alloc (Obj.cells #[.bool sm, .slice a3 Lq.length c3] 29)
  replace f4 := f4.keep ((Below.refl _ _).alloc (Nat.le_refl _) (Obj.cells #[.bool sm, .slice a3 Lq.length c3] 29))
  replace f5 := f5.keep ((Below.refl _ _).alloc (Nat.le_refl _) (Obj.cells #[.bool sm, .slice a3 Lq.length c3] 29))
  replace hW := hW.alloc hW.size (Obj.cells #[.bool sm, .slice a3 Lq.length c3] 29)
  obtain ⟨-, k0, k1⟩ := id bA
  obtain ⟨-, k2, k3⟩ := id bB
  obtain ⟨-, k8, k9⟩ := id b8
  have hLDi : (0 : Int) < (LD.length : Int) := by omega
  go_wp2_with fail
  have hsz3 : w1.heap.size ≤ (w2.alloc (Obj.cells #[.bool sm, .slice a3 Lq.length c3] 29)).heap.size := by have := hB2.size; simp; omega
  obtain ⟨g8, hg8⟩ : ∃ g8, g8 = w2.heap.size := ⟨_, rfl⟩
  rw [← hg8] at b8 f8 k8 k9 ⊢
  generalize w2.alloc (Obj.cells #[.bool sm, .slice a3 Lq.length c3] 29) = w3 at *
  have n0 : ¬ w.heap.size = w.heap.size + 1 := by omega
  have n1 : ¬ w.heap.size = w.heap.size + 1 + 1 := by omega
  have n2 : ¬ w.heap.size = w.heap.size + 1 + 1 + 1 := by omega
  have n3 : ¬ w.heap.size = g8 := by omega
  have n4 : ¬ w.heap.size + 1 = w.heap.size := by omega
  have n5 : ¬ w.heap.size + 1 = w.heap.size + 1 + 1 := by omega
  have n6 : ¬ w.heap.size + 1 = w.heap.size + 1 + 1 + 1 := by omega
  have n7 : ¬ w.heap.size + 1 = g8 := by omega
  have n8 : ¬ w.heap.size + 1 + 1 = w.heap.size := by omega
  have n9 : ¬ w.heap.size + 1 + 1 = w.heap.size + 1 := by omega
  have n10 : ¬ w.heap.size + 1 + 1 = w.heap.size + 1 + 1 + 1 := by omega
  have n11 : ¬ w.heap.size + 1 + 1 = g8 := by omega
  have n12 : ¬ w.heap.size + 1 + 1 + 1 = w.heap.size := by omega
  have n13 : ¬ w.heap.size + 1 + 1 + 1 = w.heap.size + 1 := by omega
  have n14 : ¬ w.heap.size + 1 + 1 + 1 = w.heap.size + 1 + 1 := by omega
  have n15 : ¬ w.heap.size + 1 + 1 + 1 = g8 := by omega
  have n16 : ¬ g8 = w.heap.size := by omega
  have n17 : ¬ g8 = w.heap.size + 1 := by omega
  have n18 : ¬ g8 = w.heap.size + 1 + 1 := by omega
  have n19 : ¬ g8 = w.heap.size + 1 + 1 + 1 := by omega
  have HG8 : Hid _ := hg8
  have hgw : w.heap.size ≤ g8 := by omega
  clear hg8 hlt2
  have hw13 : w1.heap.size ≤ w3.heap.size := hsz3
  go_region_with (first | (go_at_call 19; refine (hBo _).mono ?_; rintro e wa ⟨aa, ca, rfl, hOa, hBa⟩; have b8a := b8.drew.keep hBa; have f8a := f8.drew.keep hBa; obtain ⟨-, ya0, ya1⟩ := id b8a; have hO3a := hO3.drew.keep hBa) | (go_at_call 46; refine (hS4 _ _ _ hO3a.rd hOa.rd).mono ?_; rintro e wb ⟨ab, cb, rfl, hOb, hBb⟩; have b8b := b8a.keep hBb; have f8b := f8a.keep hBb; obtain ⟨qb, zb0, zb1⟩ := id b8b; obtain ⟨-, ub⟩ := id f8b))
  all_goals (
    have bA := bA.drew.keep hBa
    have bA := bA.keep hBb
    have bB := bB.drew.keep hBa
    have bB := bB.keep hBb
    have b4 := b4.drew.keep hBa
    have b4 := b4.keep hBb
    have b5 := b5.drew.keep hBa
    have b5 := b5.keep hBb
    have f4 := f4.drew.keep hBa
    have f4 := f4.keep hBb
    have f4 := (f4.set ⟨g8, 0, none⟩ (.bool true)).set ⟨g8, 1, none⟩ (.slice ab LQ.length cb)
    have f5 := f5.drew.keep hBa
    have f5 := f5.keep hBb
    have f5 := (f5.set ⟨g8, 0, none⟩ (.bool true)).set ⟨g8, 1, none⟩ (.slice ab LQ.length cb)
    have bA := (bA.setOther (by omega : ¬ w.heap.size = g8) 0 (.bool true)).setOther (by omega : ¬ w.heap.size = g8) 1 (.slice ab LQ.length cb)
    have bB := (bB.setOther (by omega : ¬ w.heap.size + 1 = g8) 0 (.bool true)).setOther (by omega : ¬ w.heap.size + 1 = g8) 1 (.slice ab LQ.length cb)
    have b4 := (b4.setOther (by omega : ¬ w.heap.size + 1 + 1 = g8) 0 (.bool true)).setOther (by omega : ¬ w.heap.size + 1 + 1 = g8) 1 (.slice ab LQ.length cb)
    have b5 := (b5.setOther (by omega : ¬ w.heap.size + 1 + 1 + 1 = g8) 0 (.bool true)).setOther (by omega : ¬ w.heap.size + 1 + 1 + 1 = g8) 1 (.slice ab LQ.length cb)
    have b8 := b8b.set (.bool true) (.slice ab LQ.length cb)
    have hwa : w.heap.size + 1 + 1 + 1 < wa.heap.size ∧ g8 < wa.heap.size := ⟨Nat.lt_of_lt_of_le (Nat.lt_of_lt_of_le hw1 hw13) hBa.size, b8a.1⟩
    have hO3 := (hOb.setBelow (a := ⟨g8, 0, none⟩) hwa.2 (.bool true)).setBelow (a := ⟨g8, 1, none⟩) hwa.2 (.slice ab LQ.length cb)
    have hW := hW.drew.trans (hBa.mono hW.size)
    have hW := hW.trans (hBb.mono hW.size)
    have hW : Below w.heap.size w ((wb.setCell ⟨g8, 0, none⟩ (.bool true)).setCell ⟨g8, 1, none⟩ (.slice ab LQ.length cb)) := (hW.setCell (by show _ ≤ g8; exact hgw) _).setCell (by show _ ≤ g8; exact hgw) _
    have rx := hx'.keep hW
    have ry := hy'.keep hW
    generalize (wb.setCell ⟨g8, 0, none⟩ (.bool true)).setCell ⟨g8, 1, none⟩ (.slice ab LQ.length cb) = w8 at *
    clear hBo hS4 hBa hBb b8a f8a ya0 ya1 hO3a hOa b8b f8b qb zb0 zb1 ub hOb hx' hy' k0 k1 k2 k3 k8 k9
    have hw2 := hwa.1
    obtain ⟨-, k0, k1⟩ := id bA
    obtain ⟨-, k2, k3⟩ := id bB
    obtain ⟨-, k8, k9⟩ := id b8
    go_wp2_with fail
    go_region_held3 (fun W => W.cell? ⟨w.heap.size, 0, none⟩ = some (.bool true) ∧ W.cell? ⟨w.heap.size, 1, none⟩ = some (.slice a xs.length cap) ∧ W.cell? ⟨w.heap.size + 1, 0, none⟩ = some (.bool false) ∧ W.cell? ⟨w.heap.size + 1, 1, none⟩ = some (.slice a' ys.length cap') ∧ W.cell? ⟨g8, 0, none⟩ = some (.bool true) ∧ W.cell? ⟨g8, 1, none⟩ = some (.slice ab LQ.length cb)) (go_keep) (first | (go_at_call 67; refine (hM _ _ hO3.drew.rd ry.drew).mono ?_; rintro e w4 ⟨a4, c4, rfl, hO4, hB4⟩; have bA4 := bA.drew.keep hB4; have bB4 := bB.drew.keep hB4; have b84 := b8.drew.keep hB4; have b44 := b4.drew.keep hB4; have b54 := b5.drew.keep hB4; have f44 := f4.drew.keep hB4; have f54 := f5.drew.keep hB4; have rx4 := rx.drew.keep hB4; have ry4 := ry.drew.keep hB4; obtain ⟨-, x40, x41⟩ := id bA4; obtain ⟨-, y40, y41⟩ := id bB4; obtain ⟨-, z40, z41⟩ := id b84; have hO34 := hO3.drew.keep hB4; have hW4 := hW.drew.trans (hB4.mono hW.size)) | (go_at_call 45; refine (hG2 _ _ hO4.rd).mono ?_; rintro e w5 ⟨a5, c5, rfl, hO5, hB5⟩; have bA5 := bA4.keep hB5; have bB5 := bB4.keep hB5; have b85 := b84.keep hB5; have b45 := b44.keep hB5; have b55 := b54.keep hB5; have f45 := f44.keep hB5; have f55 := f54.keep hB5; have rx5 := rx4.keep hB5; have ry5 := ry4.keep hB5; obtain ⟨-, x50, x51⟩ := id bA5; obtain ⟨-, y50, y51⟩ := id bB5; obtain ⟨-, z50, z51⟩ := id b85; have hO35 := hO34.keep hB5; have hW5 := hW4.trans (hB5.mono hW4.size)) | (go_at_call 47; refine (hMi _ _ hO5.rd).mono ?_; rintro e w6 ⟨a6, c6, rfl, hO6, hB6⟩; have bA6 := bA5.keep hB6; have bB6 := bB5.keep hB6; have b86 := b85.keep hB6; have b46 := b45.keep hB6; have b56 := b55.keep hB6; have f46 := f45.keep hB6; have f56 := f55.keep hB6; have rx6 := rx5.keep hB6; have ry6 := ry5.keep hB6; obtain ⟨-, x60, x61⟩ := id bA6; obtain ⟨-, y60, y61⟩ := id bB6; obtain ⟨-, z60, z61⟩ := id b86; have hO36 := hO35.keep hB6; have hW6 := hW5.trans (hB6.mono hW5.size)) | (go_at_call 46; refine (hS _ _ rx6 hO6.rd).mono ?_; rintro e w7 ⟨a7, c7, rfl, hO7, hB7⟩; have bA7 := bA6.keep hB7; have bB7 := bB6.keep hB7; have b87 := b86.keep hB7; have b47 := b46.keep hB7; have b57 := b56.keep hB7; have f47 := f46.keep hB7; have f57 := f56.keep hB7; have rx7 := rx6.keep hB7; have ry7 := ry6.keep hB7; obtain ⟨-, x70, x71⟩ := id bA7; obtain ⟨-, y70, y71⟩ := id bB7; obtain ⟨-, z70, z71⟩ := id b87; have hO37 := hO36.keep hB7; have hW7 := hW6.trans (hB7.mono hW6.size); obtain ⟨q4, r40, r41⟩ := id b47; obtain ⟨q5, r50, r51⟩ := id b57; obtain ⟨-, u4⟩ := id f47; obtain ⟨-, u5⟩ := id f57))
    all_goals go_wp2
    all_goals refine bodyPost_ret (v := .tuple #[.agg #[.bool true, .slice ab LQ.length cb], .agg #[.bool s7, .slice a7 LR.length c7]]) (by simp [results, Tryd.results68, go_sem, r40, r41, r50, r51, q4, q5, n10, n15]) rfl ⟨ab, cb, a7, c7, rfl, ?_, ?_, ?_⟩
    all_goals first | exact ((((hO37.setBelow (by show w.heap.size + 1 + 1 < _; omega) _).setBelow (by show w.heap.size + 1 + 1 < _; omega) _).setBelow (by show w.heap.size + 1 + 1 + 1 < _; omega) _).setBelow (by show w.heap.size + 1 + 1 + 1 < _; omega) _).mono (by omega) | exact ((((hO7.setBelow (by show w.heap.size + 1 + 1 < _; have := b46.1; omega) _).setBelow (by show w.heap.size + 1 + 1 < _; have := b46.1; omega) _).setBelow (by show w.heap.size + 1 + 1 + 1 < _; have := b56.1; omega) _).setBelow (by show w.heap.size + 1 + 1 + 1 < _; have := b56.1; omega) _).mono hW6.size | exact (((hW7.setCell (by show _ ≤ w.heap.size + 1 + 1; omega) _).setCell (by show _ ≤ w.heap.size + 1 + 1; omega) _).setCell (by show _ ≤ w.heap.size + 1 + 1 + 1; omega) _).setCell (by show _ ≤ w.heap.size + 1 + 1 + 1; omega) _)
end Go.Proofs.YtfcoffllelgakaaDoor
