import Derived.Test.YtfcoffllelgakaaDoorDivM
import Derived.Test.YtfcoffllelgakaaDoorCmpR
import Derived.Test.YtfcoffllelgakaaDoorCut
import Derived.Deep.RegionHeld3
namespace Go.Proofs.YtfcoffllelgakaaDoor
open Go.RowKit
set_option linter.unusedVariables false
set_option linter.unusedSimpArgs false

theorem Unf.set {w : World} {b : Nat} (h : Unf w b) (a : Addr) (u : Value) : Unf (w.setCell a u) b := ⟨by simpa [World.setCell] using h.1, fun o => (World.frozen?_setCell _ _ _ _).trans (h.2 o)⟩
theorem Box.setOther {w : World} {b c : Nat} {x y : Value} (h : Box w b x y) (hne : ¬ b = c) (o : Nat) (u : Value) : Box (w.setCell ⟨c, o, none⟩ u) b x y := h.but (gb_set w c o u) (fun e => hne (by simpa using e))

/-- The quotient toward below, and its rest, without their signs. -/
def flQ (p : Bool) (X : Nat) (t : Bool) (Y : Nat) : Nat := if p ≠ t ∧ X % Y ≠ 0 then X / Y + 1 else X / Y
def flR (p : Bool) (X : Nat) (t : Bool) (Y : Nat) : Nat := if p ≠ t ∧ X % Y ≠ 0 then Y - X % Y else X % Y

theorem nz_pos {b : Bool} {n : Nat} (h : 0 < n) : nz b n = b := by unfold nz; rw [decide_eq_true h, Bool.and_true]
theorem nz_zero (b : Bool) : nz b 0 = false := by unfold nz; simp
theorem xor_back (p t : Bool) : ((p != t) != t) = p := by cases p <;> cases t <;> rfl
/-- What is left of a number behind its quotient toward below. -/
theorem floor_rest (p : Bool) (X : Nat) (t : Bool) (Y : Nat) (hY : 0 < Y) :
    (sumR p X (nz (!(nz (nz (p != t) (flQ p X t Y) != t) (flQ p X t Y * Y))) (flQ p X t Y * Y)) (flQ p X t Y * Y)).2 = flR p X t Y ∧
    nz (sumR p X (nz (!(nz (nz (p != t) (flQ p X t Y) != t) (flQ p X t Y * Y))) (flQ p X t Y * Y)) (flQ p X t Y * Y)).1 (flR p X t Y) = nz t (flR p X t Y) := by
  rw [sumR_nz]
  have hdm := Nat.div_add_mod X Y
  have hml := Nat.mod_lt X hY
  have hcm : Y * (X / Y) = X / Y * Y := Nat.mul_comm _ _
  by_cases hadj : p ≠ t ∧ X % Y ≠ 0
  · have eQ : flQ p X t Y = X / Y + 1 := if_pos hadj
    have eR : flR p X t Y = Y - X % Y := if_pos hadj
    rw [eQ, eR]
    have hM : 0 < (X / Y + 1) * Y := Nat.mul_pos (Nat.succ_pos _) hY
    rw [nz_pos (Nat.succ_pos (X / Y)), xor_back, nz_pos hM]
    have hM2 : (X / Y + 1) * Y = X / Y * Y + Y := Nat.succ_mul _ _
    have hlt : X < (X / Y + 1) * Y := by omega
    rw [sumR_lt (by cases p <;> simp) hlt]
    refine ⟨by show _ - _ = _; omega, ?_⟩
    have : (!p) = t := by revert hadj; cases p <;> cases t <;> simp
    rw [this]
  · have eQ : flQ p X t Y = X / Y := if_neg hadj
    have eR : flR p X t Y = X % Y := if_neg hadj
    rw [eQ, eR]
    have hle : X / Y * Y ≤ X := Nat.div_mul_le_self X Y
    have key : sumR p X (!(nz (nz (p != t) (X / Y) != t) (X / Y * Y))) (X / Y * Y) = (p, X - X / Y * Y) := by
      by_cases h0 : X / Y = 0
      · rw [h0, Nat.zero_mul, nz_zero]
        cases p
        · rw [sumR_ge (by simp) (Nat.zero_le _)]
        · show sumR true X true 0 = _
          rw [sumR_same]; simp
      · have hM : 0 < X / Y * Y := Nat.mul_pos (by omega) hY
        rw [nz_pos (by omega : 0 < X / Y), xor_back, nz_pos hM, sumR_ge (by cases p <;> simp) hle]
    rw [key]
    refine ⟨by show _ - _ = _; omega, ?_⟩
    by_cases hp : p = t
    · rw [hp]
    · have h0 : X % Y = 0 := by
        rcases Nat.eq_zero_or_pos (X % Y) with h | h
        · exact h
        · exact absurd ⟨hp, by omega⟩ hadj
      rw [h0, nz_zero, nz_zero]

set_option maxHeartbeats 2000000 in
set_option maxRecDepth 100000 in
theorem l1Floor_plain (p t : Bool) (v u : Value) (xs ys : List Int) (w : World) (hx : Rd w v xs) (hy : Rd w u ys) (nx : Norm xs) (ny : Norm ys) (hlx : xs.length ≤ 400000) (hly : ys.length ≤ 400000) (hpos : 0 < val ys) (hadj : ¬ (p ≠ t ∧ val xs % val ys ≠ 0)) :
    Calls Tryd.prog 68 #[.agg #[.bool p, v], .agg #[.bool t, u]] w fun e w' => ∃ a c a' c', e = .returned (.tuple #[.agg #[.bool (nz (p != t) (flQ p (val xs) t (val ys))), .slice a (lim (flQ p (val xs) t (val ys))).length c], .agg #[.bool (nz t (flR p (val xs) t (val ys))), .slice a' (lim (flR p (val xs) t (val ys))).length c']]) ∧ Own w' w.heap.size (.slice a (lim (flQ p (val xs) t (val ys))).length c) (lim (flQ p (val xs) t (val ys))) ∧ Own w' w.heap.size (.slice a' (lim (flR p (val xs) t (val ys))).length c') (lim (flR p (val xs) t (val ys))) ∧ Below w.heap.size w w' := by
  have hx' := hx
  have hy' := hy
  obtain ⟨a, cap, rfl, _, hzx, hnx, hcx⟩ := hx
  obtain ⟨a', cap', rfl, _, hzy, hny, hcy⟩ := hy
  clear hcx hcy hnx hny
  obtain ⟨w0, hw0⟩ : ∃ w0, w0 = (((w.alloc (Obj.cells #[.bool p, .slice a xs.length cap] 29)).alloc (Obj.cells #[.bool t, .slice a' ys.length cap'] 29)).alloc (Obj.cells #[.bool false, .slice none 0 0] 29)).alloc (Obj.cells #[.bool false, .slice none 0 0] 29) := ⟨_, rfl⟩
  have bA : Box w0 w.heap.size (.bool p) (.slice a xs.length cap) := by rw [hw0]; exact (((Box.new w _ _ 29).alloc _).alloc _).alloc _
  have bB : Box w0 (w.heap.size + 1) (.bool t) (.slice a' ys.length cap') := by rw [hw0]; have := ((Box.new (w.alloc (Obj.cells #[.bool p, .slice a xs.length cap] 29)) (.bool t) (.slice a' ys.length cap') 29).alloc (Obj.cells #[.bool false, .slice none 0 0] 29)).alloc (Obj.cells #[.bool false, .slice none 0 0] 29); simpa only [World.size_alloc] using this
  have b4 : Box w0 (w.heap.size + 1 + 1) (.bool false) (.slice none 0 0) := by rw [hw0]; have := (Box.new ((w.alloc (Obj.cells #[.bool p, .slice a xs.length cap] 29)).alloc (Obj.cells #[.bool t, .slice a' ys.length cap'] 29)) (.bool false) (.slice none 0 0) 29).alloc (Obj.cells #[.bool false, .slice none 0 0] 29); simpa only [World.size_alloc] using this
  have b5 : Box w0 (w.heap.size + 1 + 1 + 1) (.bool false) (.slice none 0 0) := by rw [hw0]; have := (Box.new (((w.alloc (Obj.cells #[.bool p, .slice a xs.length cap] 29)).alloc (Obj.cells #[.bool t, .slice a' ys.length cap'] 29)).alloc (Obj.cells #[.bool false, .slice none 0 0] 29)) (.bool false) (.slice none 0 0) 29); simpa only [World.size_alloc] using this
  have f4 : Unf w0 (w.heap.size + 1 + 1) := by rw [hw0]; have := (Unf.new ((w.alloc (Obj.cells #[.bool p, .slice a xs.length cap] 29)).alloc (Obj.cells #[.bool t, .slice a' ys.length cap'] 29)) #[.bool false, .slice none 0 0] 29).keep ((Below.refl _ _).alloc (Nat.le_refl _) (Obj.cells #[.bool false, .slice none 0 0] 29)); simpa only [World.size_alloc] using this
  have f5 : Unf w0 (w.heap.size + 1 + 1 + 1) := by rw [hw0]; have := (Unf.new (((w.alloc (Obj.cells #[.bool p, .slice a xs.length cap] 29)).alloc (Obj.cells #[.bool t, .slice a' ys.length cap'] 29)).alloc (Obj.cells #[.bool false, .slice none 0 0] 29)) #[.bool false, .slice none 0 0] 29); simpa only [World.size_alloc] using this
  have rx : Rd w0 (.slice a xs.length cap) xs := by rw [hw0]; exact (((hx'.alloc _).alloc _).alloc _).alloc _
  have ry : Rd w0 (.slice a' ys.length cap') ys := by rw [hw0]; exact (((hy'.alloc _).alloc _).alloc _).alloc _
  have hW : Below w.heap.size w w0 := by rw [hw0]; exact ((((Below.refl w.heap.size w).alloc (Nat.le_refl _) _).alloc (by simp) _).alloc (by simp; omega) _).alloc (by simp; omega) _
  have HW0 : Hid _ := hw0
  clear hw0
  have hD := fun W h1 h2 => divMag_any (.slice a xs.length cap) (.slice a' ys.length cap') xs ys W h1 h2 nx ny (by omega) (by omega) hpos
  have hG := fun W v h => l1Big_lim (p != t) v (val xs / val ys) W h
  have hfr := floor_rest p (val xs) t (val ys) hpos
  -- the last region's calls
  obtain ⟨Qn, hQn⟩ : ∃ Qn, Qn = flQ p (val xs) t (val ys) := ⟨_, rfl⟩
  obtain ⟨Rn, hRn⟩ : ∃ Rn, Rn = flR p (val xs) t (val ys) := ⟨_, rfl⟩
  have hQle : Qn ≤ val xs + 1 := by
    have := Nat.div_le_self (val xs) (val ys)
    rw [hQn]; unfold flQ; split <;> omega
  have hQlen : (lim Qn).length ≤ xs.length + 1 := by
    refine lim_length_le ?_
    have h1 := val_lt hzx
    rw [Nat.pow_succ]
    have h2 : 0 < 4294967296 ^ xs.length := Nat.pow_pos (by decide)
    omega
  rw [← hQn, ← hRn] at hfr ⊢
  obtain ⟨s8, hs8⟩ : ∃ s8, s8 = nz (p != t) Qn := ⟨_, rfl⟩
  rw [← hs8] at hfr ⊢
  have hM := fun W v h1 h2 => mulMag_any v (.slice a' ys.length cap') (lim Qn) ys W h1 h2 (by omega) (by omega)
  rw [val_lim] at hM
  have hMlen : (lim (Qn * val ys)).length ≤ xs.length + 1 + ys.length := by
    refine lim_length_le ?_
    have h1 := val_lt (lim_limbs Qn)
    rw [val_lim] at h1
    have h2 : Qn < 4294967296 ^ (xs.length + 1) := Nat.lt_of_lt_of_le h1 (Nat.pow_le_pow_right (by decide) hQlen)
    rw [Nat.pow_add]
    exact Nat.mul_lt_mul'' h2 (val_lt hzy)
  have hG2 := fun W v h => l1Big_lim (s8 != t) v (Qn * val ys) W h
  have hMi := fun W v h => l1Minus_any (nz (s8 != t) (Qn * val ys)) v (lim (Qn * val ys)) W h
  rw [val_lim] at hMi
  have hS := fun W v h1 h2 => l1Sum_any p (nz (!(nz (s8 != t) (Qn * val ys))) (Qn * val ys)) (.slice a xs.length cap) v xs (lim (Qn * val ys)) W h1 h2 nx (lim_norm _) (by omega) (by omega)
  rw [val_lim, hfr.1, hfr.2] at hS
  generalize nz (!(nz (s8 != t) (Qn * val ys))) (Qn * val ys) = s6 at hMi hS
  generalize nz (s8 != t) (Qn * val ys) = s5 at hG2 hMi
  generalize lim (Qn * val ys) = LM at hM hG2 hMi hS
  generalize nz t Rn = s7 at hS ⊢
  clear hfr hQle hMlen
  have eQ : Qn = val xs / val ys := by rw [hQn]; exact if_neg hadj
  rw [← eQ] at hD hG
  rw [← hs8] at hG
  have hLR : p ≠ t → lim (val xs % val ys) = [] := fun h => by
    rw [lim_eq_nil]
    rcases Nat.eq_zero_or_pos (val xs % val ys) with h1 | h1
    · exact h1
    · exact absurd ⟨h, by omega⟩ hadj
  generalize lim (val xs % val ys) = LD at hD hLR
  generalize hLRn : lim Rn = LR at hS ⊢
  generalize hLQ : lim Qn = LQ at hD hG hM hQlen ⊢
  clear hQn hRn eQ hs8 hLRn hLQ hadj hzx hzy nx ny hpos hx' hy'
  by_cases hpt : p = t
  · subst hpt
    have hpp : (p != p) = false := by simp
    rw [hpp] at hG
    clear hLR
    go_enter Tryd.func68, Tryd.ntmps68
    go_wp2_with fail
    rw [← HW0.out]
    refine (hD _ rx ry).mono ?_
    rintro e w1 ⟨a1, c1, a2, c2, rfl, hO1, hO2, hB1⟩
    clear hD HW0 hO2
    replace bA := bA.keep hB1
    replace bB := bB.keep hB1
    replace b4 := b4.keep hB1
    replace b5 := b5.keep hB1
    replace f4 := f4.keep hB1
    replace f5 := f5.keep hB1
    replace rx := rx.keep hB1
    replace ry := ry.keep hB1
    replace hW := hW.trans (hB1.mono hW.size)
    obtain ⟨-, k0, k1⟩ := id bA
    obtain ⟨-, k2, k3⟩ := id bB
    go_wp2_with fail
    refine (hG _ _ hO1.rd).mono ?_
    rintro e w2 ⟨a3, c3, rfl, hO3, hB2⟩
    have hw1 : w.heap.size + 1 + 1 + 1 < w1.heap.size := b5.1
    clear hG k0 k1 k2 k3 hO1
    replace bA := bA.keep hB2
    replace bB := bB.keep hB2
    replace b4 := b4.keep hB2
    replace b5 := b5.keep hB2
    replace f4 := f4.keep hB2
    replace f5 := f5.keep hB2
    replace rx := rx.keep hB2
    replace ry := ry.keep hB2
    replace hW := hW.trans (hB2.mono hW.size)
    have hlt2 : w.heap.size + 1 + 1 + 1 < w2.heap.size := b5.1
    have b8 := Box.new w2 (.bool s8) (.slice a3 LQ.length c3) 29
    replace hO3 := hO3.alloc (Obj.cells #[.bool s8, .slice a3 LQ.length c3] 29)
    replace bA := bA.alloc (Obj.cells #[.bool s8, .slice a3 LQ.length c3] 29)
    replace bB := bB.alloc (Obj.cells #[.bool s8, .slice a3 LQ.length c3] 29)
    replace b4 := b4.alloc (Obj.cells #[.bool s8, .slice a3 LQ.length c3] 29)
    replace b5 := b5.alloc (Obj.cells #[.bool s8, .slice a3 LQ.length c3] 29)
    replace rx := rx.alloc (Obj.cells #[.bool s8, .slice a3 LQ.length c3] 29)
    replace ry := ry.alloc (Obj.cells #[.bool s8, .slice a3 LQ.length c3] 29)
    replace f4 := f4.keep ((Below.refl _ _).alloc (Nat.le_refl _) (Obj.cells #[.bool s8, .slice a3 LQ.length c3] 29))
    replace f5 := f5.keep ((Below.refl _ _).alloc (Nat.le_refl _) (Obj.cells #[.bool s8, .slice a3 LQ.length c3] 29))
    replace hW := hW.alloc hW.size (Obj.cells #[.bool s8, .slice a3 LQ.length c3] 29)
    obtain ⟨-, k0, k1⟩ := id bA
    obtain ⟨-, k2, k3⟩ := id bB
    obtain ⟨-, k8, k9⟩ := id b8
    go_wp2_with fail
    obtain ⟨g8, hg8⟩ : ∃ g8, g8 = w2.heap.size := ⟨_, rfl⟩
    rw [← hg8] at b8 k8 k9 ⊢
    generalize w2.alloc (Obj.cells #[.bool s8, .slice a3 LQ.length c3] 29) = w3 at *
    have n0 : ¬ w.heap.size = w.heap.size + 1 := by omega
    have n1 : ¬ w.heap.size = w.heap.size + 1 + 1 := by omega
    have n2 : ¬ w.heap.size = w.heap.size + 1 + 1 + 1 := by omega
    have n3 : ¬ w.heap.size = g8 := by omega
    have n4 : ¬ w.heap.size + 1 = w.heap.size := by omega
    have n5 : ¬ w.heap.size + 1 = w.heap.size + 1 + 1 := by omega
    have n6 : ¬ w.heap.size + 1 = w.heap.size + 1 + 1 + 1 := by omega
    have n7 : ¬ w.heap.size + 1 = g8 := by omega
    have n8 : ¬ w.heap.size + 1 + 1 = w.heap.size := by omega
    have n9 : ¬ w.heap.size + 1 + 1 = w.heap.size + 1 := by omega
    have n10 : ¬ w.heap.size + 1 + 1 = w.heap.size + 1 + 1 + 1 := by omega
    have n11 : ¬ w.heap.size + 1 + 1 = g8 := by omega
    have n12 : ¬ w.heap.size + 1 + 1 + 1 = w.heap.size := by omega
    have n13 : ¬ w.heap.size + 1 + 1 + 1 = w.heap.size + 1 := by omega
    have n14 : ¬ w.heap.size + 1 + 1 + 1 = w.heap.size + 1 + 1 := by omega
    have n15 : ¬ w.heap.size + 1 + 1 + 1 = g8 := by omega
    have n16 : ¬ g8 = w.heap.size := by omega
    have n17 : ¬ g8 = w.heap.size + 1 := by omega
    have n18 : ¬ g8 = w.heap.size + 1 + 1 := by omega
    have n19 : ¬ g8 = w.heap.size + 1 + 1 + 1 := by omega
    have HG8 : Hid _ := hg8
    clear hg8 hlt2
    go_region_held3 (fun W => W.cell? ⟨w.heap.size, 0, none⟩ = some (.bool p) ∧ W.cell? ⟨w.heap.size, 1, none⟩ = some (.slice a xs.length cap) ∧ W.cell? ⟨w.heap.size + 1, 0, none⟩ = some (.bool p) ∧ W.cell? ⟨w.heap.size + 1, 1, none⟩ = some (.slice a' ys.length cap') ∧ W.cell? ⟨g8, 0, none⟩ = some (.bool s8) ∧ W.cell? ⟨g8, 1, none⟩ = some (.slice a3 LQ.length c3)) (go_keep) (first | (go_at_call 67; refine (hM _ _ hO3.drew.rd ry.drew).mono ?_; rintro e w4 ⟨a4, c4, rfl, hO4, hB4⟩; have bA4 := bA.drew.keep hB4; have bB4 := bB.drew.keep hB4; have b84 := b8.drew.keep hB4; have b44 := b4.drew.keep hB4; have b54 := b5.drew.keep hB4; have f44 := f4.drew.keep hB4; have f54 := f5.drew.keep hB4; have rx4 := rx.drew.keep hB4; have ry4 := ry.drew.keep hB4; obtain ⟨-, x40, x41⟩ := id bA4; obtain ⟨-, y40, y41⟩ := id bB4; obtain ⟨-, z40, z41⟩ := id b84; have hO34 := hO3.drew.keep hB4; have hW4 := hW.drew.trans (hB4.mono hW.size)) | (go_at_call 45; refine (hG2 _ _ hO4.rd).mono ?_; rintro e w5 ⟨a5, c5, rfl, hO5, hB5⟩; have bA5 := bA4.keep hB5; have bB5 := bB4.keep hB5; have b85 := b84.keep hB5; have b45 := b44.keep hB5; have b55 := b54.keep hB5; have f45 := f44.keep hB5; have f55 := f54.keep hB5; have rx5 := rx4.keep hB5; have ry5 := ry4.keep hB5; obtain ⟨-, x50, x51⟩ := id bA5; obtain ⟨-, y50, y51⟩ := id bB5; obtain ⟨-, z50, z51⟩ := id b85; have hO35 := hO34.keep hB5; have hW5 := hW4.trans (hB5.mono hW4.size)) | (go_at_call 47; refine (hMi _ _ hO5.rd).mono ?_; rintro e w6 ⟨a6, c6, rfl, hO6, hB6⟩; have bA6 := bA5.keep hB6; have bB6 := bB5.keep hB6; have b86 := b85.keep hB6; have b46 := b45.keep hB6; have b56 := b55.keep hB6; have f46 := f45.keep hB6; have f56 := f55.keep hB6; have rx6 := rx5.keep hB6; have ry6 := ry5.keep hB6; obtain ⟨-, x60, x61⟩ := id bA6; obtain ⟨-, y60, y61⟩ := id bB6; obtain ⟨-, z60, z61⟩ := id b86; have hO36 := hO35.keep hB6; have hW6 := hW5.trans (hB6.mono hW5.size)) | (go_at_call 46; refine (hS _ _ rx6 hO6.rd).mono ?_; rintro e w7 ⟨a7, c7, rfl, hO7, hB7⟩; have bA7 := bA6.keep hB7; have bB7 := bB6.keep hB7; have b87 := b86.keep hB7; have b47 := b46.keep hB7; have b57 := b56.keep hB7; have f47 := f46.keep hB7; have f57 := f56.keep hB7; have rx7 := rx6.keep hB7; have ry7 := ry6.keep hB7; obtain ⟨-, x70, x71⟩ := id bA7; obtain ⟨-, y70, y71⟩ := id bB7; obtain ⟨-, z70, z71⟩ := id b87; have hO37 := hO36.keep hB7; have hW7 := hW6.trans (hB7.mono hW6.size); obtain ⟨q4, r40, r41⟩ := id b47; obtain ⟨q5, r50, r51⟩ := id b57; obtain ⟨-, u4⟩ := id f47; obtain ⟨-, u5⟩ := id f57))
    all_goals go_wp2
    all_goals refine bodyPost_ret (v := .tuple #[.agg #[.bool s8, .slice a3 LQ.length c3], .agg #[.bool s7, .slice a7 LR.length c7]]) (by simp [results, Tryd.results68, go_sem, r40, r41, r50, r51, q4, q5, n10, n15]) rfl ⟨a3, c3, a7, c7, rfl, ?_, ?_, ?_⟩
    all_goals first | exact ((((hO37.setBelow (by show w.heap.size + 1 + 1 < _; omega) _).setBelow (by show w.heap.size + 1 + 1 < _; omega) _).setBelow (by show w.heap.size + 1 + 1 + 1 < _; omega) _).setBelow (by show w.heap.size + 1 + 1 + 1 < _; omega) _).mono (by omega) | exact ((((hO7.setBelow (by show w.heap.size + 1 + 1 < _; have := b46.1; omega) _).setBelow (by show w.heap.size + 1 + 1 < _; have := b46.1; omega) _).setBelow (by show w.heap.size + 1 + 1 + 1 < _; have := b56.1; omega) _).setBelow (by show w.heap.size + 1 + 1 + 1 < _; have := b56.1; omega) _).mono hW6.size | exact (((hW7.setCell (by show _ ≤ w.heap.size + 1 + 1; omega) _).setCell (by show _ ≤ w.heap.size + 1 + 1; omega) _).setCell (by show _ ≤ w.heap.size + 1 + 1 + 1; omega) _).setCell (by show _ ≤ w.heap.size + 1 + 1 + 1; omega) _
  · have hL0 := hLR hpt
    subst hL0
    clear hLR
    have hpt2 : (p = true ∧ t = false) ∨ (p = false ∧ t = true) := by revert hpt; cases p <;> cases t <;> simp
    clear hpt
    rcases hpt2 with ⟨rfl, rfl⟩ | ⟨rfl, rfl⟩
    · rw [show (s8 != false) = s8 from by cases s8 <;> rfl] at hG2
      go_enter Tryd.func68, Tryd.ntmps68
      go_wp2_with fail
      rw [← HW0.out]
      refine (hD _ rx ry).mono ?_
      rintro e w1 ⟨a1, c1, a2, c2, rfl, hO1, hO2, hB1⟩
      clear hD HW0 hO2
      replace bA := bA.keep hB1
      replace bB := bB.keep hB1
      replace b4 := b4.keep hB1
      replace b5 := b5.keep hB1
      replace f4 := f4.keep hB1
      replace f5 := f5.keep hB1
      replace rx := rx.keep hB1
      replace ry := ry.keep hB1
      replace hW := hW.trans (hB1.mono hW.size)
      obtain ⟨-, k0, k1⟩ := id bA
      obtain ⟨-, k2, k3⟩ := id bB
      go_wp2_with fail
      refine (hG _ _ hO1.rd).mono ?_
      rintro e w2 ⟨a3, c3, rfl, hO3, hB2⟩
      have hw1 : w.heap.size + 1 + 1 + 1 < w1.heap.size := b5.1
      clear hG k0 k1 k2 k3 hO1
      replace bA := bA.keep hB2
      replace bB := bB.keep hB2
      replace b4 := b4.keep hB2
      replace b5 := b5.keep hB2
      replace f4 := f4.keep hB2
      replace f5 := f5.keep hB2
      replace rx := rx.keep hB2
      replace ry := ry.keep hB2
      replace hW := hW.trans (hB2.mono hW.size)
      have hlt2 : w.heap.size + 1 + 1 + 1 < w2.heap.size := b5.1
      have b8 := Box.new w2 (.bool s8) (.slice a3 LQ.length c3) 29
      replace hO3 := hO3.alloc (Obj.cells #[.bool s8, .slice a3 LQ.length c3] 29)
      replace bA := bA.alloc (Obj.cells #[.bool s8, .slice a3 LQ.length c3] 29)
      replace bB := bB.alloc (Obj.cells #[.bool s8, .slice a3 LQ.length c3] 29)
      replace b4 := b4.alloc (Obj.cells #[.bool s8, .slice a3 LQ.length c3] 29)
      replace b5 := b5.alloc (Obj.cells #[.bool s8, .slice a3 LQ.length c3] 29)
      replace rx := rx.alloc (Obj.cells #[.bool s8, .slice a3 LQ.length c3] 29)
      replace ry := ry.alloc (Obj.cells #[.bool s8, .slice a3 LQ.length c3] 29)
      replace f4 := f4.keep ((Below.refl _ _).alloc (Nat.le_refl _) (Obj.cells #[.bool s8, .slice a3 LQ.length c3] 29))
      replace f5 := f5.keep ((Below.refl _ _).alloc (Nat.le_refl _) (Obj.cells #[.bool s8, .slice a3 LQ.length c3] 29))
      replace hW := hW.alloc hW.size (Obj.cells #[.bool s8, .slice a3 LQ.length c3] 29)
      obtain ⟨-, k0, k1⟩ := id bA
      obtain ⟨-, k2, k3⟩ := id bB
      obtain ⟨-, k8, k9⟩ := id b8
      go_wp2_with fail
      obtain ⟨g8, hg8⟩ : ∃ g8, g8 = w2.heap.size := ⟨_, rfl⟩
      rw [← hg8] at b8 k8 k9 ⊢
      generalize w2.alloc (Obj.cells #[.bool s8, .slice a3 LQ.length c3] 29) = w3 at *
      have n0 : ¬ w.heap.size = w.heap.size + 1 := by omega
      have n1 : ¬ w.heap.size = w.heap.size + 1 + 1 := by omega
      have n2 : ¬ w.heap.size = w.heap.size + 1 + 1 + 1 := by omega
      have n3 : ¬ w.heap.size = g8 := by omega
      have n4 : ¬ w.heap.size + 1 = w.heap.size := by omega
      have n5 : ¬ w.heap.size + 1 = w.heap.size + 1 + 1 := by omega
      have n6 : ¬ w.heap.size + 1 = w.heap.size + 1 + 1 + 1 := by omega
      have n7 : ¬ w.heap.size + 1 = g8 := by omega
      have n8 : ¬ w.heap.size + 1 + 1 = w.heap.size := by omega
      have n9 : ¬ w.heap.size + 1 + 1 = w.heap.size + 1 := by omega
      have n10 : ¬ w.heap.size + 1 + 1 = w.heap.size + 1 + 1 + 1 := by omega
      have n11 : ¬ w.heap.size + 1 + 1 = g8 := by omega
      have n12 : ¬ w.heap.size + 1 + 1 + 1 = w.heap.size := by omega
      have n13 : ¬ w.heap.size + 1 + 1 + 1 = w.heap.size + 1 := by omega
      have n14 : ¬ w.heap.size + 1 + 1 + 1 = w.heap.size + 1 + 1 := by omega
      have n15 : ¬ w.heap.size + 1 + 1 + 1 = g8 := by omega
      have n16 : ¬ g8 = w.heap.size := by omega
      have n17 : ¬ g8 = w.heap.size + 1 := by omega
      have n18 : ¬ g8 = w.heap.size + 1 + 1 := by omega
      have n19 : ¬ g8 = w.heap.size + 1 + 1 + 1 := by omega
      have HG8 : Hid _ := hg8
      clear hg8 hlt2
      go_region_held3 (fun W => W.cell? ⟨w.heap.size, 0, none⟩ = some (.bool true) ∧ W.cell? ⟨w.heap.size, 1, none⟩ = some (.slice a xs.length cap) ∧ W.cell? ⟨w.heap.size + 1, 0, none⟩ = some (.bool false) ∧ W.cell? ⟨w.heap.size + 1, 1, none⟩ = some (.slice a' ys.length cap') ∧ W.cell? ⟨g8, 0, none⟩ = some (.bool s8) ∧ W.cell? ⟨g8, 1, none⟩ = some (.slice a3 LQ.length c3)) (go_keep) (first | (go_at_call 67; refine (hM _ _ hO3.drew.rd ry.drew).mono ?_; rintro e w4 ⟨a4, c4, rfl, hO4, hB4⟩; have bA4 := bA.drew.keep hB4; have bB4 := bB.drew.keep hB4; have b84 := b8.drew.keep hB4; have b44 := b4.drew.keep hB4; have b54 := b5.drew.keep hB4; have f44 := f4.drew.keep hB4; have f54 := f5.drew.keep hB4; have rx4 := rx.drew.keep hB4; have ry4 := ry.drew.keep hB4; obtain ⟨-, x40, x41⟩ := id bA4; obtain ⟨-, y40, y41⟩ := id bB4; obtain ⟨-, z40, z41⟩ := id b84; have hO34 := hO3.drew.keep hB4; have hW4 := hW.drew.trans (hB4.mono hW.size)) | (go_at_call 45; refine (hG2 _ _ hO4.rd).mono ?_; rintro e w5 ⟨a5, c5, rfl, hO5, hB5⟩; have bA5 := bA4.keep hB5; have bB5 := bB4.keep hB5; have b85 := b84.keep hB5; have b45 := b44.keep hB5; have b55 := b54.keep hB5; have f45 := f44.keep hB5; have f55 := f54.keep hB5; have rx5 := rx4.keep hB5; have ry5 := ry4.keep hB5; obtain ⟨-, x50, x51⟩ := id bA5; obtain ⟨-, y50, y51⟩ := id bB5; obtain ⟨-, z50, z51⟩ := id b85; have hO35 := hO34.keep hB5; have hW5 := hW4.trans (hB5.mono hW4.size)) | (go_at_call 47; refine (hMi _ _ hO5.rd).mono ?_; rintro e w6 ⟨a6, c6, rfl, hO6, hB6⟩; have bA6 := bA5.keep hB6; have bB6 := bB5.keep hB6; have b86 := b85.keep hB6; have b46 := b45.keep hB6; have b56 := b55.keep hB6; have f46 := f45.keep hB6; have f56 := f55.keep hB6; have rx6 := rx5.keep hB6; have ry6 := ry5.keep hB6; obtain ⟨-, x60, x61⟩ := id bA6; obtain ⟨-, y60, y61⟩ := id bB6; obtain ⟨-, z60, z61⟩ := id b86; have hO36 := hO35.keep hB6; have hW6 := hW5.trans (hB6.mono hW5.size)) | (go_at_call 46; refine (hS _ _ rx6 hO6.rd).mono ?_; rintro e w7 ⟨a7, c7, rfl, hO7, hB7⟩; have bA7 := bA6.keep hB7; have bB7 := bB6.keep hB7; have b87 := b86.keep hB7; have b47 := b46.keep hB7; have b57 := b56.keep hB7; have f47 := f46.keep hB7; have f57 := f56.keep hB7; have rx7 := rx6.keep hB7; have ry7 := ry6.keep hB7; obtain ⟨-, x70, x71⟩ := id bA7; obtain ⟨-, y70, y71⟩ := id bB7; obtain ⟨-, z70, z71⟩ := id b87; have hO37 := hO36.keep hB7; have hW7 := hW6.trans (hB7.mono hW6.size); obtain ⟨q4, r40, r41⟩ := id b47; obtain ⟨q5, r50, r51⟩ := id b57; obtain ⟨-, u4⟩ := id f47; obtain ⟨-, u5⟩ := id f57))
      all_goals go_wp2
      all_goals refine bodyPost_ret (v := .tuple #[.agg #[.bool s8, .slice a3 LQ.length c3], .agg #[.bool s7, .slice a7 LR.length c7]]) (by simp [results, Tryd.results68, go_sem, r40, r41, r50, r51, q4, q5, n10, n15]) rfl ⟨a3, c3, a7, c7, rfl, ?_, ?_, ?_⟩
      all_goals first | exact ((((hO37.setBelow (by show w.heap.size + 1 + 1 < _; omega) _).setBelow (by show w.heap.size + 1 + 1 < _; omega) _).setBelow (by show w.heap.size + 1 + 1 + 1 < _; omega) _).setBelow (by show w.heap.size + 1 + 1 + 1 < _; omega) _).mono (by omega) | exact ((((hO7.setBelow (by show w.heap.size + 1 + 1 < _; have := b46.1; omega) _).setBelow (by show w.heap.size + 1 + 1 < _; have := b46.1; omega) _).setBelow (by show w.heap.size + 1 + 1 + 1 < _; have := b56.1; omega) _).setBelow (by show w.heap.size + 1 + 1 + 1 < _; have := b56.1; omega) _).mono hW6.size | exact (((hW7.setCell (by show _ ≤ w.heap.size + 1 + 1; omega) _).setCell (by show _ ≤ w.heap.size + 1 + 1; omega) _).setCell (by show _ ≤ w.heap.size + 1 + 1 + 1; omega) _).setCell (by show _ ≤ w.heap.size + 1 + 1 + 1; omega) _
    · rw [show (s8 != true) = !s8 from by cases s8 <;> rfl] at hG2
      go_enter Tryd.func68, Tryd.ntmps68
      go_wp2_with fail
      rw [← HW0.out]
      refine (hD _ rx ry).mono ?_
      rintro e w1 ⟨a1, c1, a2, c2, rfl, hO1, hO2, hB1⟩
      clear hD HW0 hO2
      replace bA := bA.keep hB1
      replace bB := bB.keep hB1
      replace b4 := b4.keep hB1
      replace b5 := b5.keep hB1
      replace f4 := f4.keep hB1
      replace f5 := f5.keep hB1
      replace rx := rx.keep hB1
      replace ry := ry.keep hB1
      replace hW := hW.trans (hB1.mono hW.size)
      obtain ⟨-, k0, k1⟩ := id bA
      obtain ⟨-, k2, k3⟩ := id bB
      go_wp2_with fail
      refine (hG _ _ hO1.rd).mono ?_
      rintro e w2 ⟨a3, c3, rfl, hO3, hB2⟩
      have hw1 : w.heap.size + 1 + 1 + 1 < w1.heap.size := b5.1
      clear hG k0 k1 k2 k3 hO1
      replace bA := bA.keep hB2
      replace bB := bB.keep hB2
      replace b4 := b4.keep hB2
      replace b5 := b5.keep hB2
      replace f4 := f4.keep hB2
      replace f5 := f5.keep hB2
      replace rx := rx.keep hB2
      replace ry := ry.keep hB2
      replace hW := hW.trans (hB2.mono hW.size)
      have hlt2 : w.heap.size + 1 + 1 + 1 < w2.heap.size := b5.1
      have b8 := Box.new w2 (.bool s8) (.slice a3 LQ.length c3) 29
      replace hO3 := hO3.alloc (Obj.cells #[.bool s8, .slice a3 LQ.length c3] 29)
      replace bA := bA.alloc (Obj.cells #[.bool s8, .slice a3 LQ.length c3] 29)
      replace bB := bB.alloc (Obj.cells #[.bool s8, .slice a3 LQ.length c3] 29)
      replace b4 := b4.alloc (Obj.cells #[.bool s8, .slice a3 LQ.length c3] 29)
      replace b5 := b5.alloc (Obj.cells #[.bool s8, .slice a3 LQ.length c3] 29)
      replace rx := rx.alloc (Obj.cells #[.bool s8, .slice a3 LQ.length c3] 29)
      replace ry := ry.alloc (Obj.cells #[.bool s8, .slice a3 LQ.length c3] 29)
      replace f4 := f4.keep ((Below.refl _ _).alloc (Nat.le_refl _) (Obj.cells #[.bool s8, .slice a3 LQ.length c3] 29))
      replace f5 := f5.keep ((Below.refl _ _).alloc (Nat.le_refl _) (Obj.cells #[.bool s8, .slice a3 LQ.length c3] 29))
      replace hW := hW.alloc hW.size (Obj.cells #[.bool s8, .slice a3 LQ.length c3] 29)
      obtain ⟨-, k0, k1⟩ := id bA
      obtain ⟨-, k2, k3⟩ := id bB
      obtain ⟨-, k8, k9⟩ := id b8
      go_wp2_with fail
      obtain ⟨g8, hg8⟩ : ∃ g8, g8 = w2.heap.size := ⟨_, rfl⟩
      rw [← hg8] at b8 k8 k9 ⊢
      generalize w2.alloc (Obj.cells #[.bool s8, .slice a3 LQ.length c3] 29) = w3 at *
      have n0 : ¬ w.heap.size = w.heap.size + 1 := by omega
      have n1 : ¬ w.heap.size = w.heap.size + 1 + 1 := by omega
      have n2 : ¬ w.heap.size = w.heap.size + 1 + 1 + 1 := by omega
      have n3 : ¬ w.heap.size = g8 := by omega
      have n4 : ¬ w.heap.size + 1 = w.heap.size := by omega
      have n5 : ¬ w.heap.size + 1 = w.heap.size + 1 + 1 := by omega
      have n6 : ¬ w.heap.size + 1 = w.heap.size + 1 + 1 + 1 := by omega
      have n7 : ¬ w.heap.size + 1 = g8 := by omega
      have n8 : ¬ w.heap.size + 1 + 1 = w.heap.size := by omega
      have n9 : ¬ w.heap.size + 1 + 1 = w.heap.size + 1 := by omega
      have n10 : ¬ w.heap.size + 1 + 1 = w.heap.size + 1 + 1 + 1 := by omega
      have n11 : ¬ w.heap.size + 1 + 1 = g8 := by omega
      have n12 : ¬ w.heap.size + 1 + 1 + 1 = w.heap.size := by omega
      have n13 : ¬ w.heap.size + 1 + 1 + 1 = w.heap.size + 1 := by omega
      have n14 : ¬ w.heap.size + 1 + 1 + 1 = w.heap.size + 1 + 1 := by omega
      have n15 : ¬ w.heap.size + 1 + 1 + 1 = g8 := by omega
      have n16 : ¬ g8 = w.heap.size := by omega
      have n17 : ¬ g8 = w.heap.size + 1 := by omega
      have n18 : ¬ g8 = w.heap.size + 1 + 1 := by omega
      have n19 : ¬ g8 = w.heap.size + 1 + 1 + 1 := by omega
      have HG8 : Hid _ := hg8
      clear hg8 hlt2
      go_region_held3 (fun W => W.cell? ⟨w.heap.size, 0, none⟩ = some (.bool false) ∧ W.cell? ⟨w.heap.size, 1, none⟩ = some (.slice a xs.length cap) ∧ W.cell? ⟨w.heap.size + 1, 0, none⟩ = some (.bool true) ∧ W.cell? ⟨w.heap.size + 1, 1, none⟩ = some (.slice a' ys.length cap') ∧ W.cell? ⟨g8, 0, none⟩ = some (.bool s8) ∧ W.cell? ⟨g8, 1, none⟩ = some (.slice a3 LQ.length c3)) (go_keep) (first | (go_at_call 67; refine (hM _ _ hO3.drew.rd ry.drew).mono ?_; rintro e w4 ⟨a4, c4, rfl, hO4, hB4⟩; have bA4 := bA.drew.keep hB4; have bB4 := bB.drew.keep hB4; have b84 := b8.drew.keep hB4; have b44 := b4.drew.keep hB4; have b54 := b5.drew.keep hB4; have f44 := f4.drew.keep hB4; have f54 := f5.drew.keep hB4; have rx4 := rx.drew.keep hB4; have ry4 := ry.drew.keep hB4; obtain ⟨-, x40, x41⟩ := id bA4; obtain ⟨-, y40, y41⟩ := id bB4; obtain ⟨-, z40, z41⟩ := id b84; have hO34 := hO3.drew.keep hB4; have hW4 := hW.drew.trans (hB4.mono hW.size)) | (go_at_call 45; refine (hG2 _ _ hO4.rd).mono ?_; rintro e w5 ⟨a5, c5, rfl, hO5, hB5⟩; have bA5 := bA4.keep hB5; have bB5 := bB4.keep hB5; have b85 := b84.keep hB5; have b45 := b44.keep hB5; have b55 := b54.keep hB5; have f45 := f44.keep hB5; have f55 := f54.keep hB5; have rx5 := rx4.keep hB5; have ry5 := ry4.keep hB5; obtain ⟨-, x50, x51⟩ := id bA5; obtain ⟨-, y50, y51⟩ := id bB5; obtain ⟨-, z50, z51⟩ := id b85; have hO35 := hO34.keep hB5; have hW5 := hW4.trans (hB5.mono hW4.size)) | (go_at_call 47; refine (hMi _ _ hO5.rd).mono ?_; rintro e w6 ⟨a6, c6, rfl, hO6, hB6⟩; have bA6 := bA5.keep hB6; have bB6 := bB5.keep hB6; have b86 := b85.keep hB6; have b46 := b45.keep hB6; have b56 := b55.keep hB6; have f46 := f45.keep hB6; have f56 := f55.keep hB6; have rx6 := rx5.keep hB6; have ry6 := ry5.keep hB6; obtain ⟨-, x60, x61⟩ := id bA6; obtain ⟨-, y60, y61⟩ := id bB6; obtain ⟨-, z60, z61⟩ := id b86; have hO36 := hO35.keep hB6; have hW6 := hW5.trans (hB6.mono hW5.size)) | (go_at_call 46; refine (hS _ _ rx6 hO6.rd).mono ?_; rintro e w7 ⟨a7, c7, rfl, hO7, hB7⟩; have bA7 := bA6.keep hB7; have bB7 := bB6.keep hB7; have b87 := b86.keep hB7; have b47 := b46.keep hB7; have b57 := b56.keep hB7; have f47 := f46.keep hB7; have f57 := f56.keep hB7; have rx7 := rx6.keep hB7; have ry7 := ry6.keep hB7; obtain ⟨-, x70, x71⟩ := id bA7; obtain ⟨-, y70, y71⟩ := id bB7; obtain ⟨-, z70, z71⟩ := id b87; have hO37 := hO36.keep hB7; have hW7 := hW6.trans (hB7.mono hW6.size); obtain ⟨q4, r40, r41⟩ := id b47; obtain ⟨q5, r50, r51⟩ := id b57; obtain ⟨-, u4⟩ := id f47; obtain ⟨-, u5⟩ := id f57))
      all_goals go_wp2
      all_goals refine bodyPost_ret (v := .tuple #[.agg #[.bool s8, .slice a3 LQ.length c3], .agg #[.bool s7, .slice a7 LR.length c7]]) (by simp [results, Tryd.results68, go_sem, r40, r41, r50, r51, q4, q5, n10, n15]) rfl ⟨a3, c3, a7, c7, rfl, ?_, ?_, ?_⟩
      all_goals first | exact ((((hO37.setBelow (by show w.heap.size + 1 + 1 < _; omega) _).setBelow (by show w.heap.size + 1 + 1 < _; omega) _).setBelow (by show w.heap.size + 1 + 1 + 1 < _; omega) _).setBelow (by show w.heap.size + 1 + 1 + 1 < _; omega) _).mono (by omega) | exact ((((hO7.setBelow (by show w.heap.size + 1 + 1 < _; have := b46.1; omega) _).setBelow (by show w.heap.size + 1 + 1 < _; have := b46.1; omega) _).setBelow (by show w.heap.size + 1 + 1 + 1 < _; have := b56.1; omega) _).setBelow (by show w.heap.size + 1 + 1 + 1 < _; have := b56.1; omega) _).mono hW6.size | exact (((hW7.setCell (by show _ ≤ w.heap.size + 1 + 1; omega) _).setCell (by show _ ≤ w.heap.size + 1 + 1; omega) _).setCell (by show _ ≤ w.heap.size + 1 + 1 + 1; omega) _).setCell (by show _ ≤ w.heap.size + 1 + 1 + 1; omega) _
end Go.Proofs.YtfcoffllelgakaaDoor
