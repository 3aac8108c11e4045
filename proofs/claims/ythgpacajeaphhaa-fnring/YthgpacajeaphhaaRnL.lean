import Derived.Test.YthgpacajeaphhaaTwA
import Derived.Test.YthgpacajeaphhaaZvP
import Derived.Test.YthgpacajeaphhaaOfB
import Derived.Test.YthgpacajeaphhaaSbQ
import Derived.Deep.RegionHeld3
namespace Go.Proofs.Ythgpacajeaphhaa
open Go.RowKit
set_option linter.unusedVariables false
set_option linter.unusedSimpArgs false

theorem addZc_any (p q : Bool) (v u : Value) (xs ys : List Int) (w : World) (hx : Rd w v xs) (hy : Rd w u ys) :
    Calls Try.prog 9 #[.agg #[.bool q, u], .agg #[.bool p, v]] w fun e w' => ∃ a c, e = .returned (.tuple #[.agg #[.bool (zS (okB p xs && okB q ys) (iv p xs + iv q ys)), .slice a (zL (okB p xs && okB q ys) (iv p xs + iv q ys)).length c], .int .i64 (zC (okB p xs && okB q ys) (iv p xs + iv q ys))]) ∧ Own w' w.heap.size (.slice a (zL (okB p xs && okB q ys) (iv p xs + iv q ys)).length c) (zL (okB p xs && okB q ys) (iv p xs + iv q ys)) ∧ Below w.heap.size w w' := by
  have h := addZ_any q p u v ys xs w hy hx
  rw [Bool.and_comm (okB q ys) (okB p xs), Int.add_comm (iv q ys) (iv p xs)] at h
  exact h
theorem mulZc_any (p q : Bool) (v u : Value) (xs ys : List Int) (w : World) (hx : Rd w v xs) (hy : Rd w u ys) :
    Calls Try.prog 10 #[.agg #[.bool q, u], .agg #[.bool p, v]] w fun e w' => ∃ a c, e = .returned (.tuple #[.agg #[.bool (zS (okB p xs && okB q ys) (iv p xs * iv q ys)), .slice a (zL (okB p xs && okB q ys) (iv p xs * iv q ys)).length c], .int .i64 (zC (okB p xs && okB q ys) (iv p xs * iv q ys))]) ∧ Own w' w.heap.size (.slice a (zL (okB p xs && okB q ys) (iv p xs * iv q ys)).length c) (zL (okB p xs && okB q ys) (iv p xs * iv q ys)) ∧ Below w.heap.size w w' := by
  have h := mulZ_any q p u v ys xs w hy hx
  rw [Bool.and_comm (okB q ys) (okB p xs), Int.mul_comm (iv q ys) (iv p xs)] at h
  exact h
theorem mul35 : zC (okB true (lim 3) && okB false (lim 5)) (iv true (lim 3) * iv false (lim 5)) = 0 := by
  have h3 : okB true (lim 3) = true := okB_limP true 3 (Nat.le_trans (lim_length_le (k := 1) (by omega)) (by omega))
  have h5 : okB false (lim 5) = true := okB_limP false 5 (Nat.le_trans (lim_length_le (k := 1) (by omega)) (by omega))
  have hl : (lim 15).length ≤ 128 := Nat.le_trans (lim_length_le (k := 1) (by omega)) (by omega)
  have e3 : iv true (lim 3) = -3 := by unfold iv sgn; rw [val_lim]; rfl
  have e5 : iv false (lim 5) = 5 := by unfold iv sgn; rw [val_lim]; rfl
  rw [h3, h5, e3, e5]
  show opC true (-15 : Int).natAbs = 0
  unfold opC fitC
  rw [if_pos rfl, show (-15 : Int).natAbs = 15 from rfl, if_pos hl]
set_option maxRecDepth 100000 in
set_option maxHeartbeats 4000000 in
theorem law_ring (a : Option Addr) (ZL c : Nat) (bs : List Int) (a' : Option Addr) (ZM c' : Nat) (ms : List Int) (w : World) (hl : ZL ≤ 9223372036854775807) (hr : ZL ≤ 1048576 → Src w a ZL c bs) (hl' : ZM ≤ 9223372036854775807) (hr' : ZM ≤ 1048576 → Src w a' ZM c' ms) :
    Calls Try.prog 3 #[.slice a ZL c, .slice a' ZM c'] w fun e w' => e = .returned (.bool true) ∧ Below w.heap.size w w' := by
  have HB := fun W => bigD_any W a ZL c
  have HB' := fun W => bigD_any W a' ZM c'
  by_cases hbig : 1048576 < ZL
  · rw [decide_eq_true (by omega)] at HB
    go_enter Try.func3, Try.ntmps3
    go_wp2_with fail
    refine (HB _).mono ?_
    rintro e w2 ⟨rfl, rfl⟩
    go_wp2
    go_ret
    exact ⟨rfl, Below.refl _ _⟩
  rw [decide_eq_false (by omega)] at HB
  by_cases hbig' : 1048576 < ZM
  · rw [decide_eq_true (by omega)] at HB'
    go_enter Try.func3, Try.ntmps3
    go_wp2_with fail
    refine (HB _).mono ?_
    rintro e w2 ⟨rfl, rfl⟩
    go_wp2_with fail
    refine (HB' _).mono ?_
    rintro e w2 ⟨rfl, rfl⟩
    go_wp2
    go_ret
    exact ⟨rfl, Below.refl _ _⟩
  rw [decide_eq_false (by omega)] at HB'
  have HD := drawAdd_any w a ZL c bs (hr (by omega))
  have HD' := fun W h => drawAdd_any W a' ZM c' ms h
  have hs' := hr' (by omega)
  clear hr hr' hl hl'
  go_enter Try.func3, Try.ntmps3
  go_wp2_with fail
  refine (HB _).mono ?_
  rintro e w1 ⟨rfl, hw1⟩
  rw [hw1]
  clear hw1 w1
  go_wp2_with fail
  refine (HB' _).mono ?_
  rintro e w1 ⟨rfl, hw1⟩
  rw [hw1]
  clear hw1 w1
  go_wp2_with fail
  refine HD.mono ?_
  rintro e v1 ⟨s1, a1, c1, l1, s2, a2, c2, l2, rfl, O1, O2, V⟩
  have al : Below v1.heap.size v1 ((v1.alloc (.cells #[.bool s1, .slice a1 l1.length c1] 26)).alloc (.cells #[.bool s2, .slice a2 l2.length c2] 26)) := ((Below.refl _ _).alloc (Nat.le_refl _) _).alloc (by simp) _
  have B1 := (Box.new v1 (.bool s1) (.slice a1 l1.length c1) 26).alloc (.cells #[.bool s2, .slice a2 l2.length c2] 26)
  have B2 := Box.new (v1.alloc (.cells #[.bool s1, .slice a1 l1.length c1] 26)) (.bool s2) (.slice a2 l2.length c2) 26
  simp only [World.size_alloc] at B2
  have R1 := O1.rd.keep al
  have R2 := O2.rd.keep al
  replace V := V.trans (al.mono V.size)
  have hs2 := hs'.keep V
  clear O1 O2 al hs' HD HB HB'
  generalize hw : (v1.alloc (.cells #[.bool s1, .slice a1 l1.length c1] 26)).alloc (.cells #[.bool s2, .slice a2 l2.length c2] 26) = w2 at B1 B2 R1 R2 V hs2
  generalize hX : v1.heap.size = X1 at B1 B2
  go_upto_region 4 with fail
  clear hw hX
  go_wp2_with fail
  refine (HD' _ hs2).mono ?_
  rintro e v3 ⟨s3, a3, c3, l3, s0, a0, c0, l0, rfl, O3, O4, b3⟩
  have al : Below v3.heap.size v3 ((v3.alloc (.cells #[.bool s3, .slice a3 l3.length c3] 26)).alloc (.cells #[.bool s0, .slice a0 l0.length c0] 26)) := ((Below.refl _ _).alloc (Nat.le_refl _) _).alloc (by simp) _
  have B3 := (Box.new v3 (.bool s3) (.slice a3 l3.length c3) 26).alloc (.cells #[.bool s0, .slice a0 l0.length c0] 26)
  have R3 := O3.rd.keep al
  replace B1 := (B1.keep b3).keep al
  replace B2 := (B2.keep b3).keep al
  replace R1 := (R1.keep b3).keep al
  replace R2 := (R2.keep b3).keep al
  replace V := (V.trans (b3.mono V.size)).trans (al.mono (V.trans (b3.mono V.size)).size)
  clear O3 O4 al hs2 HD' b3
  generalize hw : (v3.alloc (.cells #[.bool s3, .slice a3 l3.length c3] 26)).alloc (.cells #[.bool s0, .slice a0 l0.length c0] 26) = w4 at B1 B2 B3 R1 R2 R3 V
  generalize hX : v3.heap.size = X3 at B3
  go_upto_region 5 with fail
  clear hw hX
  generalize X1 + 1 = X2 at B2 ⊢
  have hz1 : Limbs l1 := by obtain ⟨_, _, _, _, h, _⟩ := R1; exact h
  have hz2 : Limbs l2 := by obtain ⟨_, _, _, _, h, _⟩ := R2; exact h

  have HA := fun (W : World) (h1 : Rd W (.slice a1 l1.length c1) l1) (h2 : Rd W (.slice a2 l2.length c2) l2) => addZ_any s1 s2 _ _ l1 l2 W h1 h2
  have HA' := fun (W : World) (h1 : Rd W (.slice a1 l1.length c1) l1) (h2 : Rd W (.slice a2 l2.length c2) l2) => addZc_any s1 s2 _ _ l1 l2 W h1 h2
  have HM := fun (W : World) (h1 : Rd W (.slice a1 l1.length c1) l1) (h2 : Rd W (.slice a2 l2.length c2) l2) => mulZ_any s1 s2 _ _ l1 l2 W h1 h2
  have HM' := fun (W : World) (h1 : Rd W (.slice a1 l1.length c1) l1) (h2 : Rd W (.slice a2 l2.length c2) l2) => mulZc_any s1 s2 _ _ l1 l2 W h1 h2
  have K1 := fun (W : World) (h : Rd W (.slice a1 l1.length c1) l1) => bigOkS_any s1 _ l1 W h
  have K2 := fun (W : World) (h : Rd W (.slice a2 l2.length c2) l2) => bigOkS_any s2 _ l2 W h
  have K3 := fun (W : World) (h : Rd W (.slice a3 l3.length c3) l3) => bigOkS_any s3 _ l3 W h
  have HO3 := fun W : World => bigOf_any (-3) W (by omega) (by omega)
  have HO5 := fun W : World => bigOf_any 5 W (by omega) (by omega)
  have HM35 := fun (W : World) (v u : Value) (h1 : Rd W v (lim 3)) (h2 : Rd W u (lim 5)) => mulZ_any true false v u _ _ W h1 h2
  simp only [mul35, show decide ((-3 : Int) < 0) = true from rfl, show (-3 : Int).natAbs = 3 from rfl] at HM35 HO3
  simp only [show decide ((5 : Int) < 0) = false from rfl, show (5 : Int).natAbs = 5 from rfl] at HO5
  generalize zS (okB true (lim 3) && okB false (lim 5)) (iv true (lim 3) * iv false (lim 5)) = s9 at HM35
  generalize zL (okB true (lim 3) && okB false (lim 5)) (iv true (lim 3) * iv false (lim 5)) = l9 at HM35
  generalize lim 3 = L3 at HO3 HM35
  generalize lim 5 = L5 at HO5 HM35

  by_cases hg : okB s1 l1 = true ∧ okB s2 l2 = true
  · obtain ⟨g1, g2⟩ := hg
    simp only [g1, g2, Bool.and_self] at HA HA' HM HM'
    simp only [g1] at K1
    simp only [g2] at K2
    have E1 := zC_two (iv s1 l1 + iv s2 l2)
    have E3 := zC_two (iv s1 l1 * iv s2 l2)
    have HF1 := fun h => z_val (z := iv s1 l1 + iv s2 l2) h
    have HF3 := fun h => z_val (z := iv s1 l1 * iv s2 l2) h
    have Z1 := z_ok hz1 g1
    have HC1 := fun (W : World) (h1 : Rd W (.slice a1 l1.length c1) l1) (h2 : Rd W (.slice a2 l2.length c2) l2) => bigCmp_any s1 s2 _ _ l1 l2 W h1 h2
    have HC2 := fun (W : World) (h1 : Rd W (.slice a1 l1.length c1) l1) (h2 : Rd W (.slice a2 l2.length c2) l2) => bigCmp_any s2 s1 _ _ l2 l1 W h2 h1
    obtain ⟨hca, hcb, hcc⟩ := cmpA_anti g1 g2
    have hng : IntKind.i64.wrap (-(cmpA s2 l2 s1 l1)) = cmpA s1 l1 s2 l2 := by
      rw [hca]
      generalize cmpA s2 l2 s1 l1 = cm at hcb hcc
      have : cm = -1 ∨ cm = 0 ∨ cm = 1 := by omega
      rcases this with rfl | rfl | rfl <;> rfl
    generalize cmpA s2 l2 s1 l1 = cm at HC2 hng
    generalize cmpA s1 l1 s2 l2 = cn at HC1 hng
    clear hca hcb hcc
    generalize zS true (iv s1 l1 + iv s2 l2) = s4 at HA HA' HF1
    generalize zL true (iv s1 l1 + iv s2 l2) = l4 at HA HA' HF1
    generalize zC true (iv s1 l1 + iv s2 l2) = e1 at HA HA' HF1 E1
    generalize zS true (iv s1 l1 * iv s2 l2) = s6 at HM HM' HF3
    generalize zL true (iv s1 l1 * iv s2 l2) = l6 at HM HM' HF3
    generalize zC true (iv s1 l1 * iv s2 l2) = e3 at HM HM' HF3 E3
    have G1 : Hid (okB s1 l1 = true ∧ okB s2 l2 = true) := ⟨g1, g2⟩
    have HE1 : Hid (e1 = 0 ∨ e1 = 3) := E1
    have HE3 : Hid (e3 = 0 ∨ e3 = 3) := E3
    have HG1 : Hid (e1 = 0 → iv s4 l4 = iv s1 l1 + iv s2 l2 ∧ okB s4 l4 = true) := HF1
    have HG3 : Hid (e3 = 0 → iv s6 l6 = iv s1 l1 * iv s2 l2 ∧ okB s6 l6 = true) := HF3
    have HZ1 : Hid (zS true (iv s1 l1) = s1 ∧ zL true (iv s1 l1) = l1 ∧ zC true (iv s1 l1) = 0) := Z1
    clear E1 E3 HF1 HF3 Z1 g1 g2 hz1 hz2
    obtain ⟨m1, y1, z1⟩ := id B1
    obtain ⟨m2, y2, z2⟩ := id B2
    go_wp2_with fail
    refine (HA _ R1 R2).mono ?_
    rintro e v101 ⟨a4, c4, rfl, O101, b101⟩
    clear m1 y1 z1 m2 y2 z2
    have al : Below v101.heap.size v101 (v101.alloc (.cells #[.bool s4, .slice a4 l4.length c4] 26)) := (Below.refl _ _).alloc (Nat.le_refl _) _
    replace V := (V.trans (b101.mono V.size)).trans (al.mono (V.trans (b101.mono V.size)).size)
    replace B1 := (B1.keep b101).keep al
    replace R1 := (R1.keep b101).keep al
    replace B2 := (B2.keep b101).keep al
    replace R2 := (R2.keep b101).keep al
    replace B3 := (B3.keep b101).keep al
    replace R3 := (R3.keep b101).keep al
    have B4 := Box.new v101 (.bool s4) (.slice a4 l4.length c4) 26
    have R4 := O101.rd.keep al
    clear O101 b101 al
    generalize hw : v101.alloc (.cells #[.bool s4, .slice a4 l4.length c4] 26) = w101 at V B1 R1 B2 R2 B3 R3 B4 R4
    generalize hX : v101.heap.size = X4 at B4
    go_upto_region 6 with fail
    clear hw hX
    obtain ⟨m1, y1, z1⟩ := id B1
    obtain ⟨m2, y2, z2⟩ := id B2
    go_wp2_with fail
    refine (HA' _ R1 R2).mono ?_
    rintro e v102 ⟨a5, c5, rfl, O102, b102⟩
    clear m1 y1 z1 m2 y2 z2
    have al : Below v102.heap.size v102 (v102.alloc (.cells #[.bool s4, .slice a5 l4.length c5] 26)) := (Below.refl _ _).alloc (Nat.le_refl _) _
    replace V := (V.trans (b102.mono V.size)).trans (al.mono (V.trans (b102.mono V.size)).size)
    replace B1 := (B1.keep b102).keep al
    replace R1 := (R1.keep b102).keep al
    replace B2 := (B2.keep b102).keep al
    replace R2 := (R2.keep b102).keep al
    replace B3 := (B3.keep b102).keep al
    replace R3 := (R3.keep b102).keep al
    replace B4 := (B4.keep b102).keep al
    replace R4 := (R4.keep b102).keep al
    have B5 := Box.new v102 (.bool s4) (.slice a5 l4.length c5) 26
    have R5 := O102.rd.keep al
    clear O102 b102 al
    generalize hw : v102.alloc (.cells #[.bool s4, .slice a5 l4.length c5] 26) = w102 at V B1 R1 B2 R2 B3 R3 B4 R4 B5 R5
    generalize hX : v102.heap.size = X5 at B5
    go_upto_region 7 with fail
    clear hw hX
    obtain ⟨m1, y1, z1⟩ := id B1
    obtain ⟨m2, y2, z2⟩ := id B2
    go_wp2_with fail
    refine (HM _ R1 R2).mono ?_
    rintro e v103 ⟨a6, c6, rfl, O103, b103⟩
    clear m1 y1 z1 m2 y2 z2
    have al : Below v103.heap.size v103 (v103.alloc (.cells #[.bool s6, .slice a6 l6.length c6] 26)) := (Below.refl _ _).alloc (Nat.le_refl _) _
    replace V := (V.trans (b103.mono V.size)).trans (al.mono (V.trans (b103.mono V.size)).size)
    replace B1 := (B1.keep b103).keep al
    replace R1 := (R1.keep b103).keep al
    replace B2 := (B2.keep b103).keep al
    replace R2 := (R2.keep b103).keep al
    replace B3 := (B3.keep b103).keep al
    replace R3 := (R3.keep b103).keep al
    replace B4 := (B4.keep b103).keep al
    replace R4 := (R4.keep b103).keep al
    replace B5 := (B5.keep b103).keep al
    replace R5 := (R5.keep b103).keep al
    have B6 := Box.new v103 (.bool s6) (.slice a6 l6.length c6) 26
    have R6 := O103.rd.keep al
    clear O103 b103 al
    generalize hw : v103.alloc (.cells #[.bool s6, .slice a6 l6.length c6] 26) = w103 at V B1 R1 B2 R2 B3 R3 B4 R4 B5 R5 B6 R6
    generalize hX : v103.heap.size = X6 at B6
    go_upto_region 8 with fail
    clear hw hX
    obtain ⟨m1, y1, z1⟩ := id B1
    obtain ⟨m2, y2, z2⟩ := id B2
    go_wp2_with fail
    refine (HM' _ R1 R2).mono ?_
    rintro e v104 ⟨a7, c7, rfl, O104, b104⟩
    clear m1 y1 z1 m2 y2 z2
    have al : Below v104.heap.size v104 (v104.alloc (.cells #[.bool s6, .slice a7 l6.length c7] 26)) := (Below.refl _ _).alloc (Nat.le_refl _) _
    replace V := (V.trans (b104.mono V.size)).trans (al.mono (V.trans (b104.mono V.size)).size)
    replace B1 := (B1.keep b104).keep al
    replace R1 := (R1.keep b104).keep al
    replace B2 := (B2.keep b104).keep al
    replace R2 := (R2.keep b104).keep al
    replace B3 := (B3.keep b104).keep al
    replace R3 := (R3.keep b104).keep al
    replace B4 := (B4.keep b104).keep al
    replace R4 := (R4.keep b104).keep al
    replace B5 := (B5.keep b104).keep al
    replace R5 := (R5.keep b104).keep al
    replace B6 := (B6.keep b104).keep al
    replace R6 := (R6.keep b104).keep al
    have B7 := Box.new v104 (.bool s6) (.slice a7 l6.length c7) 26
    have R7 := O104.rd.keep al
    clear O104 b104 al
    generalize hw : v104.alloc (.cells #[.bool s6, .slice a7 l6.length c7] 26) = w104 at V B1 R1 B2 R2 B3 R3 B4 R4 B5 R5 B6 R6 B7 R7
    generalize hX : v104.heap.size = X7 at B7
    go_upto_region 9 with fail
    clear hw hX
    obtain ⟨g1, g2⟩ := G1.out
    have K4 := fun (W : World) (h : Rd W (.slice a4 l4.length c4) l4) => bigOkS_any s4 _ l4 W h
    have K6 := fun (W : World) (h : Rd W (.slice a6 l6.length c6) l6) => bigOkS_any s6 _ l6 W h
    clear HA HA' HM HM'
    rcases HE1.out with rfl | rfl
    · rcases HE3.out with rfl | rfl
      · have F1 := HG1.out rfl
        simp only [F1.2] at K4
        have F3 := HG3.out rfl
        simp only [F3.2] at K6
        clear HE1 HE3 HG1 HG3
        obtain ⟨m4, y4, z4⟩ := id B4
        obtain ⟨m5, y5, z5⟩ := id B5
        go_wp2_with fail
        refine (sameBig_any s4 _ _ l4 _ R4 R5).mono ?_
        rintro e w105 ⟨rfl, b105⟩
        clear m4 y4 z4 m5 y5 z5
        replace V := V.trans (b105.mono V.size)
        replace B1 := B1.keep b105
        replace R1 := R1.keep b105
        replace B2 := B2.keep b105
        replace R2 := R2.keep b105
        replace B3 := B3.keep b105
        replace R3 := R3.keep b105
        replace B4 := B4.keep b105
        replace R4 := R4.keep b105
        replace B5 := B5.keep b105
        replace R5 := R5.keep b105
        replace B6 := B6.keep b105
        replace R6 := R6.keep b105
        replace B7 := B7.keep b105
        replace R7 := R7.keep b105
        clear b105
        obtain ⟨m6, y6, z6⟩ := id B6
        obtain ⟨m7, y7, z7⟩ := id B7
        go_wp2_with fail
        refine (sameBig_any s6 _ _ l6 _ R6 R7).mono ?_
        rintro e w106 ⟨rfl, b106⟩
        clear m6 y6 z6 m7 y7 z7
        replace V := V.trans (b106.mono V.size)
        replace B1 := B1.keep b106
        replace R1 := R1.keep b106
        replace B2 := B2.keep b106
        replace R2 := R2.keep b106
        replace B3 := B3.keep b106
        replace R3 := R3.keep b106
        replace B4 := B4.keep b106
        replace R4 := R4.keep b106
        replace B5 := B5.keep b106
        replace R5 := R5.keep b106
        replace B6 := B6.keep b106
        replace R6 := R6.keep b106
        replace B7 := B7.keep b106
        replace R7 := R7.keep b106
        clear b106
        obtain ⟨m4, y4, z4⟩ := id B4
        go_wp2_with fail
        refine (K4 _ R4).mono ?_
        rintro e w107 ⟨rfl, b107⟩
        clear m4 y4 z4
        replace V := V.trans (b107.mono V.size)
        replace B1 := B1.keep b107
        replace R1 := R1.keep b107
        replace B2 := B2.keep b107
        replace R2 := R2.keep b107
        replace B3 := B3.keep b107
        replace R3 := R3.keep b107
        replace B4 := B4.keep b107
        replace R4 := R4.keep b107
        replace B5 := B5.keep b107
        replace R5 := R5.keep b107
        replace B6 := B6.keep b107
        replace R6 := R6.keep b107
        replace B7 := B7.keep b107
        replace R7 := R7.keep b107
        clear b107
        obtain ⟨m6, y6, z6⟩ := id B6
        go_wp2_with fail
        refine (K6 _ R6).mono ?_
        rintro e w108 ⟨rfl, b108⟩
        clear m6 y6 z6
        replace V := V.trans (b108.mono V.size)
        replace B1 := B1.keep b108
        replace R1 := R1.keep b108
        replace B2 := B2.keep b108
        replace R2 := R2.keep b108
        replace B3 := B3.keep b108
        replace R3 := R3.keep b108
        replace B4 := B4.keep b108
        replace R4 := R4.keep b108
        replace B5 := B5.keep b108
        replace R5 := R5.keep b108
        replace B6 := B6.keep b108
        replace R6 := R6.keep b108
        replace B7 := B7.keep b108
        replace R7 := R7.keep b108
        clear b108
        clear B5 R5 B6 R6 B7 R7
        cases g3 : okB s3 l3
        · simp only [g3] at K3
          clear B4 R4
          obtain ⟨m1, y1, z1⟩ := id B1
          go_wp2_with fail
          refine (K1 _ R1).mono ?_
          rintro e w109 ⟨rfl, b109⟩
          clear m1 y1 z1
          replace V := V.trans (b109.mono V.size)
          replace B1 := B1.keep b109
          replace R1 := R1.keep b109
          replace B2 := B2.keep b109
          replace R2 := R2.keep b109
          replace B3 := B3.keep b109
          replace R3 := R3.keep b109
          clear b109
          obtain ⟨m2, y2, z2⟩ := id B2
          go_wp2_with fail
          refine (K2 _ R2).mono ?_
          rintro e w110 ⟨rfl, b110⟩
          clear m2 y2 z2
          replace V := V.trans (b110.mono V.size)
          replace B1 := B1.keep b110
          replace R1 := R1.keep b110
          replace B2 := B2.keep b110
          replace R2 := R2.keep b110
          replace B3 := B3.keep b110
          replace R3 := R3.keep b110
          clear b110
          obtain ⟨m3, y3, z3⟩ := id B3
          go_wp2_with fail
          refine (K3 _ R3).mono ?_
          rintro e w111 ⟨rfl, b111⟩
          clear m3 y3 z3
          replace V := V.trans (b111.mono V.size)
          replace B1 := B1.keep b111
          replace R1 := R1.keep b111
          replace B2 := B2.keep b111
          replace R2 := R2.keep b111
          replace B3 := B3.keep b111
          replace R3 := R3.keep b111
          clear b111
          go_wp2_with fail
          refine (HO3 _).mono ?_
          rintro e v112 ⟨a8, c8, rfl, O8, b8⟩
          replace V := V.trans (b8.mono V.size)
          replace B1 := B1.keep b8
          replace R1 := R1.keep b8
          replace B2 := B2.keep b8
          replace R2 := R2.keep b8
          replace B3 := B3.keep b8
          replace R3 := R3.keep b8
          go_wp2_with fail
          refine (HO5 _).mono ?_
          rintro e v112' ⟨a9, c9, rfl, O9, b9⟩
          replace V := V.trans (b9.mono V.size)
          replace B1 := B1.keep b9
          replace R1 := R1.keep b9
          replace B2 := B2.keep b9
          replace R2 := R2.keep b9
          replace B3 := B3.keep b9
          replace R3 := R3.keep b9
          replace O8 := O8.keep b9
          clear b8 b9
          go_wp2_with fail
          refine (HM35 _ _ _ O8.rd O9.rd).mono ?_
          rintro e v113 ⟨a10, c10, rfl, O113, b113⟩
          have al : Below v113.heap.size v113 (v113.alloc (.cells #[.bool s9, .slice a10 l9.length c10] 26)) := (Below.refl _ _).alloc (Nat.le_refl _) _
          replace V := (V.trans (b113.mono V.size)).trans (al.mono (V.trans (b113.mono V.size)).size)
          replace B1 := (B1.keep b113).keep al
          replace R1 := (R1.keep b113).keep al
          replace B2 := (B2.keep b113).keep al
          replace R2 := (R2.keep b113).keep al
          replace B3 := (B3.keep b113).keep al
          replace R3 := (R3.keep b113).keep al
          have B9 := Box.new v113 (.bool s9) (.slice a10 l9.length c10) 26
          have R9 := O113.rd.keep al
          clear O113 b113 al
          generalize hw : v113.alloc (.cells #[.bool s9, .slice a10 l9.length c10] 26) = w113 at V B1 R1 B2 R2 B3 R3 B9 R9
          generalize hX : v113.heap.size = X9 at B9
          go_upto_region 13 with fail
          clear hw hX
          obtain ⟨m1, y1, z1⟩ := id B1
          go_wp2_with fail
          refine (K1 _ R1).mono ?_
          rintro e w114 ⟨rfl, b114⟩
          clear m1 y1 z1
          replace V := V.trans (b114.mono V.size)
          replace B1 := B1.keep b114
          replace R1 := R1.keep b114
          replace B2 := B2.keep b114
          replace R2 := R2.keep b114
          replace B3 := B3.keep b114
          replace R3 := R3.keep b114
          clear b114
          obtain ⟨m2, y2, z2⟩ := id B2
          go_wp2_with fail
          refine (K2 _ R2).mono ?_
          rintro e w115 ⟨rfl, b115⟩
          clear m2 y2 z2
          replace V := V.trans (b115.mono V.size)
          replace B1 := B1.keep b115
          replace R1 := R1.keep b115
          replace B2 := B2.keep b115
          replace R2 := R2.keep b115
          replace B3 := B3.keep b115
          replace R3 := R3.keep b115
          clear b115
          go_wp2
          go_ret
          exact ⟨rfl, V⟩
        · simp only [g3] at K3
          obtain ⟨m1, y1, z1⟩ := id B1
          go_wp2_with fail
          refine (K1 _ R1).mono ?_
          rintro e w116 ⟨rfl, b116⟩
          clear m1 y1 z1
          replace V := V.trans (b116.mono V.size)
          replace B1 := B1.keep b116
          replace R1 := R1.keep b116
          replace B2 := B2.keep b116
          replace R2 := R2.keep b116
          replace B3 := B3.keep b116
          replace R3 := R3.keep b116
          replace B4 := B4.keep b116
          replace R4 := R4.keep b116
          clear b116
          obtain ⟨m2, y2, z2⟩ := id B2
          go_wp2_with fail
          refine (K2 _ R2).mono ?_
          rintro e w117 ⟨rfl, b117⟩
          clear m2 y2 z2
          replace V := V.trans (b117.mono V.size)
          replace B1 := B1.keep b117
          replace R1 := R1.keep b117
          replace B2 := B2.keep b117
          replace R2 := R2.keep b117
          replace B3 := B3.keep b117
          replace R3 := R3.keep b117
          replace B4 := B4.keep b117
          replace R4 := R4.keep b117
          clear b117
          obtain ⟨m3, y3, z3⟩ := id B3
          go_wp2_with fail
          refine (K3 _ R3).mono ?_
          rintro e w118 ⟨rfl, b118⟩
          clear m3 y3 z3
          replace V := V.trans (b118.mono V.size)
          replace B1 := B1.keep b118
          replace R1 := R1.keep b118
          replace B2 := B2.keep b118
          replace R2 := R2.keep b118
          replace B3 := B3.keep b118
          replace R3 := R3.keep b118
          replace B4 := B4.keep b118
          replace R4 := R4.keep b118
          clear b118
          have HS := fun (W : World) (h1 : Rd W (.slice a4 l4.length c4) l4) (h2 : Rd W (.slice a2 l2.length c2) l2) => subZ_any s4 s2 _ _ l4 l2 W h1 h2
          have hv1 : iv s4 l4 - iv s2 l2 = iv s1 l1 := by rw [F1.1]; omega
          simp only [F1.2, g2, Bool.and_self, hv1, HZ1.out.1, HZ1.out.2.1, HZ1.out.2.2] at HS
          have HX := fun (W : World) (h1 : Rd W (.slice a4 l4.length c4) l4) (h2 : Rd W (.slice a3 l3.length c3) l3) => mulZ_any s4 s3 _ _ l4 l3 W h1 h2
          have HY := fun (W : World) (h1 : Rd W (.slice a1 l1.length c1) l1) (h2 : Rd W (.slice a3 l3.length c3) l3) => mulZ_any s1 s3 _ _ l1 l3 W h1 h2
          have HZ := fun (W : World) (h1 : Rd W (.slice a2 l2.length c2) l2) (h2 : Rd W (.slice a3 l3.length c3) l3) => mulZ_any s2 s3 _ _ l2 l3 W h1 h2
          have hv2 : iv s4 l4 * iv s3 l3 = iv s1 l1 * iv s3 l3 + iv s2 l2 * iv s3 l3 := by rw [F1.1, Int.add_mul]
          simp only [F1.2, g1, g2, g3, Bool.and_self, hv2] at HX HY HZ
          have E5 := zC_two (iv s1 l1 * iv s3 l3 + iv s2 l2 * iv s3 l3)
          have E6 := zC_two (iv s1 l1 * iv s3 l3)
          have E7 := zC_two (iv s2 l2 * iv s3 l3)
          have F6 := fun h => z_val (z := iv s1 l1 * iv s3 l3) h
          have F7 := fun h => z_val (z := iv s2 l2 * iv s3 l3) h
          have HQ : Hid (∀ s l s' l', iv s l = iv s1 l1 * iv s3 l3 → iv s' l' = iv s2 l2 * iv s3 l3 → iv s l + iv s' l' = iv s1 l1 * iv s3 l3 + iv s2 l2 * iv s3 l3) := fun s l s' l' h h' => by rw [h, h']
          generalize iv s1 l1 * iv s3 l3 + iv s2 l2 * iv s3 l3 = zx at HX E5 HQ
          generalize iv s1 l1 * iv s3 l3 = zy at HY E6 F6 HQ
          generalize iv s2 l2 * iv s3 l3 = zz at HZ E7 F7 HQ
          generalize hs12 : zS true zx = s12 at HX
          generalize hl12 : zL true zx = l12 at HX
          generalize hc12 : zC true zx = e5 at HX E5
          generalize zS true zy = s13 at HY F6
          generalize zL true zy = l13 at HY F6
          generalize zC true zy = e6 at HY F6 E6
          generalize zS true zz = s14 at HZ F7
          generalize zL true zz = l14 at HZ F7
          generalize zC true zz = e7 at HZ F7 E7
          have H12 : Hid (zS true zx = s12 ∧ zL true zx = l12 ∧ zC true zx = e5) := ⟨hs12, hl12, hc12⟩
          have HF6 : Hid (e6 = 0 → iv s13 l13 = zy ∧ okB s13 l13 = true) := F6
          have HF7 : Hid (e7 = 0 → iv s14 l14 = zz ∧ okB s14 l14 = true) := F7
          have HE : Hid ((e5 = 0 ∨ e5 = 3) ∧ (e6 = 0 ∨ e6 = 3) ∧ (e7 = 0 ∨ e7 = 3)) := ⟨E5, E6, E7⟩
          clear hs12 hl12 hc12 F6 F7 E5 E6 E7 hv1 hv2
          obtain ⟨m4, y4, z4⟩ := id B4
          obtain ⟨m2, y2, z2⟩ := id B2
          go_wp2_with fail
          refine (HS _ R4 R2).mono ?_
          rintro e v119 ⟨a11, c11, rfl, O119, b119⟩
          clear m4 y4 z4 m2 y2 z2
          have al : Below v119.heap.size v119 (v119.alloc (.cells #[.bool s1, .slice a11 l1.length c11] 26)) := (Below.refl _ _).alloc (Nat.le_refl _) _
          replace V := (V.trans (b119.mono V.size)).trans (al.mono (V.trans (b119.mono V.size)).size)
          replace B1 := (B1.keep b119).keep al
          replace R1 := (R1.keep b119).keep al
          replace B2 := (B2.keep b119).keep al
          replace R2 := (R2.keep b119).keep al
          replace B3 := (B3.keep b119).keep al
          replace R3 := (R3.keep b119).keep al
          replace B4 := (B4.keep b119).keep al
          replace R4 := (R4.keep b119).keep al
          have B11 := Box.new v119 (.bool s1) (.slice a11 l1.length c11) 26
          have R11 := O119.rd.keep al
          clear O119 b119 al
          generalize hw : v119.alloc (.cells #[.bool s1, .slice a11 l1.length c11] 26) = w119 at V B1 R1 B2 R2 B3 R3 B4 R4 B11 R11
          generalize hX : v119.heap.size = X11 at B11
          go_upto_region 16 with fail
          clear hw hX
          obtain ⟨m11, y11, z11⟩ := id B11
          obtain ⟨m1, y1, z1⟩ := id B1
          go_wp2_with fail
          refine (sameBig_any s1 _ _ l1 _ R11 R1).mono ?_
          rintro e w120 ⟨rfl, b120⟩
          clear m11 y11 z11 m1 y1 z1
          replace V := V.trans (b120.mono V.size)
          replace B1 := B1.keep b120
          replace R1 := R1.keep b120
          replace B2 := B2.keep b120
          replace R2 := R2.keep b120
          replace B3 := B3.keep b120
          replace R3 := R3.keep b120
          replace B4 := B4.keep b120
          replace R4 := R4.keep b120
          replace B11 := B11.keep b120
          replace R11 := R11.keep b120
          clear b120
          clear B11 R11
          obtain ⟨m4, y4, z4⟩ := id B4
          obtain ⟨m3, y3, z3⟩ := id B3
          go_wp2_with fail
          refine (HX _ R4 R3).mono ?_
          rintro e v121 ⟨a12, c12, rfl, O121, b121⟩
          clear m4 y4 z4 m3 y3 z3
          have al : Below v121.heap.size v121 (v121.alloc (.cells #[.bool s12, .slice a12 l12.length c12] 26)) := (Below.refl _ _).alloc (Nat.le_refl _) _
          replace V := (V.trans (b121.mono V.size)).trans (al.mono (V.trans (b121.mono V.size)).size)
          replace B1 := (B1.keep b121).keep al
          replace R1 := (R1.keep b121).keep al
          replace B2 := (B2.keep b121).keep al
          replace R2 := (R2.keep b121).keep al
          replace B3 := (B3.keep b121).keep al
          replace R3 := (R3.keep b121).keep al
          replace B4 := (B4.keep b121).keep al
          replace R4 := (R4.keep b121).keep al
          have B12 := Box.new v121 (.bool s12) (.slice a12 l12.length c12) 26
          have R12 := O121.rd.keep al
          clear O121 b121 al
          generalize hw : v121.alloc (.cells #[.bool s12, .slice a12 l12.length c12] 26) = w121 at V B1 R1 B2 R2 B3 R3 B4 R4 B12 R12
          generalize hX : v121.heap.size = X12 at B12
          go_upto_region 19 with fail
          clear hw hX
          clear B4 R4
          obtain ⟨m1, y1, z1⟩ := id B1
          obtain ⟨m3, y3, z3⟩ := id B3
          go_wp2_with fail
          refine (HY _ R1 R3).mono ?_
          rintro e v122 ⟨a13, c13, rfl, O122, b122⟩
          clear m1 y1 z1 m3 y3 z3
          have al : Below v122.heap.size v122 (v122.alloc (.cells #[.bool s13, .slice a13 l13.length c13] 26)) := (Below.refl _ _).alloc (Nat.le_refl _) _
          replace V := (V.trans (b122.mono V.size)).trans (al.mono (V.trans (b122.mono V.size)).size)
          replace B1 := (B1.keep b122).keep al
          replace R1 := (R1.keep b122).keep al
          replace B2 := (B2.keep b122).keep al
          replace R2 := (R2.keep b122).keep al
          replace B3 := (B3.keep b122).keep al
          replace R3 := (R3.keep b122).keep al
          replace B12 := (B12.keep b122).keep al
          replace R12 := (R12.keep b122).keep al
          have B13 := Box.new v122 (.bool s13) (.slice a13 l13.length c13) 26
          have R13 := O122.rd.keep al
          clear O122 b122 al
          generalize hw : v122.alloc (.cells #[.bool s13, .slice a13 l13.length c13] 26) = w122 at V B1 R1 B2 R2 B3 R3 B12 R12 B13 R13
          generalize hX : v122.heap.size = X13 at B13
          go_upto_region 20 with fail
          clear hw hX
          obtain ⟨m2, y2, z2⟩ := id B2
          obtain ⟨m3, y3, z3⟩ := id B3
          go_wp2_with fail
          refine (HZ _ R2 R3).mono ?_
          rintro e v123 ⟨a14, c14, rfl, O123, b123⟩
          clear m2 y2 z2 m3 y3 z3
          have al : Below v123.heap.size v123 (v123.alloc (.cells #[.bool s14, .slice a14 l14.length c14] 26)) := (Below.refl _ _).alloc (Nat.le_refl _) _
          replace V := (V.trans (b123.mono V.size)).trans (al.mono (V.trans (b123.mono V.size)).size)
          replace B1 := (B1.keep b123).keep al
          replace R1 := (R1.keep b123).keep al
          replace B2 := (B2.keep b123).keep al
          replace R2 := (R2.keep b123).keep al
          replace B3 := (B3.keep b123).keep al
          replace R3 := (R3.keep b123).keep al
          replace B12 := (B12.keep b123).keep al
          replace R12 := (R12.keep b123).keep al
          replace B13 := (B13.keep b123).keep al
          replace R13 := (R13.keep b123).keep al
          have B14 := Box.new v123 (.bool s14) (.slice a14 l14.length c14) 26
          have R14 := O123.rd.keep al
          clear O123 b123 al
          generalize hw : v123.alloc (.cells #[.bool s14, .slice a14 l14.length c14] 26) = w123 at V B1 R1 B2 R2 B3 R3 B12 R12 B13 R13 B14 R14
          generalize hX : v123.heap.size = X14 at B14
          go_upto_region 21 with fail
          clear hw hX
          clear B3 R3
          have HT := fun (W : World) (h1 : Rd W (.slice a13 l13.length c13) l13) (h2 : Rd W (.slice a14 l14.length c14) l14) => addZ_any s13 s14 _ _ l13 l14 W h1 h2
          clear HS HX HY HZ K1 K2 K3 K4 K6 HO3 HO5 HM35
          obtain ⟨E5, E6, E7⟩ := HE.out
          by_cases hb : e6 = 0 ∧ e7 = 0
          · obtain ⟨h6, h7⟩ := hb
            obtain ⟨q1, q2⟩ := HF6.out h6
            obtain ⟨q3, q4⟩ := HF7.out h7
            have q5 := HQ.out s13 l13 s14 l14 q1 q3
            simp only [q2, q4, Bool.and_self, q5, H12.out.1, H12.out.2.1, H12.out.2.2] at HT
            clear q1 q2 q3 q4 q5
            subst h6
            subst h7
            obtain ⟨m13, y13, z13⟩ := id B13
            obtain ⟨m14, y14, z14⟩ := id B14
            go_wp2_with fail
            refine (HT _ R13 R14).mono ?_
            rintro e v124 ⟨a15, c15, rfl, O124, b124⟩
            clear m13 y13 z13 m14 y14 z14
            have al : Below v124.heap.size v124 (v124.alloc (.cells #[.bool s12, .slice a15 l12.length c15] 26)) := (Below.refl _ _).alloc (Nat.le_refl _) _
            replace V := (V.trans (b124.mono V.size)).trans (al.mono (V.trans (b124.mono V.size)).size)
            replace B1 := (B1.keep b124).keep al
            replace R1 := (R1.keep b124).keep al
            replace B2 := (B2.keep b124).keep al
            replace R2 := (R2.keep b124).keep al
            replace B12 := (B12.keep b124).keep al
            replace R12 := (R12.keep b124).keep al
            replace B13 := (B13.keep b124).keep al
            replace R13 := (R13.keep b124).keep al
            replace B14 := (B14.keep b124).keep al
            replace R14 := (R14.keep b124).keep al
            have B15 := Box.new v124 (.bool s12) (.slice a15 l12.length c15) 26
            have R15 := O124.rd.keep al
            clear O124 b124 al
            generalize hw : v124.alloc (.cells #[.bool s12, .slice a15 l12.length c15] 26) = w124 at V B1 R1 B2 R2 B12 R12 B13 R13 B14 R14 B15 R15
            generalize hX : v124.heap.size = X15 at B15
            go_upto_region 22 with fail
            clear hw hX
            clear B13 R13 B14 R14
            rcases E5 with rfl | rfl
            · clear HE
              obtain ⟨m12, y12, z12⟩ := id B12
              obtain ⟨m15, y15, z15⟩ := id B15
              go_wp2_with fail
              refine (sameBig_any s12 _ _ l12 _ R12 R15).mono ?_
              rintro e w125 ⟨rfl, b125⟩
              clear m12 y12 z12 m15 y15 z15
              replace V := V.trans (b125.mono V.size)
              replace B1 := B1.keep b125
              replace R1 := R1.keep b125
              replace B2 := B2.keep b125
              replace R2 := R2.keep b125
              replace B12 := B12.keep b125
              replace R12 := R12.keep b125
              replace B15 := B15.keep b125
              replace R15 := R15.keep b125
              clear b125
              obtain ⟨m1, y1, z1⟩ := id B1
              obtain ⟨m2, y2, z2⟩ := id B2
              go_upto_region 24 with fail
              go_region_held3 (fun W => W.cell? ⟨X1, 0, none⟩ = some (.bool s1) ∧ W.cell? ⟨X1, 1, none⟩ = some (.slice a1 l1.length c1) ∧ W.cell? ⟨X2, 0, none⟩ = some (.bool s2) ∧ W.cell? ⟨X2, 1, none⟩ = some (.slice a2 l2.length c2)) (go_keep) (first | (go_at_call 15; refine (HC2 _ R1u R2u).mono ?_; rintro e u2 ⟨rfl, b2⟩; have V2 := V1.trans (b2.mono V1.size); obtain ⟨-, x4, x5⟩ := B1u.keep b2; obtain ⟨-, x6, x7⟩ := B2u.keep b2) | (go_at_call 15; refine (HC1 _ R1.drew R2.drew).mono ?_; rintro e u1 ⟨rfl, b1⟩; have B1u := B1.drew.keep b1; have B2u := B2.drew.keep b1; obtain ⟨-, x0, x1⟩ := id B1u; obtain ⟨-, x2, x3⟩ := id B2u; have R1u := R1.drew.keep b1; have R2u := R2.drew.keep b1; have V1 := V.drew.trans (b1.mono V.size)))
              all_goals go_wp2
              all_goals go_ret
              all_goals exact ⟨by simp, V2⟩
            · clear HE
              obtain ⟨m1, y1, z1⟩ := id B1
              obtain ⟨m2, y2, z2⟩ := id B2
              go_upto_region 24 with fail
              go_region_held3 (fun W => W.cell? ⟨X1, 0, none⟩ = some (.bool s1) ∧ W.cell? ⟨X1, 1, none⟩ = some (.slice a1 l1.length c1) ∧ W.cell? ⟨X2, 0, none⟩ = some (.bool s2) ∧ W.cell? ⟨X2, 1, none⟩ = some (.slice a2 l2.length c2)) (go_keep) (first | (go_at_call 15; refine (HC2 _ R1u R2u).mono ?_; rintro e u2 ⟨rfl, b2⟩; have V2 := V1.trans (b2.mono V1.size); obtain ⟨-, x4, x5⟩ := B1u.keep b2; obtain ⟨-, x6, x7⟩ := B2u.keep b2) | (go_at_call 15; refine (HC1 _ R1.drew R2.drew).mono ?_; rintro e u1 ⟨rfl, b1⟩; have B1u := B1.drew.keep b1; have B2u := B2.drew.keep b1; obtain ⟨-, x0, x1⟩ := id B1u; obtain ⟨-, x2, x3⟩ := id B2u; have R1u := R1.drew.keep b1; have R2u := R2.drew.keep b1; have V1 := V.drew.trans (b1.mono V.size)))
              all_goals go_wp2
              all_goals go_ret
              all_goals exact ⟨by simp, V2⟩
          · generalize zS (okB s13 l13 && okB s14 l14) (iv s13 l13 + iv s14 l14) = s15 at HT
            generalize zL (okB s13 l13 && okB s14 l14) (iv s13 l13 + iv s14 l14) = l15 at HT
            generalize zC (okB s13 l13 && okB s14 l14) (iv s13 l13 + iv s14 l14) = e8 at HT
            obtain ⟨m13, y13, z13⟩ := id B13
            obtain ⟨m14, y14, z14⟩ := id B14
            go_wp2_with fail
            refine (HT _ R13 R14).mono ?_
            rintro e v126 ⟨a15, c15, rfl, O126, b126⟩
            clear m13 y13 z13 m14 y14 z14
            have al : Below v126.heap.size v126 (v126.alloc (.cells #[.bool s15, .slice a15 l15.length c15] 26)) := (Below.refl _ _).alloc (Nat.le_refl _) _
            replace V := (V.trans (b126.mono V.size)).trans (al.mono (V.trans (b126.mono V.size)).size)
            replace B1 := (B1.keep b126).keep al
            replace R1 := (R1.keep b126).keep al
            replace B2 := (B2.keep b126).keep al
            replace R2 := (R2.keep b126).keep al
            replace B12 := (B12.keep b126).keep al
            replace R12 := (R12.keep b126).keep al
            replace B13 := (B13.keep b126).keep al
            replace R13 := (R13.keep b126).keep al
            replace B14 := (B14.keep b126).keep al
            replace R14 := (R14.keep b126).keep al
            have B15 := Box.new v126 (.bool s15) (.slice a15 l15.length c15) 26
            have R15 := O126.rd.keep al
            clear O126 b126 al
            generalize hw : v126.alloc (.cells #[.bool s15, .slice a15 l15.length c15] 26) = w126 at V B1 R1 B2 R2 B12 R12 B13 R13 B14 R14 B15 R15
            generalize hX : v126.heap.size = X15 at B15
            go_upto_region 22 with fail
            clear hw hX
            clear B12 R12 B13 R13 B14 R14 B15 R15
            rcases E5 with rfl | rfl
            · rcases E6 with rfl | rfl
              · rcases E7 with rfl | rfl
                · exact absurd ⟨rfl, rfl⟩ hb
                · clear HE
                  obtain ⟨m1, y1, z1⟩ := id B1
                  obtain ⟨m2, y2, z2⟩ := id B2
                  go_upto_region 24 with fail
                  go_region_held3 (fun W => W.cell? ⟨X1, 0, none⟩ = some (.bool s1) ∧ W.cell? ⟨X1, 1, none⟩ = some (.slice a1 l1.length c1) ∧ W.cell? ⟨X2, 0, none⟩ = some (.bool s2) ∧ W.cell? ⟨X2, 1, none⟩ = some (.slice a2 l2.length c2)) (go_keep) (first | (go_at_call 15; refine (HC2 _ R1u R2u).mono ?_; rintro e u2 ⟨rfl, b2⟩; have V2 := V1.trans (b2.mono V1.size); obtain ⟨-, x4, x5⟩ := B1u.keep b2; obtain ⟨-, x6, x7⟩ := B2u.keep b2) | (go_at_call 15; refine (HC1 _ R1.drew R2.drew).mono ?_; rintro e u1 ⟨rfl, b1⟩; have B1u := B1.drew.keep b1; have B2u := B2.drew.keep b1; obtain ⟨-, x0, x1⟩ := id B1u; obtain ⟨-, x2, x3⟩ := id B2u; have R1u := R1.drew.keep b1; have R2u := R2.drew.keep b1; have V1 := V.drew.trans (b1.mono V.size)))
                  all_goals go_wp2
                  all_goals go_ret
                  all_goals exact ⟨by simp, V2⟩
              · clear HE
                obtain ⟨m1, y1, z1⟩ := id B1
                obtain ⟨m2, y2, z2⟩ := id B2
                go_upto_region 24 with fail
                go_region_held3 (fun W => W.cell? ⟨X1, 0, none⟩ = some (.bool s1) ∧ W.cell? ⟨X1, 1, none⟩ = some (.slice a1 l1.length c1) ∧ W.cell? ⟨X2, 0, none⟩ = some (.bool s2) ∧ W.cell? ⟨X2, 1, none⟩ = some (.slice a2 l2.length c2)) (go_keep) (first | (go_at_call 15; refine (HC2 _ R1u R2u).mono ?_; rintro e u2 ⟨rfl, b2⟩; have V2 := V1.trans (b2.mono V1.size); obtain ⟨-, x4, x5⟩ := B1u.keep b2; obtain ⟨-, x6, x7⟩ := B2u.keep b2) | (go_at_call 15; refine (HC1 _ R1.drew R2.drew).mono ?_; rintro e u1 ⟨rfl, b1⟩; have B1u := B1.drew.keep b1; have B2u := B2.drew.keep b1; obtain ⟨-, x0, x1⟩ := id B1u; obtain ⟨-, x2, x3⟩ := id B2u; have R1u := R1.drew.keep b1; have R2u := R2.drew.keep b1; have V1 := V.drew.trans (b1.mono V.size)))
                all_goals go_wp2
                all_goals go_ret
                all_goals exact ⟨by simp, V2⟩
            · clear HE
              obtain ⟨m1, y1, z1⟩ := id B1
              obtain ⟨m2, y2, z2⟩ := id B2
              go_upto_region 24 with fail
              go_region_held3 (fun W => W.cell? ⟨X1, 0, none⟩ = some (.bool s1) ∧ W.cell? ⟨X1, 1, none⟩ = some (.slice a1 l1.length c1) ∧ W.cell? ⟨X2, 0, none⟩ = some (.bool s2) ∧ W.cell? ⟨X2, 1, none⟩ = some (.slice a2 l2.length c2)) (go_keep) (first | (go_at_call 15; refine (HC2 _ R1u R2u).mono ?_; rintro e u2 ⟨rfl, b2⟩; have V2 := V1.trans (b2.mono V1.size); obtain ⟨-, x4, x5⟩ := B1u.keep b2; obtain ⟨-, x6, x7⟩ := B2u.keep b2) | (go_at_call 15; refine (HC1 _ R1.drew R2.drew).mono ?_; rintro e u1 ⟨rfl, b1⟩; have B1u := B1.drew.keep b1; have B2u := B2.drew.keep b1; obtain ⟨-, x0, x1⟩ := id B1u; obtain ⟨-, x2, x3⟩ := id B2u; have R1u := R1.drew.keep b1; have R2u := R2.drew.keep b1; have V1 := V.drew.trans (b1.mono V.size)))
              all_goals go_wp2
              all_goals go_ret
              all_goals exact ⟨by simp, V2⟩
      · have F1 := HG1.out rfl
        simp only [F1.2] at K4
        clear HE1 HE3 HG1 HG3
        obtain ⟨m4, y4, z4⟩ := id B4
        obtain ⟨m5, y5, z5⟩ := id B5
        go_wp2_with fail
        refine (sameBig_any s4 _ _ l4 _ R4 R5).mono ?_
        rintro e w127 ⟨rfl, b127⟩
        clear m4 y4 z4 m5 y5 z5
        replace V := V.trans (b127.mono V.size)
        replace B1 := B1.keep b127
        replace R1 := R1.keep b127
        replace B2 := B2.keep b127
        replace R2 := R2.keep b127
        replace B3 := B3.keep b127
        replace R3 := R3.keep b127
        replace B4 := B4.keep b127
        replace R4 := R4.keep b127
        replace B5 := B5.keep b127
        replace R5 := R5.keep b127
        replace B6 := B6.keep b127
        replace R6 := R6.keep b127
        replace B7 := B7.keep b127
        replace R7 := R7.keep b127
        clear b127
        obtain ⟨m6, y6, z6⟩ := id B6
        obtain ⟨m7, y7, z7⟩ := id B7
        go_wp2_with fail
        refine (sameBig_any s6 _ _ l6 _ R6 R7).mono ?_
        rintro e w128 ⟨rfl, b128⟩
        clear m6 y6 z6 m7 y7 z7
        replace V := V.trans (b128.mono V.size)
        replace B1 := B1.keep b128
        replace R1 := R1.keep b128
        replace B2 := B2.keep b128
        replace R2 := R2.keep b128
        replace B3 := B3.keep b128
        replace R3 := R3.keep b128
        replace B4 := B4.keep b128
        replace R4 := R4.keep b128
        replace B5 := B5.keep b128
        replace R5 := R5.keep b128
        replace B6 := B6.keep b128
        replace R6 := R6.keep b128
        replace B7 := B7.keep b128
        replace R7 := R7.keep b128
        clear b128
        obtain ⟨m4, y4, z4⟩ := id B4
        go_wp2_with fail
        refine (K4 _ R4).mono ?_
        rintro e w129 ⟨rfl, b129⟩
        clear m4 y4 z4
        replace V := V.trans (b129.mono V.size)
        replace B1 := B1.keep b129
        replace R1 := R1.keep b129
        replace B2 := B2.keep b129
        replace R2 := R2.keep b129
        replace B3 := B3.keep b129
        replace R3 := R3.keep b129
        replace B4 := B4.keep b129
        replace R4 := R4.keep b129
        replace B5 := B5.keep b129
        replace R5 := R5.keep b129
        replace B6 := B6.keep b129
        replace R6 := R6.keep b129
        replace B7 := B7.keep b129
        replace R7 := R7.keep b129
        clear b129
        clear B5 R5 B6 R6 B7 R7
        cases g3 : okB s3 l3
        · simp only [g3] at K3
          clear B4 R4
          obtain ⟨m1, y1, z1⟩ := id B1
          go_wp2_with fail
          refine (K1 _ R1).mono ?_
          rintro e w130 ⟨rfl, b130⟩
          clear m1 y1 z1
          replace V := V.trans (b130.mono V.size)
          replace B1 := B1.keep b130
          replace R1 := R1.keep b130
          replace B2 := B2.keep b130
          replace R2 := R2.keep b130
          replace B3 := B3.keep b130
          replace R3 := R3.keep b130
          clear b130
          obtain ⟨m2, y2, z2⟩ := id B2
          go_wp2_with fail
          refine (K2 _ R2).mono ?_
          rintro e w131 ⟨rfl, b131⟩
          clear m2 y2 z2
          replace V := V.trans (b131.mono V.size)
          replace B1 := B1.keep b131
          replace R1 := R1.keep b131
          replace B2 := B2.keep b131
          replace R2 := R2.keep b131
          replace B3 := B3.keep b131
          replace R3 := R3.keep b131
          clear b131
          obtain ⟨m3, y3, z3⟩ := id B3
          go_wp2_with fail
          refine (K3 _ R3).mono ?_
          rintro e w132 ⟨rfl, b132⟩
          clear m3 y3 z3
          replace V := V.trans (b132.mono V.size)
          replace B1 := B1.keep b132
          replace R1 := R1.keep b132
          replace B2 := B2.keep b132
          replace R2 := R2.keep b132
          replace B3 := B3.keep b132
          replace R3 := R3.keep b132
          clear b132
          go_wp2_with fail
          refine (HO3 _).mono ?_
          rintro e v133 ⟨a8, c8, rfl, O8, b8⟩
          replace V := V.trans (b8.mono V.size)
          replace B1 := B1.keep b8
          replace R1 := R1.keep b8
          replace B2 := B2.keep b8
          replace R2 := R2.keep b8
          replace B3 := B3.keep b8
          replace R3 := R3.keep b8
          go_wp2_with fail
          refine (HO5 _).mono ?_
          rintro e v133' ⟨a9, c9, rfl, O9, b9⟩
          replace V := V.trans (b9.mono V.size)
          replace B1 := B1.keep b9
          replace R1 := R1.keep b9
          replace B2 := B2.keep b9
          replace R2 := R2.keep b9
          replace B3 := B3.keep b9
          replace R3 := R3.keep b9
          replace O8 := O8.keep b9
          clear b8 b9
          go_wp2_with fail
          refine (HM35 _ _ _ O8.rd O9.rd).mono ?_
          rintro e v134 ⟨a10, c10, rfl, O134, b134⟩
          have al : Below v134.heap.size v134 (v134.alloc (.cells #[.bool s9, .slice a10 l9.length c10] 26)) := (Below.refl _ _).alloc (Nat.le_refl _) _
          replace V := (V.trans (b134.mono V.size)).trans (al.mono (V.trans (b134.mono V.size)).size)
          replace B1 := (B1.keep b134).keep al
          replace R1 := (R1.keep b134).keep al
          replace B2 := (B2.keep b134).keep al
          replace R2 := (R2.keep b134).keep al
          replace B3 := (B3.keep b134).keep al
          replace R3 := (R3.keep b134).keep al
          have B9 := Box.new v134 (.bool s9) (.slice a10 l9.length c10) 26
          have R9 := O134.rd.keep al
          clear O134 b134 al
          generalize hw : v134.alloc (.cells #[.bool s9, .slice a10 l9.length c10] 26) = w134 at V B1 R1 B2 R2 B3 R3 B9 R9
          generalize hX : v134.heap.size = X9 at B9
          go_upto_region 13 with fail
          clear hw hX
          obtain ⟨m1, y1, z1⟩ := id B1
          go_wp2_with fail
          refine (K1 _ R1).mono ?_
          rintro e w135 ⟨rfl, b135⟩
          clear m1 y1 z1
          replace V := V.trans (b135.mono V.size)
          replace B1 := B1.keep b135
          replace R1 := R1.keep b135
          replace B2 := B2.keep b135
          replace R2 := R2.keep b135
          replace B3 := B3.keep b135
          replace R3 := R3.keep b135
          clear b135
          obtain ⟨m2, y2, z2⟩ := id B2
          go_wp2_with fail
          refine (K2 _ R2).mono ?_
          rintro e w136 ⟨rfl, b136⟩
          clear m2 y2 z2
          replace V := V.trans (b136.mono V.size)
          replace B1 := B1.keep b136
          replace R1 := R1.keep b136
          replace B2 := B2.keep b136
          replace R2 := R2.keep b136
          replace B3 := B3.keep b136
          replace R3 := R3.keep b136
          clear b136
          go_wp2
          go_ret
          exact ⟨rfl, V⟩
        · simp only [g3] at K3
          obtain ⟨m1, y1, z1⟩ := id B1
          go_wp2_with fail
          refine (K1 _ R1).mono ?_
          rintro e w137 ⟨rfl, b137⟩
          clear m1 y1 z1
          replace V := V.trans (b137.mono V.size)
          replace B1 := B1.keep b137
          replace R1 := R1.keep b137
          replace B2 := B2.keep b137
          replace R2 := R2.keep b137
          replace B3 := B3.keep b137
          replace R3 := R3.keep b137
          replace B4 := B4.keep b137
          replace R4 := R4.keep b137
          clear b137
          obtain ⟨m2, y2, z2⟩ := id B2
          go_wp2_with fail
          refine (K2 _ R2).mono ?_
          rintro e w138 ⟨rfl, b138⟩
          clear m2 y2 z2
          replace V := V.trans (b138.mono V.size)
          replace B1 := B1.keep b138
          replace R1 := R1.keep b138
          replace B2 := B2.keep b138
          replace R2 := R2.keep b138
          replace B3 := B3.keep b138
          replace R3 := R3.keep b138
          replace B4 := B4.keep b138
          replace R4 := R4.keep b138
          clear b138
          obtain ⟨m3, y3, z3⟩ := id B3
          go_wp2_with fail
          refine (K3 _ R3).mono ?_
          rintro e w139 ⟨rfl, b139⟩
          clear m3 y3 z3
          replace V := V.trans (b139.mono V.size)
          replace B1 := B1.keep b139
          replace R1 := R1.keep b139
          replace B2 := B2.keep b139
          replace R2 := R2.keep b139
          replace B3 := B3.keep b139
          replace R3 := R3.keep b139
          replace B4 := B4.keep b139
          replace R4 := R4.keep b139
          clear b139
          have HS := fun (W : World) (h1 : Rd W (.slice a4 l4.length c4) l4) (h2 : Rd W (.slice a2 l2.length c2) l2) => subZ_any s4 s2 _ _ l4 l2 W h1 h2
          have hv1 : iv s4 l4 - iv s2 l2 = iv s1 l1 := by rw [F1.1]; omega
          simp only [F1.2, g2, Bool.and_self, hv1, HZ1.out.1, HZ1.out.2.1, HZ1.out.2.2] at HS
          have HX := fun (W : World) (h1 : Rd W (.slice a4 l4.length c4) l4) (h2 : Rd W (.slice a3 l3.length c3) l3) => mulZ_any s4 s3 _ _ l4 l3 W h1 h2
          have HY := fun (W : World) (h1 : Rd W (.slice a1 l1.length c1) l1) (h2 : Rd W (.slice a3 l3.length c3) l3) => mulZ_any s1 s3 _ _ l1 l3 W h1 h2
          have HZ := fun (W : World) (h1 : Rd W (.slice a2 l2.length c2) l2) (h2 : Rd W (.slice a3 l3.length c3) l3) => mulZ_any s2 s3 _ _ l2 l3 W h1 h2
          have hv2 : iv s4 l4 * iv s3 l3 = iv s1 l1 * iv s3 l3 + iv s2 l2 * iv s3 l3 := by rw [F1.1, Int.add_mul]
          simp only [F1.2, g1, g2, g3, Bool.and_self, hv2] at HX HY HZ
          have E5 := zC_two (iv s1 l1 * iv s3 l3 + iv s2 l2 * iv s3 l3)
          have E6 := zC_two (iv s1 l1 * iv s3 l3)
          have E7 := zC_two (iv s2 l2 * iv s3 l3)
          have F6 := fun h => z_val (z := iv s1 l1 * iv s3 l3) h
          have F7 := fun h => z_val (z := iv s2 l2 * iv s3 l3) h
          have HQ : Hid (∀ s l s' l', iv s l = iv s1 l1 * iv s3 l3 → iv s' l' = iv s2 l2 * iv s3 l3 → iv s l + iv s' l' = iv s1 l1 * iv s3 l3 + iv s2 l2 * iv s3 l3) := fun s l s' l' h h' => by rw [h, h']
          generalize iv s1 l1 * iv s3 l3 + iv s2 l2 * iv s3 l3 = zx at HX E5 HQ
          generalize iv s1 l1 * iv s3 l3 = zy at HY E6 F6 HQ
          generalize iv s2 l2 * iv s3 l3 = zz at HZ E7 F7 HQ
          generalize hs12 : zS true zx = s12 at HX
          generalize hl12 : zL true zx = l12 at HX
          generalize hc12 : zC true zx = e5 at HX E5
          generalize zS true zy = s13 at HY F6
          generalize zL true zy = l13 at HY F6
          generalize zC true zy = e6 at HY F6 E6
          generalize zS true zz = s14 at HZ F7
          generalize zL true zz = l14 at HZ F7
          generalize zC true zz = e7 at HZ F7 E7
          have H12 : Hid (zS true zx = s12 ∧ zL true zx = l12 ∧ zC true zx = e5) := ⟨hs12, hl12, hc12⟩
          have HF6 : Hid (e6 = 0 → iv s13 l13 = zy ∧ okB s13 l13 = true) := F6
          have HF7 : Hid (e7 = 0 → iv s14 l14 = zz ∧ okB s14 l14 = true) := F7
          have HE : Hid ((e5 = 0 ∨ e5 = 3) ∧ (e6 = 0 ∨ e6 = 3) ∧ (e7 = 0 ∨ e7 = 3)) := ⟨E5, E6, E7⟩
          clear hs12 hl12 hc12 F6 F7 E5 E6 E7 hv1 hv2
          obtain ⟨m4, y4, z4⟩ := id B4
          obtain ⟨m2, y2, z2⟩ := id B2
          go_wp2_with fail
          refine (HS _ R4 R2).mono ?_
          rintro e v140 ⟨a11, c11, rfl, O140, b140⟩
          clear m4 y4 z4 m2 y2 z2
          have al : Below v140.heap.size v140 (v140.alloc (.cells #[.bool s1, .slice a11 l1.length c11] 26)) := (Below.refl _ _).alloc (Nat.le_refl _) _
          replace V := (V.trans (b140.mono V.size)).trans (al.mono (V.trans (b140.mono V.size)).size)
          replace B1 := (B1.keep b140).keep al
          replace R1 := (R1.keep b140).keep al
          replace B2 := (B2.keep b140).keep al
          replace R2 := (R2.keep b140).keep al
          replace B3 := (B3.keep b140).keep al
          replace R3 := (R3.keep b140).keep al
          replace B4 := (B4.keep b140).keep al
          replace R4 := (R4.keep b140).keep al
          have B11 := Box.new v140 (.bool s1) (.slice a11 l1.length c11) 26
          have R11 := O140.rd.keep al
          clear O140 b140 al
          generalize hw : v140.alloc (.cells #[.bool s1, .slice a11 l1.length c11] 26) = w140 at V B1 R1 B2 R2 B3 R3 B4 R4 B11 R11
          generalize hX : v140.heap.size = X11 at B11
          go_upto_region 16 with fail
          clear hw hX
          obtain ⟨m11, y11, z11⟩ := id B11
          obtain ⟨m1, y1, z1⟩ := id B1
          go_wp2_with fail
          refine (sameBig_any s1 _ _ l1 _ R11 R1).mono ?_
          rintro e w141 ⟨rfl, b141⟩
          clear m11 y11 z11 m1 y1 z1
          replace V := V.trans (b141.mono V.size)
          replace B1 := B1.keep b141
          replace R1 := R1.keep b141
          replace B2 := B2.keep b141
          replace R2 := R2.keep b141
          replace B3 := B3.keep b141
          replace R3 := R3.keep b141
          replace B4 := B4.keep b141
          replace R4 := R4.keep b141
          replace B11 := B11.keep b141
          replace R11 := R11.keep b141
          clear b141
          clear B11 R11
          obtain ⟨m4, y4, z4⟩ := id B4
          obtain ⟨m3, y3, z3⟩ := id B3
          go_wp2_with fail
          refine (HX _ R4 R3).mono ?_
          rintro e v142 ⟨a12, c12, rfl, O142, b142⟩
          clear m4 y4 z4 m3 y3 z3
          have al : Below v142.heap.size v142 (v142.alloc (.cells #[.bool s12, .slice a12 l12.length c12] 26)) := (Below.refl _ _).alloc (Nat.le_refl _) _
          replace V := (V.trans (b142.mono V.size)).trans (al.mono (V.trans (b142.mono V.size)).size)
          replace B1 := (B1.keep b142).keep al
          replace R1 := (R1.keep b142).keep al
          replace B2 := (B2.keep b142).keep al
          replace R2 := (R2.keep b142).keep al
          replace B3 := (B3.keep b142).keep al
          replace R3 := (R3.keep b142).keep al
          replace B4 := (B4.keep b142).keep al
          replace R4 := (R4.keep b142).keep al
          have B12 := Box.new v142 (.bool s12) (.slice a12 l12.length c12) 26
          have R12 := O142.rd.keep al
          clear O142 b142 al
          generalize hw : v142.alloc (.cells #[.bool s12, .slice a12 l12.length c12] 26) = w142 at V B1 R1 B2 R2 B3 R3 B4 R4 B12 R12
          generalize hX : v142.heap.size = X12 at B12
          go_upto_region 19 with fail
          clear hw hX
          clear B4 R4
          obtain ⟨m1, y1, z1⟩ := id B1
          obtain ⟨m3, y3, z3⟩ := id B3
          go_wp2_with fail
          refine (HY _ R1 R3).mono ?_
          rintro e v143 ⟨a13, c13, rfl, O143, b143⟩
          clear m1 y1 z1 m3 y3 z3
          have al : Below v143.heap.size v143 (v143.alloc (.cells #[.bool s13, .slice a13 l13.length c13] 26)) := (Below.refl _ _).alloc (Nat.le_refl _) _
          replace V := (V.trans (b143.mono V.size)).trans (al.mono (V.trans (b143.mono V.size)).size)
          replace B1 := (B1.keep b143).keep al
          replace R1 := (R1.keep b143).keep al
          replace B2 := (B2.keep b143).keep al
          replace R2 := (R2.keep b143).keep al
          replace B3 := (B3.keep b143).keep al
          replace R3 := (R3.keep b143).keep al
          replace B12 := (B12.keep b143).keep al
          replace R12 := (R12.keep b143).keep al
          have B13 := Box.new v143 (.bool s13) (.slice a13 l13.length c13) 26
          have R13 := O143.rd.keep al
          clear O143 b143 al
          generalize hw : v143.alloc (.cells #[.bool s13, .slice a13 l13.length c13] 26) = w143 at V B1 R1 B2 R2 B3 R3 B12 R12 B13 R13
          generalize hX : v143.heap.size = X13 at B13
          go_upto_region 20 with fail
          clear hw hX
          obtain ⟨m2, y2, z2⟩ := id B2
          obtain ⟨m3, y3, z3⟩ := id B3
          go_wp2_with fail
          refine (HZ _ R2 R3).mono ?_
          rintro e v144 ⟨a14, c14, rfl, O144, b144⟩
          clear m2 y2 z2 m3 y3 z3
          have al : Below v144.heap.size v144 (v144.alloc (.cells #[.bool s14, .slice a14 l14.length c14] 26)) := (Below.refl _ _).alloc (Nat.le_refl _) _
          replace V := (V.trans (b144.mono V.size)).trans (al.mono (V.trans (b144.mono V.size)).size)
          replace B1 := (B1.keep b144).keep al
          replace R1 := (R1.keep b144).keep al
          replace B2 := (B2.keep b144).keep al
          replace R2 := (R2.keep b144).keep al
          replace B3 := (B3.keep b144).keep al
          replace R3 := (R3.keep b144).keep al
          replace B12 := (B12.keep b144).keep al
          replace R12 := (R12.keep b144).keep al
          replace B13 := (B13.keep b144).keep al
          replace R13 := (R13.keep b144).keep al
          have B14 := Box.new v144 (.bool s14) (.slice a14 l14.length c14) 26
          have R14 := O144.rd.keep al
          clear O144 b144 al
          generalize hw : v144.alloc (.cells #[.bool s14, .slice a14 l14.length c14] 26) = w144 at V B1 R1 B2 R2 B3 R3 B12 R12 B13 R13 B14 R14
          generalize hX : v144.heap.size = X14 at B14
          go_upto_region 21 with fail
          clear hw hX
          clear B3 R3
          have HT := fun (W : World) (h1 : Rd W (.slice a13 l13.length c13) l13) (h2 : Rd W (.slice a14 l14.length c14) l14) => addZ_any s13 s14 _ _ l13 l14 W h1 h2
          clear HS HX HY HZ K1 K2 K3 K4 K6 HO3 HO5 HM35
          obtain ⟨E5, E6, E7⟩ := HE.out
          by_cases hb : e6 = 0 ∧ e7 = 0
          · obtain ⟨h6, h7⟩ := hb
            obtain ⟨q1, q2⟩ := HF6.out h6
            obtain ⟨q3, q4⟩ := HF7.out h7
            have q5 := HQ.out s13 l13 s14 l14 q1 q3
            simp only [q2, q4, Bool.and_self, q5, H12.out.1, H12.out.2.1, H12.out.2.2] at HT
            clear q1 q2 q3 q4 q5
            subst h6
            subst h7
            obtain ⟨m13, y13, z13⟩ := id B13
            obtain ⟨m14, y14, z14⟩ := id B14
            go_wp2_with fail
            refine (HT _ R13 R14).mono ?_
            rintro e v145 ⟨a15, c15, rfl, O145, b145⟩
            clear m13 y13 z13 m14 y14 z14
            have al : Below v145.heap.size v145 (v145.alloc (.cells #[.bool s12, .slice a15 l12.length c15] 26)) := (Below.refl _ _).alloc (Nat.le_refl _) _
            replace V := (V.trans (b145.mono V.size)).trans (al.mono (V.trans (b145.mono V.size)).size)
            replace B1 := (B1.keep b145).keep al
            replace R1 := (R1.keep b145).keep al
            replace B2 := (B2.keep b145).keep al
            replace R2 := (R2.keep b145).keep al
            replace B12 := (B12.keep b145).keep al
            replace R12 := (R12.keep b145).keep al
            replace B13 := (B13.keep b145).keep al
            replace R13 := (R13.keep b145).keep al
            replace B14 := (B14.keep b145).keep al
            replace R14 := (R14.keep b145).keep al
            have B15 := Box.new v145 (.bool s12) (.slice a15 l12.length c15) 26
            have R15 := O145.rd.keep al
            clear O145 b145 al
            generalize hw : v145.alloc (.cells #[.bool s12, .slice a15 l12.length c15] 26) = w145 at V B1 R1 B2 R2 B12 R12 B13 R13 B14 R14 B15 R15
            generalize hX : v145.heap.size = X15 at B15
            go_upto_region 22 with fail
            clear hw hX
            clear B13 R13 B14 R14
            rcases E5 with rfl | rfl
            · clear HE
              obtain ⟨m12, y12, z12⟩ := id B12
              obtain ⟨m15, y15, z15⟩ := id B15
              go_wp2_with fail
              refine (sameBig_any s12 _ _ l12 _ R12 R15).mono ?_
              rintro e w146 ⟨rfl, b146⟩
              clear m12 y12 z12 m15 y15 z15
              replace V := V.trans (b146.mono V.size)
              replace B1 := B1.keep b146
              replace R1 := R1.keep b146
              replace B2 := B2.keep b146
              replace R2 := R2.keep b146
              replace B12 := B12.keep b146
              replace R12 := R12.keep b146
              replace B15 := B15.keep b146
              replace R15 := R15.keep b146
              clear b146
              obtain ⟨m1, y1, z1⟩ := id B1
              obtain ⟨m2, y2, z2⟩ := id B2
              go_upto_region 24 with fail
              go_region_held3 (fun W => W.cell? ⟨X1, 0, none⟩ = some (.bool s1) ∧ W.cell? ⟨X1, 1, none⟩ = some (.slice a1 l1.length c1) ∧ W.cell? ⟨X2, 0, none⟩ = some (.bool s2) ∧ W.cell? ⟨X2, 1, none⟩ = some (.slice a2 l2.length c2)) (go_keep) (first | (go_at_call 15; refine (HC2 _ R1u R2u).mono ?_; rintro e u2 ⟨rfl, b2⟩; have V2 := V1.trans (b2.mono V1.size); obtain ⟨-, x4, x5⟩ := B1u.keep b2; obtain ⟨-, x6, x7⟩ := B2u.keep b2) | (go_at_call 15; refine (HC1 _ R1.drew R2.drew).mono ?_; rintro e u1 ⟨rfl, b1⟩; have B1u := B1.drew.keep b1; have B2u := B2.drew.keep b1; obtain ⟨-, x0, x1⟩ := id B1u; obtain ⟨-, x2, x3⟩ := id B2u; have R1u := R1.drew.keep b1; have R2u := R2.drew.keep b1; have V1 := V.drew.trans (b1.mono V.size)))
              all_goals go_wp2
              all_goals go_ret
              all_goals exact ⟨by simp, V2⟩
            · clear HE
              obtain ⟨m1, y1, z1⟩ := id B1
              obtain ⟨m2, y2, z2⟩ := id B2
              go_upto_region 24 with fail
              go_region_held3 (fun W => W.cell? ⟨X1, 0, none⟩ = some (.bool s1) ∧ W.cell? ⟨X1, 1, none⟩ = some (.slice a1 l1.length c1) ∧ W.cell? ⟨X2, 0, none⟩ = some (.bool s2) ∧ W.cell? ⟨X2, 1, none⟩ = some (.slice a2 l2.length c2)) (go_keep) (first | (go_at_call 15; refine (HC2 _ R1u R2u).mono ?_; rintro e u2 ⟨rfl, b2⟩; have V2 := V1.trans (b2.mono V1.size); obtain ⟨-, x4, x5⟩ := B1u.keep b2; obtain ⟨-, x6, x7⟩ := B2u.keep b2) | (go_at_call 15; refine (HC1 _ R1.drew R2.drew).mono ?_; rintro e u1 ⟨rfl, b1⟩; have B1u := B1.drew.keep b1; have B2u := B2.drew.keep b1; obtain ⟨-, x0, x1⟩ := id B1u; obtain ⟨-, x2, x3⟩ := id B2u; have R1u := R1.drew.keep b1; have R2u := R2.drew.keep b1; have V1 := V.drew.trans (b1.mono V.size)))
              all_goals go_wp2
              all_goals go_ret
              all_goals exact ⟨by simp, V2⟩
          · generalize zS (okB s13 l13 && okB s14 l14) (iv s13 l13 + iv s14 l14) = s15 at HT
            generalize zL (okB s13 l13 && okB s14 l14) (iv s13 l13 + iv s14 l14) = l15 at HT
            generalize zC (okB s13 l13 && okB s14 l14) (iv s13 l13 + iv s14 l14) = e8 at HT
            obtain ⟨m13, y13, z13⟩ := id B13
            obtain ⟨m14, y14, z14⟩ := id B14
            go_wp2_with fail
            refine (HT _ R13 R14).mono ?_
            rintro e v147 ⟨a15, c15, rfl, O147, b147⟩
            clear m13 y13 z13 m14 y14 z14
            have al : Below v147.heap.size v147 (v147.alloc (.cells #[.bool s15, .slice a15 l15.length c15] 26)) := (Below.refl _ _).alloc (Nat.le_refl _) _
            replace V := (V.trans (b147.mono V.size)).trans (al.mono (V.trans (b147.mono V.size)).size)
            replace B1 := (B1.keep b147).keep al
            replace R1 := (R1.keep b147).keep al
            replace B2 := (B2.keep b147).keep al
            replace R2 := (R2.keep b147).keep al
            replace B12 := (B12.keep b147).keep al
            replace R12 := (R12.keep b147).keep al
            replace B13 := (B13.keep b147).keep al
            replace R13 := (R13.keep b147).keep al
            replace B14 := (B14.keep b147).keep al
            replace R14 := (R14.keep b147).keep al
            have B15 := Box.new v147 (.bool s15) (.slice a15 l15.length c15) 26
            have R15 := O147.rd.keep al
            clear O147 b147 al
            generalize hw : v147.alloc (.cells #[.bool s15, .slice a15 l15.length c15] 26) = w147 at V B1 R1 B2 R2 B12 R12 B13 R13 B14 R14 B15 R15
            generalize hX : v147.heap.size = X15 at B15
            go_upto_region 22 with fail
            clear hw hX
            clear B12 R12 B13 R13 B14 R14 B15 R15
            rcases E5 with rfl | rfl
            · rcases E6 with rfl | rfl
              · rcases E7 with rfl | rfl
                · exact absurd ⟨rfl, rfl⟩ hb
                · clear HE
                  obtain ⟨m1, y1, z1⟩ := id B1
                  obtain ⟨m2, y2, z2⟩ := id B2
                  go_upto_region 24 with fail
                  go_region_held3 (fun W => W.cell? ⟨X1, 0, none⟩ = some (.bool s1) ∧ W.cell? ⟨X1, 1, none⟩ = some (.slice a1 l1.length c1) ∧ W.cell? ⟨X2, 0, none⟩ = some (.bool s2) ∧ W.cell? ⟨X2, 1, none⟩ = some (.slice a2 l2.length c2)) (go_keep) (first | (go_at_call 15; refine (HC2 _ R1u R2u).mono ?_; rintro e u2 ⟨rfl, b2⟩; have V2 := V1.trans (b2.mono V1.size); obtain ⟨-, x4, x5⟩ := B1u.keep b2; obtain ⟨-, x6, x7⟩ := B2u.keep b2) | (go_at_call 15; refine (HC1 _ R1.drew R2.drew).mono ?_; rintro e u1 ⟨rfl, b1⟩; have B1u := B1.drew.keep b1; have B2u := B2.drew.keep b1; obtain ⟨-, x0, x1⟩ := id B1u; obtain ⟨-, x2, x3⟩ := id B2u; have R1u := R1.drew.keep b1; have R2u := R2.drew.keep b1; have V1 := V.drew.trans (b1.mono V.size)))
                  all_goals go_wp2
                  all_goals go_ret
                  all_goals exact ⟨by simp, V2⟩
              · clear HE
                obtain ⟨m1, y1, z1⟩ := id B1
                obtain ⟨m2, y2, z2⟩ := id B2
                go_upto_region 24 with fail
                go_region_held3 (fun W => W.cell? ⟨X1, 0, none⟩ = some (.bool s1) ∧ W.cell? ⟨X1, 1, none⟩ = some (.slice a1 l1.length c1) ∧ W.cell? ⟨X2, 0, none⟩ = some (.bool s2) ∧ W.cell? ⟨X2, 1, none⟩ = some (.slice a2 l2.length c2)) (go_keep) (first | (go_at_call 15; refine (HC2 _ R1u R2u).mono ?_; rintro e u2 ⟨rfl, b2⟩; have V2 := V1.trans (b2.mono V1.size); obtain ⟨-, x4, x5⟩ := B1u.keep b2; obtain ⟨-, x6, x7⟩ := B2u.keep b2) | (go_at_call 15; refine (HC1 _ R1.drew R2.drew).mono ?_; rintro e u1 ⟨rfl, b1⟩; have B1u := B1.drew.keep b1; have B2u := B2.drew.keep b1; obtain ⟨-, x0, x1⟩ := id B1u; obtain ⟨-, x2, x3⟩ := id B2u; have R1u := R1.drew.keep b1; have R2u := R2.drew.keep b1; have V1 := V.drew.trans (b1.mono V.size)))
                all_goals go_wp2
                all_goals go_ret
                all_goals exact ⟨by simp, V2⟩
            · clear HE
              obtain ⟨m1, y1, z1⟩ := id B1
              obtain ⟨m2, y2, z2⟩ := id B2
              go_upto_region 24 with fail
              go_region_held3 (fun W => W.cell? ⟨X1, 0, none⟩ = some (.bool s1) ∧ W.cell? ⟨X1, 1, none⟩ = some (.slice a1 l1.length c1) ∧ W.cell? ⟨X2, 0, none⟩ = some (.bool s2) ∧ W.cell? ⟨X2, 1, none⟩ = some (.slice a2 l2.length c2)) (go_keep) (first | (go_at_call 15; refine (HC2 _ R1u R2u).mono ?_; rintro e u2 ⟨rfl, b2⟩; have V2 := V1.trans (b2.mono V1.size); obtain ⟨-, x4, x5⟩ := B1u.keep b2; obtain ⟨-, x6, x7⟩ := B2u.keep b2) | (go_at_call 15; refine (HC1 _ R1.drew R2.drew).mono ?_; rintro e u1 ⟨rfl, b1⟩; have B1u := B1.drew.keep b1; have B2u := B2.drew.keep b1; obtain ⟨-, x0, x1⟩ := id B1u; obtain ⟨-, x2, x3⟩ := id B2u; have R1u := R1.drew.keep b1; have R2u := R2.drew.keep b1; have V1 := V.drew.trans (b1.mono V.size)))
              all_goals go_wp2
              all_goals go_ret
              all_goals exact ⟨by simp, V2⟩
    · rcases HE3.out with rfl | rfl
      · have F3 := HG3.out rfl
        simp only [F3.2] at K6
        clear HE1 HE3 HG1 HG3
        obtain ⟨m4, y4, z4⟩ := id B4
        obtain ⟨m5, y5, z5⟩ := id B5
        go_wp2_with fail
        refine (sameBig_any s4 _ _ l4 _ R4 R5).mono ?_
        rintro e w148 ⟨rfl, b148⟩
        clear m4 y4 z4 m5 y5 z5
        replace V := V.trans (b148.mono V.size)
        replace B1 := B1.keep b148
        replace R1 := R1.keep b148
        replace B2 := B2.keep b148
        replace R2 := R2.keep b148
        replace B3 := B3.keep b148
        replace R3 := R3.keep b148
        replace B4 := B4.keep b148
        replace R4 := R4.keep b148
        replace B5 := B5.keep b148
        replace R5 := R5.keep b148
        replace B6 := B6.keep b148
        replace R6 := R6.keep b148
        replace B7 := B7.keep b148
        replace R7 := R7.keep b148
        clear b148
        obtain ⟨m6, y6, z6⟩ := id B6
        obtain ⟨m7, y7, z7⟩ := id B7
        go_wp2_with fail
        refine (sameBig_any s6 _ _ l6 _ R6 R7).mono ?_
        rintro e w149 ⟨rfl, b149⟩
        clear m6 y6 z6 m7 y7 z7
        replace V := V.trans (b149.mono V.size)
        replace B1 := B1.keep b149
        replace R1 := R1.keep b149
        replace B2 := B2.keep b149
        replace R2 := R2.keep b149
        replace B3 := B3.keep b149
        replace R3 := R3.keep b149
        replace B4 := B4.keep b149
        replace R4 := R4.keep b149
        replace B5 := B5.keep b149
        replace R5 := R5.keep b149
        replace B6 := B6.keep b149
        replace R6 := R6.keep b149
        replace B7 := B7.keep b149
        replace R7 := R7.keep b149
        clear b149
        obtain ⟨m6, y6, z6⟩ := id B6
        go_wp2_with fail
        refine (K6 _ R6).mono ?_
        rintro e w150 ⟨rfl, b150⟩
        clear m6 y6 z6
        replace V := V.trans (b150.mono V.size)
        replace B1 := B1.keep b150
        replace R1 := R1.keep b150
        replace B2 := B2.keep b150
        replace R2 := R2.keep b150
        replace B3 := B3.keep b150
        replace R3 := R3.keep b150
        replace B4 := B4.keep b150
        replace R4 := R4.keep b150
        replace B5 := B5.keep b150
        replace R5 := R5.keep b150
        replace B6 := B6.keep b150
        replace R6 := R6.keep b150
        replace B7 := B7.keep b150
        replace R7 := R7.keep b150
        clear b150
        clear B5 R5 B6 R6 B7 R7
        cases g3 : okB s3 l3
        · simp only [g3] at K3
          clear B4 R4
          obtain ⟨m1, y1, z1⟩ := id B1
          go_wp2_with fail
          refine (K1 _ R1).mono ?_
          rintro e w151 ⟨rfl, b151⟩
          clear m1 y1 z1
          replace V := V.trans (b151.mono V.size)
          replace B1 := B1.keep b151
          replace R1 := R1.keep b151
          replace B2 := B2.keep b151
          replace R2 := R2.keep b151
          replace B3 := B3.keep b151
          replace R3 := R3.keep b151
          clear b151
          obtain ⟨m2, y2, z2⟩ := id B2
          go_wp2_with fail
          refine (K2 _ R2).mono ?_
          rintro e w152 ⟨rfl, b152⟩
          clear m2 y2 z2
          replace V := V.trans (b152.mono V.size)
          replace B1 := B1.keep b152
          replace R1 := R1.keep b152
          replace B2 := B2.keep b152
          replace R2 := R2.keep b152
          replace B3 := B3.keep b152
          replace R3 := R3.keep b152
          clear b152
          obtain ⟨m3, y3, z3⟩ := id B3
          go_wp2_with fail
          refine (K3 _ R3).mono ?_
          rintro e w153 ⟨rfl, b153⟩
          clear m3 y3 z3
          replace V := V.trans (b153.mono V.size)
          replace B1 := B1.keep b153
          replace R1 := R1.keep b153
          replace B2 := B2.keep b153
          replace R2 := R2.keep b153
          replace B3 := B3.keep b153
          replace R3 := R3.keep b153
          clear b153
          go_wp2_with fail
          refine (HO3 _).mono ?_
          rintro e v154 ⟨a8, c8, rfl, O8, b8⟩
          replace V := V.trans (b8.mono V.size)
          replace B1 := B1.keep b8
          replace R1 := R1.keep b8
          replace B2 := B2.keep b8
          replace R2 := R2.keep b8
          replace B3 := B3.keep b8
          replace R3 := R3.keep b8
          go_wp2_with fail
          refine (HO5 _).mono ?_
          rintro e v154' ⟨a9, c9, rfl, O9, b9⟩
          replace V := V.trans (b9.mono V.size)
          replace B1 := B1.keep b9
          replace R1 := R1.keep b9
          replace B2 := B2.keep b9
          replace R2 := R2.keep b9
          replace B3 := B3.keep b9
          replace R3 := R3.keep b9
          replace O8 := O8.keep b9
          clear b8 b9
          go_wp2_with fail
          refine (HM35 _ _ _ O8.rd O9.rd).mono ?_
          rintro e v155 ⟨a10, c10, rfl, O155, b155⟩
          have al : Below v155.heap.size v155 (v155.alloc (.cells #[.bool s9, .slice a10 l9.length c10] 26)) := (Below.refl _ _).alloc (Nat.le_refl _) _
          replace V := (V.trans (b155.mono V.size)).trans (al.mono (V.trans (b155.mono V.size)).size)
          replace B1 := (B1.keep b155).keep al
          replace R1 := (R1.keep b155).keep al
          replace B2 := (B2.keep b155).keep al
          replace R2 := (R2.keep b155).keep al
          replace B3 := (B3.keep b155).keep al
          replace R3 := (R3.keep b155).keep al
          have B9 := Box.new v155 (.bool s9) (.slice a10 l9.length c10) 26
          have R9 := O155.rd.keep al
          clear O155 b155 al
          generalize hw : v155.alloc (.cells #[.bool s9, .slice a10 l9.length c10] 26) = w155 at V B1 R1 B2 R2 B3 R3 B9 R9
          generalize hX : v155.heap.size = X9 at B9
          go_upto_region 13 with fail
          clear hw hX
          obtain ⟨m1, y1, z1⟩ := id B1
          go_wp2_with fail
          refine (K1 _ R1).mono ?_
          rintro e w156 ⟨rfl, b156⟩
          clear m1 y1 z1
          replace V := V.trans (b156.mono V.size)
          replace B1 := B1.keep b156
          replace R1 := R1.keep b156
          replace B2 := B2.keep b156
          replace R2 := R2.keep b156
          replace B3 := B3.keep b156
          replace R3 := R3.keep b156
          clear b156
          obtain ⟨m2, y2, z2⟩ := id B2
          go_wp2_with fail
          refine (K2 _ R2).mono ?_
          rintro e w157 ⟨rfl, b157⟩
          clear m2 y2 z2
          replace V := V.trans (b157.mono V.size)
          replace B1 := B1.keep b157
          replace R1 := R1.keep b157
          replace B2 := B2.keep b157
          replace R2 := R2.keep b157
          replace B3 := B3.keep b157
          replace R3 := R3.keep b157
          clear b157
          go_wp2
          go_ret
          exact ⟨rfl, V⟩
        · simp only [g3] at K3
          clear B4 R4
          obtain ⟨m1, y1, z1⟩ := id B1
          go_wp2_with fail
          refine (K1 _ R1).mono ?_
          rintro e w158 ⟨rfl, b158⟩
          clear m1 y1 z1
          replace V := V.trans (b158.mono V.size)
          replace B1 := B1.keep b158
          replace R1 := R1.keep b158
          replace B2 := B2.keep b158
          replace R2 := R2.keep b158
          replace B3 := B3.keep b158
          replace R3 := R3.keep b158
          clear b158
          obtain ⟨m2, y2, z2⟩ := id B2
          go_wp2_with fail
          refine (K2 _ R2).mono ?_
          rintro e w159 ⟨rfl, b159⟩
          clear m2 y2 z2
          replace V := V.trans (b159.mono V.size)
          replace B1 := B1.keep b159
          replace R1 := R1.keep b159
          replace B2 := B2.keep b159
          replace R2 := R2.keep b159
          replace B3 := B3.keep b159
          replace R3 := R3.keep b159
          clear b159
          obtain ⟨m3, y3, z3⟩ := id B3
          go_wp2_with fail
          refine (K3 _ R3).mono ?_
          rintro e w160 ⟨rfl, b160⟩
          clear m3 y3 z3
          replace V := V.trans (b160.mono V.size)
          replace B1 := B1.keep b160
          replace R1 := R1.keep b160
          replace B2 := B2.keep b160
          replace R2 := R2.keep b160
          replace B3 := B3.keep b160
          replace R3 := R3.keep b160
          clear b160
          obtain ⟨m1, y1, z1⟩ := id B1
          obtain ⟨m2, y2, z2⟩ := id B2
          go_upto_region 24 with fail
          go_region_held3 (fun W => W.cell? ⟨X1, 0, none⟩ = some (.bool s1) ∧ W.cell? ⟨X1, 1, none⟩ = some (.slice a1 l1.length c1) ∧ W.cell? ⟨X2, 0, none⟩ = some (.bool s2) ∧ W.cell? ⟨X2, 1, none⟩ = some (.slice a2 l2.length c2)) (go_keep) (first | (go_at_call 15; refine (HC2 _ R1u R2u).mono ?_; rintro e u2 ⟨rfl, b2⟩; have V2 := V1.trans (b2.mono V1.size); obtain ⟨-, x4, x5⟩ := B1u.keep b2; obtain ⟨-, x6, x7⟩ := B2u.keep b2) | (go_at_call 15; refine (HC1 _ R1.drew R2.drew).mono ?_; rintro e u1 ⟨rfl, b1⟩; have B1u := B1.drew.keep b1; have B2u := B2.drew.keep b1; obtain ⟨-, x0, x1⟩ := id B1u; obtain ⟨-, x2, x3⟩ := id B2u; have R1u := R1.drew.keep b1; have R2u := R2.drew.keep b1; have V1 := V.drew.trans (b1.mono V.size)))
          all_goals go_wp2
          all_goals go_ret
          all_goals exact ⟨by simp, V2⟩
      · clear HE1 HE3 HG1 HG3
        obtain ⟨m4, y4, z4⟩ := id B4
        obtain ⟨m5, y5, z5⟩ := id B5
        go_wp2_with fail
        refine (sameBig_any s4 _ _ l4 _ R4 R5).mono ?_
        rintro e w161 ⟨rfl, b161⟩
        clear m4 y4 z4 m5 y5 z5
        replace V := V.trans (b161.mono V.size)
        replace B1 := B1.keep b161
        replace R1 := R1.keep b161
        replace B2 := B2.keep b161
        replace R2 := R2.keep b161
        replace B3 := B3.keep b161
        replace R3 := R3.keep b161
        replace B4 := B4.keep b161
        replace R4 := R4.keep b161
        replace B5 := B5.keep b161
        replace R5 := R5.keep b161
        replace B6 := B6.keep b161
        replace R6 := R6.keep b161
        replace B7 := B7.keep b161
        replace R7 := R7.keep b161
        clear b161
        obtain ⟨m6, y6, z6⟩ := id B6
        obtain ⟨m7, y7, z7⟩ := id B7
        go_wp2_with fail
        refine (sameBig_any s6 _ _ l6 _ R6 R7).mono ?_
        rintro e w162 ⟨rfl, b162⟩
        clear m6 y6 z6 m7 y7 z7
        replace V := V.trans (b162.mono V.size)
        replace B1 := B1.keep b162
        replace R1 := R1.keep b162
        replace B2 := B2.keep b162
        replace R2 := R2.keep b162
        replace B3 := B3.keep b162
        replace R3 := R3.keep b162
        replace B4 := B4.keep b162
        replace R4 := R4.keep b162
        replace B5 := B5.keep b162
        replace R5 := R5.keep b162
        replace B6 := B6.keep b162
        replace R6 := R6.keep b162
        replace B7 := B7.keep b162
        replace R7 := R7.keep b162
        clear b162
        clear B5 R5 B6 R6 B7 R7
        cases g3 : okB s3 l3
        · simp only [g3] at K3
          clear B4 R4
          obtain ⟨m1, y1, z1⟩ := id B1
          go_wp2_with fail
          refine (K1 _ R1).mono ?_
          rintro e w163 ⟨rfl, b163⟩
          clear m1 y1 z1
          replace V := V.trans (b163.mono V.size)
          replace B1 := B1.keep b163
          replace R1 := R1.keep b163
          replace B2 := B2.keep b163
          replace R2 := R2.keep b163
          replace B3 := B3.keep b163
          replace R3 := R3.keep b163
          clear b163
          obtain ⟨m2, y2, z2⟩ := id B2
          go_wp2_with fail
          refine (K2 _ R2).mono ?_
          rintro e w164 ⟨rfl, b164⟩
          clear m2 y2 z2
          replace V := V.trans (b164.mono V.size)
          replace B1 := B1.keep b164
          replace R1 := R1.keep b164
          replace B2 := B2.keep b164
          replace R2 := R2.keep b164
          replace B3 := B3.keep b164
          replace R3 := R3.keep b164
          clear b164
          obtain ⟨m3, y3, z3⟩ := id B3
          go_wp2_with fail
          refine (K3 _ R3).mono ?_
          rintro e w165 ⟨rfl, b165⟩
          clear m3 y3 z3
          replace V := V.trans (b165.mono V.size)
          replace B1 := B1.keep b165
          replace R1 := R1.keep b165
          replace B2 := B2.keep b165
          replace R2 := R2.keep b165
          replace B3 := B3.keep b165
          replace R3 := R3.keep b165
          clear b165
          go_wp2_with fail
          refine (HO3 _).mono ?_
          rintro e v166 ⟨a8, c8, rfl, O8, b8⟩
          replace V := V.trans (b8.mono V.size)
          replace B1 := B1.keep b8
          replace R1 := R1.keep b8
          replace B2 := B2.keep b8
          replace R2 := R2.keep b8
          replace B3 := B3.keep b8
          replace R3 := R3.keep b8
          go_wp2_with fail
          refine (HO5 _).mono ?_
          rintro e v166' ⟨a9, c9, rfl, O9, b9⟩
          replace V := V.trans (b9.mono V.size)
          replace B1 := B1.keep b9
          replace R1 := R1.keep b9
          replace B2 := B2.keep b9
          replace R2 := R2.keep b9
          replace B3 := B3.keep b9
          replace R3 := R3.keep b9
          replace O8 := O8.keep b9
          clear b8 b9
          go_wp2_with fail
          refine (HM35 _ _ _ O8.rd O9.rd).mono ?_
          rintro e v167 ⟨a10, c10, rfl, O167, b167⟩
          have al : Below v167.heap.size v167 (v167.alloc (.cells #[.bool s9, .slice a10 l9.length c10] 26)) := (Below.refl _ _).alloc (Nat.le_refl _) _
          replace V := (V.trans (b167.mono V.size)).trans (al.mono (V.trans (b167.mono V.size)).size)
          replace B1 := (B1.keep b167).keep al
          replace R1 := (R1.keep b167).keep al
          replace B2 := (B2.keep b167).keep al
          replace R2 := (R2.keep b167).keep al
          replace B3 := (B3.keep b167).keep al
          replace R3 := (R3.keep b167).keep al
          have B9 := Box.new v167 (.bool s9) (.slice a10 l9.length c10) 26
          have R9 := O167.rd.keep al
          clear O167 b167 al
          generalize hw : v167.alloc (.cells #[.bool s9, .slice a10 l9.length c10] 26) = w167 at V B1 R1 B2 R2 B3 R3 B9 R9
          generalize hX : v167.heap.size = X9 at B9
          go_upto_region 13 with fail
          clear hw hX
          obtain ⟨m1, y1, z1⟩ := id B1
          go_wp2_with fail
          refine (K1 _ R1).mono ?_
          rintro e w168 ⟨rfl, b168⟩
          clear m1 y1 z1
          replace V := V.trans (b168.mono V.size)
          replace B1 := B1.keep b168
          replace R1 := R1.keep b168
          replace B2 := B2.keep b168
          replace R2 := R2.keep b168
          replace B3 := B3.keep b168
          replace R3 := R3.keep b168
          clear b168
          obtain ⟨m2, y2, z2⟩ := id B2
          go_wp2_with fail
          refine (K2 _ R2).mono ?_
          rintro e w169 ⟨rfl, b169⟩
          clear m2 y2 z2
          replace V := V.trans (b169.mono V.size)
          replace B1 := B1.keep b169
          replace R1 := R1.keep b169
          replace B2 := B2.keep b169
          replace R2 := R2.keep b169
          replace B3 := B3.keep b169
          replace R3 := R3.keep b169
          clear b169
          go_wp2
          go_ret
          exact ⟨rfl, V⟩
        · simp only [g3] at K3
          clear B4 R4
          obtain ⟨m1, y1, z1⟩ := id B1
          go_wp2_with fail
          refine (K1 _ R1).mono ?_
          rintro e w170 ⟨rfl, b170⟩
          clear m1 y1 z1
          replace V := V.trans (b170.mono V.size)
          replace B1 := B1.keep b170
          replace R1 := R1.keep b170
          replace B2 := B2.keep b170
          replace R2 := R2.keep b170
          replace B3 := B3.keep b170
          replace R3 := R3.keep b170
          clear b170
          obtain ⟨m2, y2, z2⟩ := id B2
          go_wp2_with fail
          refine (K2 _ R2).mono ?_
          rintro e w171 ⟨rfl, b171⟩
          clear m2 y2 z2
          replace V := V.trans (b171.mono V.size)
          replace B1 := B1.keep b171
          replace R1 := R1.keep b171
          replace B2 := B2.keep b171
          replace R2 := R2.keep b171
          replace B3 := B3.keep b171
          replace R3 := R3.keep b171
          clear b171
          obtain ⟨m3, y3, z3⟩ := id B3
          go_wp2_with fail
          refine (K3 _ R3).mono ?_
          rintro e w172 ⟨rfl, b172⟩
          clear m3 y3 z3
          replace V := V.trans (b172.mono V.size)
          replace B1 := B1.keep b172
          replace R1 := R1.keep b172
          replace B2 := B2.keep b172
          replace R2 := R2.keep b172
          replace B3 := B3.keep b172
          replace R3 := R3.keep b172
          clear b172
          obtain ⟨m1, y1, z1⟩ := id B1
          obtain ⟨m2, y2, z2⟩ := id B2
          go_upto_region 24 with fail
          go_region_held3 (fun W => W.cell? ⟨X1, 0, none⟩ = some (.bool s1) ∧ W.cell? ⟨X1, 1, none⟩ = some (.slice a1 l1.length c1) ∧ W.cell? ⟨X2, 0, none⟩ = some (.bool s2) ∧ W.cell? ⟨X2, 1, none⟩ = some (.slice a2 l2.length c2)) (go_keep) (first | (go_at_call 15; refine (HC2 _ R1u R2u).mono ?_; rintro e u2 ⟨rfl, b2⟩; have V2 := V1.trans (b2.mono V1.size); obtain ⟨-, x4, x5⟩ := B1u.keep b2; obtain ⟨-, x6, x7⟩ := B2u.keep b2) | (go_at_call 15; refine (HC1 _ R1.drew R2.drew).mono ?_; rintro e u1 ⟨rfl, b1⟩; have B1u := B1.drew.keep b1; have B2u := B2.drew.keep b1; obtain ⟨-, x0, x1⟩ := id B1u; obtain ⟨-, x2, x3⟩ := id B2u; have R1u := R1.drew.keep b1; have R2u := R2.drew.keep b1; have V1 := V.drew.trans (b1.mono V.size)))
          all_goals go_wp2
          all_goals go_ret
          all_goals exact ⟨by simp, V2⟩

  · have hgf : (okB s1 l1 && okB s2 l2) = false := by
      cases h1 : okB s1 l1
      · rfl
      · cases h2 : okB s2 l2
        · rfl
        · exact absurd ⟨h1, h2⟩ hg
    simp only [hgf] at HA HA' HM HM'
    simp only [show ∀ z, zC false z = 1 from fun _ => rfl] at HA HA' HM HM'
    generalize zS false (iv s1 l1 + iv s2 l2) = s4 at HA HA'
    generalize zL false (iv s1 l1 + iv s2 l2) = l4 at HA HA'
    generalize zS false (iv s1 l1 * iv s2 l2) = s6 at HM HM'
    generalize zL false (iv s1 l1 * iv s2 l2) = l6 at HM HM'
    clear hg hz1 hz2
    obtain ⟨m1, y1, z1⟩ := id B1
    obtain ⟨m2, y2, z2⟩ := id B2
    go_wp2_with fail
    refine (HA _ R1 R2).mono ?_
    rintro e v173 ⟨a4, c4, rfl, O173, b173⟩
    clear m1 y1 z1 m2 y2 z2
    have al : Below v173.heap.size v173 (v173.alloc (.cells #[.bool s4, .slice a4 l4.length c4] 26)) := (Below.refl _ _).alloc (Nat.le_refl _) _
    replace V := (V.trans (b173.mono V.size)).trans (al.mono (V.trans (b173.mono V.size)).size)
    replace B1 := (B1.keep b173).keep al
    replace R1 := (R1.keep b173).keep al
    replace B2 := (B2.keep b173).keep al
    replace R2 := (R2.keep b173).keep al
    replace B3 := (B3.keep b173).keep al
    replace R3 := (R3.keep b173).keep al
    have B4 := Box.new v173 (.bool s4) (.slice a4 l4.length c4) 26
    have R4 := O173.rd.keep al
    clear O173 b173 al
    generalize hw : v173.alloc (.cells #[.bool s4, .slice a4 l4.length c4] 26) = w173 at V B1 R1 B2 R2 B3 R3 B4 R4
    generalize hX : v173.heap.size = X4 at B4
    go_upto_region 6 with fail
    clear hw hX
    obtain ⟨m1, y1, z1⟩ := id B1
    obtain ⟨m2, y2, z2⟩ := id B2
    go_wp2_with fail
    refine (HA' _ R1 R2).mono ?_
    rintro e v174 ⟨a5, c5, rfl, O174, b174⟩
    clear m1 y1 z1 m2 y2 z2
    have al : Below v174.heap.size v174 (v174.alloc (.cells #[.bool s4, .slice a5 l4.length c5] 26)) := (Below.refl _ _).alloc (Nat.le_refl _) _
    replace V := (V.trans (b174.mono V.size)).trans (al.mono (V.trans (b174.mono V.size)).size)
    replace B1 := (B1.keep b174).keep al
    replace R1 := (R1.keep b174).keep al
    replace B2 := (B2.keep b174).keep al
    replace R2 := (R2.keep b174).keep al
    replace B3 := (B3.keep b174).keep al
    replace R3 := (R3.keep b174).keep al
    replace B4 := (B4.keep b174).keep al
    replace R4 := (R4.keep b174).keep al
    have B5 := Box.new v174 (.bool s4) (.slice a5 l4.length c5) 26
    have R5 := O174.rd.keep al
    clear O174 b174 al
    generalize hw : v174.alloc (.cells #[.bool s4, .slice a5 l4.length c5] 26) = w174 at V B1 R1 B2 R2 B3 R3 B4 R4 B5 R5
    generalize hX : v174.heap.size = X5 at B5
    go_upto_region 7 with fail
    clear hw hX
    obtain ⟨m1, y1, z1⟩ := id B1
    obtain ⟨m2, y2, z2⟩ := id B2
    go_wp2_with fail
    refine (HM _ R1 R2).mono ?_
    rintro e v175 ⟨a6, c6, rfl, O175, b175⟩
    clear m1 y1 z1 m2 y2 z2
    have al : Below v175.heap.size v175 (v175.alloc (.cells #[.bool s6, .slice a6 l6.length c6] 26)) := (Below.refl _ _).alloc (Nat.le_refl _) _
    replace V := (V.trans (b175.mono V.size)).trans (al.mono (V.trans (b175.mono V.size)).size)
    replace B1 := (B1.keep b175).keep al
    replace R1 := (R1.keep b175).keep al
    replace B2 := (B2.keep b175).keep al
    replace R2 := (R2.keep b175).keep al
    replace B3 := (B3.keep b175).keep al
    replace R3 := (R3.keep b175).keep al
    replace B4 := (B4.keep b175).keep al
    replace R4 := (R4.keep b175).keep al
    replace B5 := (B5.keep b175).keep al
    replace R5 := (R5.keep b175).keep al
    have B6 := Box.new v175 (.bool s6) (.slice a6 l6.length c6) 26
    have R6 := O175.rd.keep al
    clear O175 b175 al
    generalize hw : v175.alloc (.cells #[.bool s6, .slice a6 l6.length c6] 26) = w175 at V B1 R1 B2 R2 B3 R3 B4 R4 B5 R5 B6 R6
    generalize hX : v175.heap.size = X6 at B6
    go_upto_region 8 with fail
    clear hw hX
    obtain ⟨m1, y1, z1⟩ := id B1
    obtain ⟨m2, y2, z2⟩ := id B2
    go_wp2_with fail
    refine (HM' _ R1 R2).mono ?_
    rintro e v176 ⟨a7, c7, rfl, O176, b176⟩
    clear m1 y1 z1 m2 y2 z2
    have al : Below v176.heap.size v176 (v176.alloc (.cells #[.bool s6, .slice a7 l6.length c7] 26)) := (Below.refl _ _).alloc (Nat.le_refl _) _
    replace V := (V.trans (b176.mono V.size)).trans (al.mono (V.trans (b176.mono V.size)).size)
    replace B1 := (B1.keep b176).keep al
    replace R1 := (R1.keep b176).keep al
    replace B2 := (B2.keep b176).keep al
    replace R2 := (R2.keep b176).keep al
    replace B3 := (B3.keep b176).keep al
    replace R3 := (R3.keep b176).keep al
    replace B4 := (B4.keep b176).keep al
    replace R4 := (R4.keep b176).keep al
    replace B5 := (B5.keep b176).keep al
    replace R5 := (R5.keep b176).keep al
    replace B6 := (B6.keep b176).keep al
    replace R6 := (R6.keep b176).keep al
    have B7 := Box.new v176 (.bool s6) (.slice a7 l6.length c7) 26
    have R7 := O176.rd.keep al
    clear O176 b176 al
    generalize hw : v176.alloc (.cells #[.bool s6, .slice a7 l6.length c7] 26) = w176 at V B1 R1 B2 R2 B3 R3 B4 R4 B5 R5 B6 R6 B7 R7
    generalize hX : v176.heap.size = X7 at B7
    go_upto_region 9 with fail
    clear hw hX
    obtain ⟨m4, y4, z4⟩ := id B4
    obtain ⟨m5, y5, z5⟩ := id B5
    go_wp2_with fail
    refine (sameBig_any s4 _ _ l4 _ R4 R5).mono ?_
    rintro e w177 ⟨rfl, b177⟩
    clear m4 y4 z4 m5 y5 z5
    replace V := V.trans (b177.mono V.size)
    replace B1 := B1.keep b177
    replace R1 := R1.keep b177
    replace B2 := B2.keep b177
    replace R2 := R2.keep b177
    replace B3 := B3.keep b177
    replace R3 := R3.keep b177
    replace B4 := B4.keep b177
    replace R4 := R4.keep b177
    replace B5 := B5.keep b177
    replace R5 := R5.keep b177
    replace B6 := B6.keep b177
    replace R6 := R6.keep b177
    replace B7 := B7.keep b177
    replace R7 := R7.keep b177
    clear b177
    obtain ⟨m6, y6, z6⟩ := id B6
    obtain ⟨m7, y7, z7⟩ := id B7
    go_wp2_with fail
    refine (sameBig_any s6 _ _ l6 _ R6 R7).mono ?_
    rintro e w178 ⟨rfl, b178⟩
    clear m6 y6 z6 m7 y7 z7
    replace V := V.trans (b178.mono V.size)
    replace B1 := B1.keep b178
    replace R1 := R1.keep b178
    replace B2 := B2.keep b178
    replace R2 := R2.keep b178
    replace B3 := B3.keep b178
    replace R3 := R3.keep b178
    replace B4 := B4.keep b178
    replace R4 := R4.keep b178
    replace B5 := B5.keep b178
    replace R5 := R5.keep b178
    replace B6 := B6.keep b178
    replace R6 := R6.keep b178
    replace B7 := B7.keep b178
    replace R7 := R7.keep b178
    clear b178
    clear B4 R4 B5 R5 B6 R6 B7 R7
    cases h1 : okB s1 l1
    · simp only [h1] at K1
      obtain ⟨m1, y1, z1⟩ := id B1
      go_wp2_with fail
      refine (K1 _ R1).mono ?_
      rintro e w179 ⟨rfl, b179⟩
      clear m1 y1 z1
      replace V := V.trans (b179.mono V.size)
      replace B1 := B1.keep b179
      replace R1 := R1.keep b179
      replace B2 := B2.keep b179
      replace R2 := R2.keep b179
      replace B3 := B3.keep b179
      replace R3 := R3.keep b179
      clear b179
      go_wp2_with fail
      refine (HO3 _).mono ?_
      rintro e v180 ⟨a8, c8, rfl, O8, b8⟩
      replace V := V.trans (b8.mono V.size)
      replace B1 := B1.keep b8
      replace R1 := R1.keep b8
      replace B2 := B2.keep b8
      replace R2 := R2.keep b8
      replace B3 := B3.keep b8
      replace R3 := R3.keep b8
      go_wp2_with fail
      refine (HO5 _).mono ?_
      rintro e v180' ⟨a9, c9, rfl, O9, b9⟩
      replace V := V.trans (b9.mono V.size)
      replace B1 := B1.keep b9
      replace R1 := R1.keep b9
      replace B2 := B2.keep b9
      replace R2 := R2.keep b9
      replace B3 := B3.keep b9
      replace R3 := R3.keep b9
      replace O8 := O8.keep b9
      clear b8 b9
      go_wp2_with fail
      refine (HM35 _ _ _ O8.rd O9.rd).mono ?_
      rintro e v181 ⟨a10, c10, rfl, O181, b181⟩
      have al : Below v181.heap.size v181 (v181.alloc (.cells #[.bool s9, .slice a10 l9.length c10] 26)) := (Below.refl _ _).alloc (Nat.le_refl _) _
      replace V := (V.trans (b181.mono V.size)).trans (al.mono (V.trans (b181.mono V.size)).size)
      replace B1 := (B1.keep b181).keep al
      replace R1 := (R1.keep b181).keep al
      replace B2 := (B2.keep b181).keep al
      replace R2 := (R2.keep b181).keep al
      replace B3 := (B3.keep b181).keep al
      replace R3 := (R3.keep b181).keep al
      have B9 := Box.new v181 (.bool s9) (.slice a10 l9.length c10) 26
      have R9 := O181.rd.keep al
      clear O181 b181 al
      generalize hw : v181.alloc (.cells #[.bool s9, .slice a10 l9.length c10] 26) = w181 at V B1 R1 B2 R2 B3 R3 B9 R9
      generalize hX : v181.heap.size = X9 at B9
      go_upto_region 13 with fail
      clear hw hX
      go_wp2
      go_ret
      exact ⟨rfl, V⟩
    · simp only [h1] at K1 hgf
      rw [Bool.true_and] at hgf
      simp only [hgf] at K2
      obtain ⟨m1, y1, z1⟩ := id B1
      go_wp2_with fail
      refine (K1 _ R1).mono ?_
      rintro e w182 ⟨rfl, b182⟩
      clear m1 y1 z1
      replace V := V.trans (b182.mono V.size)
      replace B1 := B1.keep b182
      replace R1 := R1.keep b182
      replace B2 := B2.keep b182
      replace R2 := R2.keep b182
      replace B3 := B3.keep b182
      replace R3 := R3.keep b182
      clear b182
      obtain ⟨m2, y2, z2⟩ := id B2
      go_wp2_with fail
      refine (K2 _ R2).mono ?_
      rintro e w183 ⟨rfl, b183⟩
      clear m2 y2 z2
      replace V := V.trans (b183.mono V.size)
      replace B1 := B1.keep b183
      replace R1 := R1.keep b183
      replace B2 := B2.keep b183
      replace R2 := R2.keep b183
      replace B3 := B3.keep b183
      replace R3 := R3.keep b183
      clear b183
      go_wp2_with fail
      refine (HO3 _).mono ?_
      rintro e v184 ⟨a8, c8, rfl, O8, b8⟩
      replace V := V.trans (b8.mono V.size)
      replace B1 := B1.keep b8
      replace R1 := R1.keep b8
      replace B2 := B2.keep b8
      replace R2 := R2.keep b8
      replace B3 := B3.keep b8
      replace R3 := R3.keep b8
      go_wp2_with fail
      refine (HO5 _).mono ?_
      rintro e v184' ⟨a9, c9, rfl, O9, b9⟩
      replace V := V.trans (b9.mono V.size)
      replace B1 := B1.keep b9
      replace R1 := R1.keep b9
      replace B2 := B2.keep b9
      replace R2 := R2.keep b9
      replace B3 := B3.keep b9
      replace R3 := R3.keep b9
      replace O8 := O8.keep b9
      clear b8 b9
      go_wp2_with fail
      refine (HM35 _ _ _ O8.rd O9.rd).mono ?_
      rintro e v185 ⟨a10, c10, rfl, O185, b185⟩
      have al : Below v185.heap.size v185 (v185.alloc (.cells #[.bool s9, .slice a10 l9.length c10] 26)) := (Below.refl _ _).alloc (Nat.le_refl _) _
      replace V := (V.trans (b185.mono V.size)).trans (al.mono (V.trans (b185.mono V.size)).size)
      replace B1 := (B1.keep b185).keep al
      replace R1 := (R1.keep b185).keep al
      replace B2 := (B2.keep b185).keep al
      replace R2 := (R2.keep b185).keep al
      replace B3 := (B3.keep b185).keep al
      replace R3 := (R3.keep b185).keep al
      have B9 := Box.new v185 (.bool s9) (.slice a10 l9.length c10) 26
      have R9 := O185.rd.keep al
      clear O185 b185 al
      generalize hw : v185.alloc (.cells #[.bool s9, .slice a10 l9.length c10] 26) = w185 at V B1 R1 B2 R2 B3 R3 B9 R9
      generalize hX : v185.heap.size = X9 at B9
      go_upto_region 13 with fail
      clear hw hX
      go_wp2
      go_ret
      exact ⟨rfl, V⟩

end Go.Proofs.Ythgpacajeaphhaa
