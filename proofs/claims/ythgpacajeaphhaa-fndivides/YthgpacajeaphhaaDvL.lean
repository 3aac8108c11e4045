import Derived.Test.YthgpacajeaphhaaTwM
import Derived.Test.YthgpacajeaphhaaDvP
import Derived.Test.YthgpacajeaphhaaOfB
import Derived.Test.YthgpacajeaphhaaSbQ
namespace Go.Proofs.Ythgpacajeaphhaa
open Go.RowKit
set_option linter.unusedVariables false
set_option linter.unusedSimpArgs false

set_option maxRecDepth 100000 in
set_option maxHeartbeats 4000000 in
theorem law_divides (a : Option Addr) (ZL c : Nat) (bs : List Int) (w : World) (hl : ZL ≤ 9223372036854775807) (hr : ZL ≤ 1048576 → Src w a ZL c bs) :
    Calls Try.prog 4 #[.slice a ZL c] w fun e w' => e = .returned (.bool true) ∧ Below w.heap.size w w' := by
  have HB := fun W => bigD_any W a ZL c
  by_cases hbig : 1048576 < ZL
  · rw [decide_eq_true (by omega)] at HB
    go_enter Try.func4, Try.ntmps4
    go_wp2_with fail
    refine (HB _).mono ?_
    rintro e w2 ⟨rfl, rfl⟩
    go_wp2
    go_ret
    exact ⟨rfl, Below.refl _ _⟩
  rw [decide_eq_false (by omega)] at HB
  have HD := drawDm_any w a ZL c bs (hr (by omega))
  clear hr hl
  go_enter Try.func4, Try.ntmps4
  go_wp2_with fail
  refine (HB _).mono ?_
  rintro e w1 ⟨rfl, hw1⟩
  rw [hw1]
  clear hw1 w1
  go_wp2_with fail
  refine HD.mono ?_
  rintro e v1 ⟨s1, a1, c1, l1, s2, a2, c2, l2, rfl, O1, O2, V⟩
  have al : Below v1.heap.size v1 ((v1.alloc (.cells #[.bool s1, .slice a1 l1.length c1] 26)).alloc (.cells #[.bool s2, .slice a2 l2.length c2] 26)) := ((Below.refl _ _).alloc (Nat.le_refl _) _).alloc (by simp) _
  have B1 := (Box.new v1 (.bool s1) (.slice a1 l1.length c1) 26).alloc (.cells #[.bool s2, .slice a2 l2.length c2] 26)
  have B2 := Box.new (v1.alloc (.cells #[.bool s1, .slice a1 l1.length c1] 26)) (.bool s2) (.slice a2 l2.length c2) 26
  simp only [World.size_alloc] at B2
  have R1 := O1.rd.keep al
  have R2 := O2.rd.keep al
  replace V := V.trans (al.mono V.size)
  clear O1 O2 al HD HB
  generalize hw : (v1.alloc (.cells #[.bool s1, .slice a1 l1.length c1] 26)).alloc (.cells #[.bool s2, .slice a2 l2.length c2] 26) = w2 at B1 B2 R1 R2 V
  generalize hX : v1.heap.size = X1 at B1 B2
  go_upto_region 4 with fail
  clear hw hX
  generalize X1 + 1 = X2 at B2 ⊢
  have hz1 : Limbs l1 := by obtain ⟨_, _, _, _, h, _⟩ := R1; exact h
  have hz2 : Limbs l2 := by obtain ⟨_, _, _, _, h, _⟩ := R2; exact h
  have K1 := fun (W : World) (h : Rd W (.slice a1 l1.length c1) l1) => bigOkS_any s1 _ l1 W h
  have K2 := fun (W : World) (h : Rd W (.slice a2 l2.length c2) l2) => bigOkS_any s2 _ l2 W h
  have HDM := fun (W : World) (h1 : Rd W (.slice a1 l1.length c1) l1) (h2 : Rd W (.slice a2 l2.length c2) l2) => bigDivMod_any s1 s2 _ _ l1 l2 W h1 h2

  by_cases hg : okB s1 l1 = true ∧ okB s2 l2 = true
  · obtain ⟨g1, g2⟩ := hg
    simp only [g1] at K1
    simp only [g2] at K2
    by_cases hl0 : l2.length = 0
    · have hno : dmOk s1 s2 l1 l2 = false := by unfold dmOk; rw [g1, g2, decide_eq_true hl0]; rfl
      obtain ⟨-, -, -, -, e5⟩ := dm_no hno
      rw [g1, g2, Bool.and_self, if_pos rfl] at e5
      simp only [e5] at HDM
      generalize dmS1 s1 s2 l1 l2 = s3 at HDM
      generalize dmL1 s1 s2 l1 l2 = l3 at HDM
      generalize dmS2 s1 s2 l1 l2 = s4 at HDM
      generalize dmL2 s1 s2 l1 l2 = l4 at HDM
      have HL0 : Hid (l2.length = 0) := hl0
      clear g1 g2 e5 hno hz1 hz2 hl0
      obtain ⟨m1, y1, z1⟩ := id B1
      obtain ⟨m2, y2, z2⟩ := id B2
      go_wp2_with fail
      refine (HDM _ R1 R2).mono ?_
      rintro e v3 ⟨a3, c3, a4, c4, rfl, O3, O4, -, b3⟩
      clear m1 y1 z1 m2 y2 z2
      have al : Below v3.heap.size v3 ((v3.alloc (.cells #[.bool s3, .slice a3 l3.length c3] 26)).alloc (.cells #[.bool s4, .slice a4 l4.length c4] 26)) := ((Below.refl _ _).alloc (Nat.le_refl _) _).alloc (by simp) _
      replace V := (V.trans (b3.mono V.size)).trans (al.mono (V.trans (b3.mono V.size)).size)
      replace B1 := (B1.keep b3).keep al
      replace R1 := (R1.keep b3).keep al
      replace B2 := (B2.keep b3).keep al
      replace R2 := (R2.keep b3).keep al
      have B3 := (Box.new v3 (.bool s3) (.slice a3 l3.length c3) 26).alloc (.cells #[.bool s4, .slice a4 l4.length c4] 26)
      have B4 := Box.new (v3.alloc (.cells #[.bool s3, .slice a3 l3.length c3] 26)) (.bool s4) (.slice a4 l4.length c4) 26
      simp only [World.size_alloc] at B4
      have R3 := O3.rd.keep al
      have R4 := O4.rd.keep al
      clear O3 O4 b3 al HDM
      generalize hw : (v3.alloc (.cells #[.bool s3, .slice a3 l3.length c3] 26)).alloc (.cells #[.bool s4, .slice a4 l4.length c4] 26) = w3 at V B1 R1 B2 R2 B3 R3 B4 R4
      generalize hX : v3.heap.size = X3 at B3 B4
      go_upto_region 5 with fail
      clear hw hX
      generalize X3 + 1 = X4 at B4 ⊢
      clear B3 R3 B4 R4
      obtain ⟨m1, y1, z1⟩ := id B1
      go_wp2_with fail
      refine (K1 _ R1).mono ?_
      rintro e w101 ⟨rfl, b101⟩
      clear m1 y1 z1
      replace V := V.trans (b101.mono V.size)
      replace B1 := B1.keep b101
      replace R1 := R1.keep b101
      replace B2 := B2.keep b101
      replace R2 := R2.keep b101
      clear b101
      obtain ⟨m2, y2, z2⟩ := id B2
      go_wp2_with fail
      refine (K2 _ R2).mono ?_
      rintro e w102 ⟨rfl, b102⟩
      clear m2 y2 z2
      replace V := V.trans (b102.mono V.size)
      replace B1 := B1.keep b102
      replace R1 := R1.keep b102
      replace B2 := B2.keep b102
      replace R2 := R2.keep b102
      clear b102
      obtain ⟨m2, y2, z2⟩ := id B2
      have hl0z := HL0.out
      go_wp2
      go_ret
      exact ⟨rfl, V⟩

    · obtain ⟨f1, f2, f3, f4, f5, f6⟩ := dv_all hz1 hz2 g1 g2 hl0
      simp only [f1] at HDM
      have Z1 := z_ok hz1 g1
      generalize dmS1 s1 s2 l1 l2 = s3 at HDM f2 f4
      generalize dmL1 s1 s2 l1 l2 = l3 at HDM f2 f4
      generalize dmS2 s1 s2 l1 l2 = s4 at HDM f3 f4 f5
      generalize dmL2 s1 s2 l1 l2 = l4 at HDM f3 f4 f5 f6
      have HM := fun (W : World) (v u : Value) (h1 : Rd W v l3) (h2 : Rd W u l2) => mulZ_any s3 s2 v u l3 l2 W h1 h2
      have HMS := fun (W : World) (v u : Value) (h1 : Rd W v l3) (h2 : Rd W u l2) => mulZS_any s3 s2 v u l3 l2 W h1 h2
      simp only [f2, g2, Bool.and_self] at HM HMS
      have E6 := zC_two (iv s3 l3 * iv s2 l2)
      have F6 := fun h => z_val (z := iv s3 l3 * iv s2 l2) h
      have HQ : Hid (∀ s l, iv s l = iv s3 l3 * iv s2 l2 → iv s l + iv s4 l4 = iv s1 l1) := fun s l h => by rw [h]; exact f4
      generalize iv s3 l3 * iv s2 l2 = zy at HM HMS E6 F6 HQ
      generalize zS true zy = s6 at HM HMS F6
      generalize zL true zy = l6 at HM HMS F6
      generalize zC true zy = e6 at HM HMS F6 E6
      have HC1 := fun (W : World) (v u : Value) (h1 : Rd W v l4) (h2 : Rd W u (lim 0)) => bigCmp_any s4 false v u l4 (lim 0) W h1 h2
      have HC2 := fun (W : World) (v u : Value) (h1 : Rd W v l2) (h2 : Rd W u (lim 0)) => bigCmp_any s2 false v u l2 (lim 0) W h1 h2
      have HC3 := fun (W : World) (v u : Value) (h1 : Rd W v l4) (h2 : Rd W u l2) => bigCmp_any false false v u l4 l2 W h1 h2
      simp only [f6] at HC3
      generalize cmpA s4 l4 false (lim 0) = m1 at HC1 f5
      generalize cmpA s2 l2 false (lim 0) = m2 at HC2 f5
      have HO := fun W : World => bigOf_any 0 W (by omega) (by omega)
      simp only [show decide ((0 : Int) < 0) = false from rfl, show (0 : Int).natAbs = 0 from rfl] at HO
      generalize lim 0 = l5 at HO HC1 HC2
      have G : Hid (okB s4 l4 = true ∧ (m1 = 0 ∨ m1 = 1 ∧ m2 = 1 ∨ m1 = -1 ∧ m2 = -1) ∧ (e6 = 0 ∨ e6 = 3) ∧ (e6 = 0 → iv s6 l6 = zy ∧ okB s6 l6 = true) ∧ zS true (iv s1 l1) = s1 ∧ zL true (iv s1 l1) = l1 ∧ zC true (iv s1 l1) = 0) := ⟨f3, f5, E6, F6, Z1⟩
      have hl0z : ¬ ((l2.length : Nat) : Int) = 0 := by omega
      clear g1 g2 f1 f2 f3 f4 f5 f6 E6 F6 Z1 hz1 hz2
      obtain ⟨m1, y1, z1⟩ := id B1
      obtain ⟨m2, y2, z2⟩ := id B2
      go_wp2_with fail
      refine (HDM _ R1 R2).mono ?_
      rintro e v3 ⟨a3, c3, a4, c4, rfl, O3, O4, -, b3⟩
      clear m1 y1 z1 m2 y2 z2
      have al : Below v3.heap.size v3 ((v3.alloc (.cells #[.bool s3, .slice a3 l3.length c3] 26)).alloc (.cells #[.bool s4, .slice a4 l4.length c4] 26)) := ((Below.refl _ _).alloc (Nat.le_refl _) _).alloc (by simp) _
      replace V := (V.trans (b3.mono V.size)).trans (al.mono (V.trans (b3.mono V.size)).size)
      replace B1 := (B1.keep b3).keep al
      replace R1 := (R1.keep b3).keep al
      replace B2 := (B2.keep b3).keep al
      replace R2 := (R2.keep b3).keep al
      have B3 := (Box.new v3 (.bool s3) (.slice a3 l3.length c3) 26).alloc (.cells #[.bool s4, .slice a4 l4.length c4] 26)
      have B4 := Box.new (v3.alloc (.cells #[.bool s3, .slice a3 l3.length c3] 26)) (.bool s4) (.slice a4 l4.length c4) 26
      simp only [World.size_alloc] at B4
      have R3 := O3.rd.keep al
      have R4 := O4.rd.keep al
      clear O3 O4 b3 al HDM
      generalize hw : (v3.alloc (.cells #[.bool s3, .slice a3 l3.length c3] 26)).alloc (.cells #[.bool s4, .slice a4 l4.length c4] 26) = w3 at V B1 R1 B2 R2 B3 R3 B4 R4
      generalize hX : v3.heap.size = X3 at B3 B4
      go_upto_region 5 with fail
      clear hw hX
      generalize X3 + 1 = X4 at B4 ⊢
      obtain ⟨m1, y1, z1⟩ := id B1
      go_wp2_with fail
      refine (K1 _ R1).mono ?_
      rintro e w103 ⟨rfl, b103⟩
      clear m1 y1 z1
      replace V := V.trans (b103.mono V.size)
      replace B1 := B1.keep b103
      replace R1 := R1.keep b103
      replace B2 := B2.keep b103
      replace R2 := R2.keep b103
      replace B3 := B3.keep b103
      replace R3 := R3.keep b103
      replace B4 := B4.keep b103
      replace R4 := R4.keep b103
      clear b103
      obtain ⟨m2, y2, z2⟩ := id B2
      go_wp2_with fail
      refine (K2 _ R2).mono ?_
      rintro e w104 ⟨rfl, b104⟩
      clear m2 y2 z2
      replace V := V.trans (b104.mono V.size)
      replace B1 := B1.keep b104
      replace R1 := R1.keep b104
      replace B2 := B2.keep b104
      replace R2 := R2.keep b104
      replace B3 := B3.keep b104
      replace R3 := R3.keep b104
      replace B4 := B4.keep b104
      replace R4 := R4.keep b104
      clear b104
      obtain ⟨m2, y2, z2⟩ := id B2
      go_upto_region 12 with fail
      clear m2 y2 z2
      go_wp2_with fail
      refine (HO _).mono ?_
      rintro e v105 ⟨a5, c5, rfl, O5, b5⟩
      have al : Below v105.heap.size v105 (v105.alloc (.cells #[.bool false, .slice a5 l5.length c5] 26)) := (Below.refl _ _).alloc (Nat.le_refl _) _
      replace V := (V.trans (b5.mono V.size)).trans (al.mono (V.trans (b5.mono V.size)).size)
      replace B1 := (B1.keep b5).keep al
      replace R1 := (R1.keep b5).keep al
      replace B2 := (B2.keep b5).keep al
      replace R2 := (R2.keep b5).keep al
      replace B3 := (B3.keep b5).keep al
      replace R3 := (R3.keep b5).keep al
      replace B4 := (B4.keep b5).keep al
      replace R4 := (R4.keep b5).keep al
      have B5 := Box.new v105 (.bool false) (.slice a5 l5.length c5) 26
      have R5 := O5.rd.keep al
      clear O5 b5 al
      generalize hw : v105.alloc (.cells #[.bool false, .slice a5 l5.length c5] 26) = w105 at V B1 R1 B2 R2 B3 R3 B4 R4 B5 R5
      generalize hX : v105.heap.size = X5 at B5
      go_upto_region 13 with fail
      clear hw hX
      obtain ⟨m3, y3, z3⟩ := id B3
      obtain ⟨m2, y2, z2⟩ := id B2
      go_wp2_with fail
      refine (HM _ _ _ R3 R2).mono ?_
      rintro e v106 ⟨a6, c6, rfl, O106, b106⟩
      clear m3 y3 z3 m2 y2 z2
      have al : Below v106.heap.size v106 (v106.alloc (.cells #[.bool s6, .slice a6 l6.length c6] 26)) := (Below.refl _ _).alloc (Nat.le_refl _) _
      replace V := (V.trans (b106.mono V.size)).trans (al.mono (V.trans (b106.mono V.size)).size)
      replace B1 := (B1.keep b106).keep al
      replace R1 := (R1.keep b106).keep al
      replace B2 := (B2.keep b106).keep al
      replace R2 := (R2.keep b106).keep al
      replace B3 := (B3.keep b106).keep al
      replace R3 := (R3.keep b106).keep al
      replace B4 := (B4.keep b106).keep al
      replace R4 := (R4.keep b106).keep al
      replace B5 := (B5.keep b106).keep al
      replace R5 := (R5.keep b106).keep al
      have B6 := Box.new v106 (.bool s6) (.slice a6 l6.length c6) 26
      have R6 := O106.rd.keep al
      clear O106 b106 al
      generalize hw : v106.alloc (.cells #[.bool s6, .slice a6 l6.length c6] 26) = w106 at V B1 R1 B2 R2 B3 R3 B4 R4 B5 R5 B6 R6
      generalize hX : v106.heap.size = X6 at B6
      go_upto_region 14 with fail
      clear hw hX
      have HA := fun (W : World) (v u : Value) (h1 : Rd W v l6) (h2 : Rd W u l4) => addZ_any s6 s4 v u l6 l4 W h1 h2
      obtain ⟨f3, f5, E6, F6, z1, z2, z3⟩ := G.out
      clear G
      rcases E6 with rfl | rfl
      · obtain ⟨q1, q2⟩ := F6 rfl
        have q3 := HQ.out s6 l6 q1
        simp only [q2, f3, Bool.and_self, q3, z1, z2, z3] at HA
        clear q1 q2 q3 z1 z2 z3 F6 HQ f3 HMS
        obtain ⟨m6, y6, z6⟩ := id B6
        obtain ⟨m4, y4, z4⟩ := id B4
        go_wp2_with fail
        refine (HA _ _ _ R6 R4).mono ?_
        rintro e v107 ⟨a7, c7, rfl, O107, b107⟩
        clear m6 y6 z6 m4 y4 z4
        have al : Below v107.heap.size v107 (v107.alloc (.cells #[.bool s1, .slice a7 l1.length c7] 26)) := (Below.refl _ _).alloc (Nat.le_refl _) _
        replace V := (V.trans (b107.mono V.size)).trans (al.mono (V.trans (b107.mono V.size)).size)
        replace B1 := (B1.keep b107).keep al
        replace R1 := (R1.keep b107).keep al
        replace B2 := (B2.keep b107).keep al
        replace R2 := (R2.keep b107).keep al
        replace B3 := (B3.keep b107).keep al
        replace R3 := (R3.keep b107).keep al
        replace B4 := (B4.keep b107).keep al
        replace R4 := (R4.keep b107).keep al
        replace B5 := (B5.keep b107).keep al
        replace R5 := (R5.keep b107).keep al
        replace B6 := (B6.keep b107).keep al
        replace R6 := (R6.keep b107).keep al
        have B7 := Box.new v107 (.bool s1) (.slice a7 l1.length c7) 26
        have R7 := O107.rd.keep al
        clear O107 b107 al
        generalize hw : v107.alloc (.cells #[.bool s1, .slice a7 l1.length c7] 26) = w107 at V B1 R1 B2 R2 B3 R3 B4 R4 B5 R5 B6 R6 B7 R7
        generalize hX : v107.heap.size = X7 at B7
        go_upto_region 15 with fail
        clear hw hX
        clear B3 R3 B6 R6
        rcases f5 with rfl | ⟨rfl, rfl⟩ | ⟨rfl, rfl⟩
        · obtain ⟨m4, y4, z4⟩ := id B4
          obtain ⟨m5, y5, z5⟩ := id B5
          go_wp2_with fail
          refine (HC1 _ _ _ R4 R5).mono ?_
          rintro e w108 ⟨rfl, b108⟩
          clear m4 y4 z4 m5 y5 z5
          replace V := V.trans (b108.mono V.size)
          replace B1 := B1.keep b108
          replace R1 := R1.keep b108
          replace B2 := B2.keep b108
          replace R2 := R2.keep b108
          replace B4 := B4.keep b108
          replace R4 := R4.keep b108
          replace B5 := B5.keep b108
          replace R5 := R5.keep b108
          replace B7 := B7.keep b108
          replace R7 := R7.keep b108
          clear b108
          obtain ⟨m7, y7, z7⟩ := id B7
          obtain ⟨m1, y1, z1⟩ := id B1
          go_wp2_with fail
          refine (sameBig_any s1 _ _ l1 _ R7 R1).mono ?_
          rintro e w109 ⟨rfl, b109⟩
          clear m7 y7 z7 m1 y1 z1
          replace V := V.trans (b109.mono V.size)
          replace B1 := B1.keep b109
          replace R1 := R1.keep b109
          replace B2 := B2.keep b109
          replace R2 := R2.keep b109
          replace B4 := B4.keep b109
          replace R4 := R4.keep b109
          replace B5 := B5.keep b109
          replace R5 := R5.keep b109
          replace B7 := B7.keep b109
          replace R7 := R7.keep b109
          clear b109
          obtain ⟨m4, y4, z4⟩ := id B4
          obtain ⟨m2, y2, z2⟩ := id B2
          go_wp2_with fail
          refine (HC3 _ _ _ R4 R2).mono ?_
          rintro e w110 ⟨rfl, b110⟩
          clear m4 y4 z4 m2 y2 z2
          replace V := V.trans (b110.mono V.size)
          replace B1 := B1.keep b110
          replace R1 := R1.keep b110
          replace B2 := B2.keep b110
          replace R2 := R2.keep b110
          replace B4 := B4.keep b110
          replace R4 := R4.keep b110
          replace B5 := B5.keep b110
          replace R5 := R5.keep b110
          replace B7 := B7.keep b110
          replace R7 := R7.keep b110
          clear b110
          go_wp2
          go_ret
          exact ⟨rfl, V⟩
        · obtain ⟨m4, y4, z4⟩ := id B4
          obtain ⟨m5, y5, z5⟩ := id B5
          go_wp2_with fail
          refine (HC1 _ _ _ R4 R5).mono ?_
          rintro e w111 ⟨rfl, b111⟩
          clear m4 y4 z4 m5 y5 z5
          replace V := V.trans (b111.mono V.size)
          replace B1 := B1.keep b111
          replace R1 := R1.keep b111
          replace B2 := B2.keep b111
          replace R2 := R2.keep b111
          replace B4 := B4.keep b111
          replace R4 := R4.keep b111
          replace B5 := B5.keep b111
          replace R5 := R5.keep b111
          replace B7 := B7.keep b111
          replace R7 := R7.keep b111
          clear b111
          obtain ⟨m7, y7, z7⟩ := id B7
          obtain ⟨m1, y1, z1⟩ := id B1
          go_wp2_with fail
          refine (sameBig_any s1 _ _ l1 _ R7 R1).mono ?_
          rintro e w112 ⟨rfl, b112⟩
          clear m7 y7 z7 m1 y1 z1
          replace V := V.trans (b112.mono V.size)
          replace B1 := B1.keep b112
          replace R1 := R1.keep b112
          replace B2 := B2.keep b112
          replace R2 := R2.keep b112
          replace B4 := B4.keep b112
          replace R4 := R4.keep b112
          replace B5 := B5.keep b112
          replace R5 := R5.keep b112
          replace B7 := B7.keep b112
          replace R7 := R7.keep b112
          clear b112
          obtain ⟨m2, y2, z2⟩ := id B2
          obtain ⟨m5, y5, z5⟩ := id B5
          go_wp2_with fail
          refine (HC2 _ _ _ R2 R5).mono ?_
          rintro e w113 ⟨rfl, b113⟩
          clear m2 y2 z2 m5 y5 z5
          replace V := V.trans (b113.mono V.size)
          replace B1 := B1.keep b113
          replace R1 := R1.keep b113
          replace B2 := B2.keep b113
          replace R2 := R2.keep b113
          replace B4 := B4.keep b113
          replace R4 := R4.keep b113
          replace B5 := B5.keep b113
          replace R5 := R5.keep b113
          replace B7 := B7.keep b113
          replace R7 := R7.keep b113
          clear b113
          obtain ⟨m4, y4, z4⟩ := id B4
          obtain ⟨m2, y2, z2⟩ := id B2
          go_wp2_with fail
          refine (HC3 _ _ _ R4 R2).mono ?_
          rintro e w114 ⟨rfl, b114⟩
          clear m4 y4 z4 m2 y2 z2
          replace V := V.trans (b114.mono V.size)
          replace B1 := B1.keep b114
          replace R1 := R1.keep b114
          replace B2 := B2.keep b114
          replace R2 := R2.keep b114
          replace B4 := B4.keep b114
          replace R4 := R4.keep b114
          replace B5 := B5.keep b114
          replace R5 := R5.keep b114
          replace B7 := B7.keep b114
          replace R7 := R7.keep b114
          clear b114
          go_wp2
          go_ret
          exact ⟨rfl, V⟩
        · obtain ⟨m4, y4, z4⟩ := id B4
          obtain ⟨m5, y5, z5⟩ := id B5
          go_wp2_with fail
          refine (HC1 _ _ _ R4 R5).mono ?_
          rintro e w115 ⟨rfl, b115⟩
          clear m4 y4 z4 m5 y5 z5
          replace V := V.trans (b115.mono V.size)
          replace B1 := B1.keep b115
          replace R1 := R1.keep b115
          replace B2 := B2.keep b115
          replace R2 := R2.keep b115
          replace B4 := B4.keep b115
          replace R4 := R4.keep b115
          replace B5 := B5.keep b115
          replace R5 := R5.keep b115
          replace B7 := B7.keep b115
          replace R7 := R7.keep b115
          clear b115
          obtain ⟨m7, y7, z7⟩ := id B7
          obtain ⟨m1, y1, z1⟩ := id B1
          go_wp2_with fail
          refine (sameBig_any s1 _ _ l1 _ R7 R1).mono ?_
          rintro e w116 ⟨rfl, b116⟩
          clear m7 y7 z7 m1 y1 z1
          replace V := V.trans (b116.mono V.size)
          replace B1 := B1.keep b116
          replace R1 := R1.keep b116
          replace B2 := B2.keep b116
          replace R2 := R2.keep b116
          replace B4 := B4.keep b116
          replace R4 := R4.keep b116
          replace B5 := B5.keep b116
          replace R5 := R5.keep b116
          replace B7 := B7.keep b116
          replace R7 := R7.keep b116
          clear b116
          obtain ⟨m2, y2, z2⟩ := id B2
          obtain ⟨m5, y5, z5⟩ := id B5
          go_wp2_with fail
          refine (HC2 _ _ _ R2 R5).mono ?_
          rintro e w117 ⟨rfl, b117⟩
          clear m2 y2 z2 m5 y5 z5
          replace V := V.trans (b117.mono V.size)
          replace B1 := B1.keep b117
          replace R1 := R1.keep b117
          replace B2 := B2.keep b117
          replace R2 := R2.keep b117
          replace B4 := B4.keep b117
          replace R4 := R4.keep b117
          replace B5 := B5.keep b117
          replace R5 := R5.keep b117
          replace B7 := B7.keep b117
          replace R7 := R7.keep b117
          clear b117
          obtain ⟨m4, y4, z4⟩ := id B4
          obtain ⟨m2, y2, z2⟩ := id B2
          go_wp2_with fail
          refine (HC3 _ _ _ R4 R2).mono ?_
          rintro e w118 ⟨rfl, b118⟩
          clear m4 y4 z4 m2 y2 z2
          replace V := V.trans (b118.mono V.size)
          replace B1 := B1.keep b118
          replace R1 := R1.keep b118
          replace B2 := B2.keep b118
          replace R2 := R2.keep b118
          replace B4 := B4.keep b118
          replace R4 := R4.keep b118
          replace B5 := B5.keep b118
          replace R5 := R5.keep b118
          replace B7 := B7.keep b118
          replace R7 := R7.keep b118
          clear b118
          go_wp2
          go_ret
          exact ⟨rfl, V⟩
      · clear z1 z2 z3 F6 HQ f3 f5
        generalize zS (okB s6 l6 && okB s4 l4) (iv s6 l6 + iv s4 l4) = s7 at HA
        generalize zL (okB s6 l6 && okB s4 l4) (iv s6 l6 + iv s4 l4) = l7 at HA
        generalize zC (okB s6 l6 && okB s4 l4) (iv s6 l6 + iv s4 l4) = e7 at HA
        obtain ⟨m6, y6, z6⟩ := id B6
        obtain ⟨m4, y4, z4⟩ := id B4
        go_wp2_with fail
        refine (HA _ _ _ R6 R4).mono ?_
        rintro e v119 ⟨a7, c7, rfl, O119, b119⟩
        clear m6 y6 z6 m4 y4 z4
        have al : Below v119.heap.size v119 (v119.alloc (.cells #[.bool s7, .slice a7 l7.length c7] 26)) := (Below.refl _ _).alloc (Nat.le_refl _) _
        replace V := (V.trans (b119.mono V.size)).trans (al.mono (V.trans (b119.mono V.size)).size)
        replace B1 := (B1.keep b119).keep al
        replace R1 := (R1.keep b119).keep al
        replace B2 := (B2.keep b119).keep al
        replace R2 := (R2.keep b119).keep al
        replace B3 := (B3.keep b119).keep al
        replace R3 := (R3.keep b119).keep al
        replace B4 := (B4.keep b119).keep al
        replace R4 := (R4.keep b119).keep al
        replace B5 := (B5.keep b119).keep al
        replace R5 := (R5.keep b119).keep al
        replace B6 := (B6.keep b119).keep al
        replace R6 := (R6.keep b119).keep al
        have B7 := Box.new v119 (.bool s7) (.slice a7 l7.length c7) 26
        have R7 := O119.rd.keep al
        clear O119 b119 al
        generalize hw : v119.alloc (.cells #[.bool s7, .slice a7 l7.length c7] 26) = w119 at V B1 R1 B2 R2 B3 R3 B4 R4 B5 R5 B6 R6 B7 R7
        generalize hX : v119.heap.size = X7 at B7
        go_upto_region 15 with fail
        clear hw hX
        clear B7 R7 B6 R6 B4 R4
        obtain ⟨m3, y3, z3⟩ := id B3
        obtain ⟨m2, y2, z2⟩ := id B2
        go_wp2_with fail
        refine (HMS _ _ _ R3 R2).mono ?_
        rintro e v120 ⟨a8, c8, rfl, O120, b120⟩
        clear m3 y3 z3 m2 y2 z2
        have al : Below v120.heap.size v120 (v120.alloc (.cells #[.bool s6, .slice a8 l6.length c8] 26)) := (Below.refl _ _).alloc (Nat.le_refl _) _
        replace V := (V.trans (b120.mono V.size)).trans (al.mono (V.trans (b120.mono V.size)).size)
        replace B1 := (B1.keep b120).keep al
        replace R1 := (R1.keep b120).keep al
        replace B2 := (B2.keep b120).keep al
        replace R2 := (R2.keep b120).keep al
        replace B3 := (B3.keep b120).keep al
        replace R3 := (R3.keep b120).keep al
        replace B5 := (B5.keep b120).keep al
        replace R5 := (R5.keep b120).keep al
        have B8 := Box.new v120 (.bool s6) (.slice a8 l6.length c8) 26
        have R8 := O120.rd.keep al
        clear O120 b120 al
        generalize hw : v120.alloc (.cells #[.bool s6, .slice a8 l6.length c8] 26) = w120 at V B1 R1 B2 R2 B3 R3 B5 R5 B8 R8
        generalize hX : v120.heap.size = X8 at B8
        go_upto_region 17 with fail
        clear hw hX
        go_wp2
        go_ret
        exact ⟨rfl, V⟩

  · have hno : (okB s1 l1 && okB s2 l2) = false := by
      cases h1 : okB s1 l1
      · rfl
      · cases h2 : okB s2 l2
        · rfl
        · exact absurd ⟨h1, h2⟩ hg
    have hno2 : dmOk s1 s2 l1 l2 = false := by
      unfold dmOk
      rw [← Bool.and_assoc, hno]
      rfl
    obtain ⟨-, -, -, -, e5⟩ := dm_no hno2
    rw [hno] at e5
    rw [if_neg (by decide)] at e5
    simp only [e5] at HDM
    generalize dmS1 s1 s2 l1 l2 = s3 at HDM
    generalize dmL1 s1 s2 l1 l2 = l3 at HDM
    generalize dmS2 s1 s2 l1 l2 = s4 at HDM
    generalize dmL2 s1 s2 l1 l2 = l4 at HDM
    clear e5 hno2 hz1 hz2 hg
    obtain ⟨m1, y1, z1⟩ := id B1
    obtain ⟨m2, y2, z2⟩ := id B2
    go_wp2_with fail
    refine (HDM _ R1 R2).mono ?_
    rintro e v3 ⟨a3, c3, a4, c4, rfl, O3, O4, -, b3⟩
    clear m1 y1 z1 m2 y2 z2
    have al : Below v3.heap.size v3 ((v3.alloc (.cells #[.bool s3, .slice a3 l3.length c3] 26)).alloc (.cells #[.bool s4, .slice a4 l4.length c4] 26)) := ((Below.refl _ _).alloc (Nat.le_refl _) _).alloc (by simp) _
    replace V := (V.trans (b3.mono V.size)).trans (al.mono (V.trans (b3.mono V.size)).size)
    replace B1 := (B1.keep b3).keep al
    replace R1 := (R1.keep b3).keep al
    replace B2 := (B2.keep b3).keep al
    replace R2 := (R2.keep b3).keep al
    have B3 := (Box.new v3 (.bool s3) (.slice a3 l3.length c3) 26).alloc (.cells #[.bool s4, .slice a4 l4.length c4] 26)
    have B4 := Box.new (v3.alloc (.cells #[.bool s3, .slice a3 l3.length c3] 26)) (.bool s4) (.slice a4 l4.length c4) 26
    simp only [World.size_alloc] at B4
    have R3 := O3.rd.keep al
    have R4 := O4.rd.keep al
    clear O3 O4 b3 al HDM
    generalize hw : (v3.alloc (.cells #[.bool s3, .slice a3 l3.length c3] 26)).alloc (.cells #[.bool s4, .slice a4 l4.length c4] 26) = w3 at V B1 R1 B2 R2 B3 R3 B4 R4
    generalize hX : v3.heap.size = X3 at B3 B4
    go_upto_region 5 with fail
    clear hw hX
    generalize X3 + 1 = X4 at B4 ⊢
    clear B3 R3 B4 R4
    cases h1 : okB s1 l1
    · simp only [h1] at K1
      obtain ⟨m1, y1, z1⟩ := id B1
      go_wp2_with fail
      refine (K1 _ R1).mono ?_
      rintro e w121 ⟨rfl, b121⟩
      clear m1 y1 z1
      replace V := V.trans (b121.mono V.size)
      replace B1 := B1.keep b121
      replace R1 := R1.keep b121
      replace B2 := B2.keep b121
      replace R2 := R2.keep b121
      clear b121
      go_wp2
      go_ret
      exact ⟨rfl, V⟩
    · simp only [h1] at K1 hno
      rw [Bool.true_and] at hno
      simp only [hno] at K2
      obtain ⟨m1, y1, z1⟩ := id B1
      go_wp2_with fail
      refine (K1 _ R1).mono ?_
      rintro e w122 ⟨rfl, b122⟩
      clear m1 y1 z1
      replace V := V.trans (b122.mono V.size)
      replace B1 := B1.keep b122
      replace R1 := R1.keep b122
      replace B2 := B2.keep b122
      replace R2 := R2.keep b122
      clear b122
      obtain ⟨m2, y2, z2⟩ := id B2
      go_wp2_with fail
      refine (K2 _ R2).mono ?_
      rintro e w123 ⟨rfl, b123⟩
      clear m2 y2 z2
      replace V := V.trans (b123.mono V.size)
      replace B1 := B1.keep b123
      replace R1 := R1.keep b123
      replace B2 := B2.keep b123
      replace R2 := R2.keep b123
      clear b123
      go_wp2
      go_ret
      exact ⟨rfl, V⟩

end Go.Proofs.Ythgpacajeaphhaa
