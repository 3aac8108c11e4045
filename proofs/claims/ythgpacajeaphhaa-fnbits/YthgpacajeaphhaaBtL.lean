import Derived.Test.YthgpacajeaphhaaTwA
import Derived.Test.YthgpacajeaphhaaMg6
import Derived.Test.YthgpacajeaphhaaOfB
import Derived.Test.YthgpacajeaphhaaSbQ
namespace Go.Proofs.Ythgpacajeaphhaa
open Go.RowKit
set_option linter.unusedVariables false
set_option linter.unusedSimpArgs false

set_option maxRecDepth 100000 in
set_option maxHeartbeats 8000000 in
theorem law_bits (a : Option Addr) (ZL c : Nat) (bs : List Int) (a' : Option Addr) (ZM c' : Nat) (ms : List Int) (w : World) (hl : ZL ≤ 9223372036854775807) (hr : ZL ≤ 1048576 → Src w a ZL c bs) (hl' : ZM ≤ 9223372036854775807) (hr' : ZM ≤ 1048576 → Src w a' ZM c' ms) :
    Calls Try.prog 5 #[.slice a ZL c, .slice a' ZM c'] w fun e w' => e = .returned (.bool true) ∧ Below w.heap.size w w' := by
  have HB := fun W => bigD_any W a ZL c
  have HB' := fun W => bigD_any W a' ZM c'
  by_cases hbig : 1048576 < ZL
  · rw [decide_eq_true (by omega)] at HB
    go_enter Try.func5, Try.ntmps5
    go_wp2_with fail
    refine (HB _).mono ?_
    rintro e w2 ⟨rfl, rfl⟩
    go_wp2
    go_ret
    exact ⟨rfl, Below.refl _ _⟩
  rw [decide_eq_false (by omega)] at HB
  by_cases hbig' : 1048576 < ZM
  · rw [decide_eq_true (by omega)] at HB'
    go_enter Try.func5, Try.ntmps5
    go_wp2_with fail
    refine (HB _).mono ?_
    rintro e w2 ⟨rfl, rfl⟩
    go_wp2_with fail
    refine (HB' _).mono ?_
    rintro e w2 ⟨rfl, rfl⟩
    go_wp2
    go_ret
    exact ⟨rfl, Below.refl _ _⟩
  rw [decide_eq_false (by omega)] at HB'
  have HD := drawAdd_any w a ZL c bs (hr (by omega))
  obtain ⟨m, hm⟩ : ∃ m : Nat, ZM % 90 = m := ⟨_, rfl⟩
  have hmd : Int.tmod (ZM : Int) 90 = (m : Int) := by rw [← hm]; exact (Int.ofNat_tmod ZM 90).symm
  have hm9 : m < 90 := by omega
  have hm9z : (m : Int) < 90 := by omega
  have hmn : IntKind.i64.wrap (-(m : Int)) = -(m : Int) := by rw [IntKind.wrap_i64]; omega
  clear hr hr' hl hl' hm
  go_enter Try.func5, Try.ntmps5
  go_wp2_with fail
  refine (HB _).mono ?_
  rintro e w1 ⟨rfl, hw1⟩
  rw [hw1]
  clear hw1 w1
  go_wp2_with fail
  refine (HB' _).mono ?_
  rintro e w1 ⟨rfl, hw1⟩
  rw [hw1]
  clear hw1 w1
  go_wp2_with fail
  refine HD.mono ?_
  rintro e v1 ⟨s1, a1, c1, l1, s2, a2, c2, l2, rfl, O1, O2, V⟩
  have al : Below v1.heap.size v1 ((v1.alloc (.cells #[.bool s1, .slice a1 l1.length c1] 26)).alloc (.cells #[.bool s2, .slice a2 l2.length c2] 26)) := ((Below.refl _ _).alloc (Nat.le_refl _) _).alloc (by simp) _
  have B1 := (Box.new v1 (.bool s1) (.slice a1 l1.length c1) 26).alloc (.cells #[.bool s2, .slice a2 l2.length c2] 26)
  have B2 := Box.new (v1.alloc (.cells #[.bool s1, .slice a1 l1.length c1] 26)) (.bool s2) (.slice a2 l2.length c2) 26
  simp only [World.size_alloc] at B2
  have R1 := O1.rd.keep al
  have R2 := O2.rd.keep al
  replace V := V.trans (al.mono V.size)
  clear O1 O2 al HD HB HB'
  generalize hw : (v1.alloc (.cells #[.bool s1, .slice a1 l1.length c1] 26)).alloc (.cells #[.bool s2, .slice a2 l2.length c2] 26) = w2 at B1 B2 R1 R2 V
  generalize hX : v1.heap.size = X1 at B1 B2
  go_upto_region 4 with fail
  clear hw hX
  generalize X1 + 1 = X2 at B2 ⊢
  have hz1 : Limbs l1 := by obtain ⟨_, _, _, _, h, _⟩ := R1; exact h
  have hz2 : Limbs l2 := by obtain ⟨_, _, _, _, h, _⟩ := R2; exact h
  have K1 := fun (W : World) (h : Rd W (.slice a1 l1.length c1) l1) => bigOkS_any s1 _ l1 W h
  have K2 := fun (W : World) (h : Rd W (.slice a2 l2.length c2) l2) => bigOkS_any s2 _ l2 W h
  have HT := fun (op : Int) (W : World) (h1 : Rd W (.slice a1 l1.length c1) l1) (h2 : Rd W (.slice a2 l2.length c2) l2) => bigBit_any op s1 s2 _ _ l1 l2 W h1 h2
  have HTS := fun (op : Int) (W : World) (h1 : Rd W (.slice a1 l1.length c1) l1) (h2 : Rd W (.slice a2 l2.length c2) l2) => bigBitS_any op s1 s2 _ _ l1 l2 W h1 h2
  have T1 := HT 1
  by_cases hg : okB s1 l1 = true ∧ okB s2 l2 = true
  · obtain ⟨g1, g2⟩ := hg
    simp only [g1] at K1
    simp only [g2] at K2
    have T2 := HT 2
    have T3 := HT 3
    have U1 := HTS 1
    have U2 := HTS 2
    have U3 := HTS 3
    obtain ⟨x1, x2, x3⟩ := bitZ 1 (.inl rfl) g1 g2
    obtain ⟨y1, y2, y3⟩ := bitZ 2 (.inr (.inl rfl)) g1 g2
    obtain ⟨z1, z2, z3⟩ := bitZ 3 (.inr (.inr rfl)) g1 g2
    simp only [x1, x2, x3] at T1 U1
    simp only [y1, y2, y3] at T2 U2
    simp only [z1, z2, z3] at T3 U3
    obtain ⟨q1, q2⟩ := zB_sum hz1 hz2 g1 g2
    have HA := fun (W : World) (h1 : Rd W (.slice a1 l1.length c1) l1) (h2 : Rd W (.slice a2 l2.length c2) l2) => addZ_any s1 s2 _ _ l1 l2 W h1 h2
    simp only [g1, g2, Bool.and_self] at HA
    have E1 := zC_two (zB 1 s1 s2 l1 l2)
    have E2 := zC_two (zB 2 s1 s2 l1 l2)
    have E3 := zC_two (zB 3 s1 s2 l1 l2)
    have E4 := zC_two (iv s1 l1 + iv s2 l2)
    have F1 := fun h => z_val (z := zB 1 s1 s2 l1 l2) h
    have F2 := fun h => z_val (z := zB 2 s1 s2 l1 l2) h
    have HQ : Hid (∀ s l s' l', iv s l = zB 1 s1 s2 l1 l2 → iv s' l' = zB 2 s1 s2 l1 l2 → iv s l + iv s' l' = iv s1 l1 + iv s2 l2 ∧ iv s' l' - iv s l = zB 3 s1 s2 l1 l2) := fun s l s' l' h h' => by rw [h, h']; exact ⟨q1, q2⟩
    have HSH := fun (W : World) (h : Rd W (.slice a1 l1.length c1) l1) => bigShift_any s1 _ l1 (m : Int) W h (by omega) (by omega)
    obtain ⟨w1, w2', w3'⟩ := shl_Z (p := s1) (xs := l1) m (by omega)
    simp only [g1, w1, w2', w3'] at HSH
    have E7 := zC_two (sgn s1 (val l1 * 2 ^ m))
    have F7 := fun h => shl_back hz1 g1 m (by omega) h
    have HBB := fun (W : World) (h : Rd W (.slice a1 l1.length c1) l1) => bigBits_any s1 _ l1 W h
    obtain ⟨kb, hkb, hkb2, F9⟩ := bits_big hz1 g1
    simp only [hkb] at HBB
    have HO := fun W : World => bigOf_any 1 W (by omega) (by omega)
    simp only [show decide ((1 : Int) < 0) = false from rfl, show (1 : Int).natAbs = 1 from rfl] at HO
    have HSK := fun (W : World) (v : Value) (h : Rd W v (lim 1)) => bigShift_any false v (lim 1) (kb : Int) W h (by omega) (by omega)
    obtain ⟨t1, t2, t3⟩ := shl_Z (p := false) (xs := lim 1) kb hkb2
    have ok1 : okB false (lim 1) = true := by rw [lim_one]; rfl
    simp only [ok1, t1, t2, t3] at HSK
    have E9 := zC_two (sgn false (val (lim 1) * 2 ^ kb))
    have HC := fun (W : World) (v u : Value) (h1 : Rd W v l1) (s : Bool) (l : List Int) (h2 : Rd W u l) => bigCmp_any false s v u l1 l W h1 h2
    generalize sgn false (val (lim 1) * 2 ^ kb) = z9 at HSK E9 F9
    generalize lim 1 = lo at HO HSK
    generalize zB 1 s1 s2 l1 l2 = zx at T1 U1 E1 F1 HQ
    generalize zB 2 s1 s2 l1 l2 = zy at T2 U2 E2 F2 HQ
    generalize hzz : zB 3 s1 s2 l1 l2 = zz at T3 U3 E3 HQ
    generalize hzs : iv s1 l1 + iv s2 l2 = zs at HA E4 HQ
    generalize sgn s1 (val l1 * 2 ^ m) = z7 at HSH E7 F7
    generalize zS true zx = s4 at T1 U1 F1
    generalize zL true zx = l4 at T1 U1 F1
    generalize zC true zx = e1 at T1 U1 E1 F1
    generalize zS true zy = s5 at T2 U2 F2
    generalize zL true zy = l5 at T2 U2 F2
    generalize zC true zy = e2 at T2 U2 E2 F2
    generalize h61 : zS true zz = s6 at T3 U3
    generalize h62 : zL true zz = l6 at T3 U3
    generalize h63 : zC true zz = e3 at T3 U3 E3
    generalize h71 : zS true zs = s7 at HA
    generalize h72 : zL true zs = l7 at HA
    generalize h73 : zC true zs = e4 at HA E4
    generalize zS true z7 = s10 at HSH F7
    generalize zL true z7 = l10 at HSH F7
    generalize zC true z7 = e7 at HSH E7 F7
    generalize zS true z9 = s12 at HSK F9
    generalize zL true z9 = l12 at HSK F9
    generalize zC true z9 = e9 at HSK E9 F9
    have G : Hid ((e1 = 0 ∨ e1 = 3) ∧ (e2 = 0 ∨ e2 = 3) ∧ (e3 = 0 ∨ e3 = 3) ∧ (e4 = 0 ∨ e4 = 3) ∧ (e7 = 0 ∨ e7 = 3) ∧ (e9 = 0 ∨ e9 = 3)) := ⟨E1, E2, E3, E4, E7, E9⟩
    have G6 : Hid (zS true zz = s6 ∧ zL true zz = l6 ∧ zC true zz = e3 ∧ zS true zs = s7 ∧ zL true zs = l7 ∧ zC true zs = e4) := ⟨h61, h62, h63, h71, h72, h73⟩
    have G1 : Hid (e1 = 0 → iv s4 l4 = zx ∧ okB s4 l4 = true) := F1
    have G2 : Hid (e2 = 0 → iv s5 l5 = zy ∧ okB s5 l5 = true) := F2
    have G7 : Hid (e7 = 0 → okB s10 l10 = true ∧ shS true s10 (val l10) (-(m : Int)) = s1 ∧ shL true s10 (val l10) (-(m : Int)) = l1 ∧ shC true (val l10) (-(m : Int)) = 0) := F7
    have G9 : Hid (e9 = 0 → cmpA false l1 s12 l12 = -1) := F9
    have HKB : Hid (kb ≤ 4096) := hkb2
    clear E1 E2 E3 E4 E7 E9 F1 F2 F7 F9 h61 h62 h63 h71 h72 h73 x1 x2 x3 y1 y2 y3 z1 z2 z3 q1 q2 w1 w2' w3' t1 t2 t3 ok1 hkb hkb2 g1 g2 hz1 hz2 HT HTS hzz hzs
    obtain ⟨m1, y1, z1⟩ := id B1
    go_wp2_with fail
    refine (K1 _ R1).mono ?_
    rintro e w101 ⟨rfl, b101⟩
    clear m1 y1 z1
    replace V := V.trans (b101.mono V.size)
    replace B1 := B1.keep b101
    replace R1 := R1.keep b101
    replace B2 := B2.keep b101
    replace R2 := R2.keep b101
    clear b101
    obtain ⟨m2, y2, z2⟩ := id B2
    go_wp2_with fail
    refine (K2 _ R2).mono ?_
    rintro e w102 ⟨rfl, b102⟩
    clear m2 y2 z2
    replace V := V.trans (b102.mono V.size)
    replace B1 := B1.keep b102
    replace R1 := R1.keep b102
    replace B2 := B2.keep b102
    replace R2 := R2.keep b102
    clear b102
    obtain ⟨m1, y1, z1⟩ := id B1
    obtain ⟨m2, y2, z2⟩ := id B2
    go_wp2_with fail
    refine (T1 _ R1 R2).mono ?_
    rintro e v103 ⟨a4, c4, rfl, O103, b103⟩
    clear m1 y1 z1 m2 y2 z2
    have al : Below v103.heap.size v103 (v103.alloc (.cells #[.bool s4, .slice a4 l4.length c4] 26)) := (Below.refl _ _).alloc (Nat.le_refl _) _
    replace V := (V.trans (b103.mono V.size)).trans (al.mono (V.trans (b103.mono V.size)).size)
    replace B1 := (B1.keep b103).keep al
    replace R1 := (R1.keep b103).keep al
    replace B2 := (B2.keep b103).keep al
    replace R2 := (R2.keep b103).keep al
    have B4 := Box.new v103 (.bool s4) (.slice a4 l4.length c4) 26
    have R4 := O103.rd.keep al
    clear O103 b103 al
    generalize hw : v103.alloc (.cells #[.bool s4, .slice a4 l4.length c4] 26) = w103 at V B1 R1 B2 R2 B4 R4
    generalize hX : v103.heap.size = X4 at B4
    go_upto_region 8 with fail
    clear hw hX
    obtain ⟨m1, y1, z1⟩ := id B1
    obtain ⟨m2, y2, z2⟩ := id B2
    go_wp2_with fail
    refine (T2 _ R1 R2).mono ?_
    rintro e v104 ⟨a5, c5, rfl, O104, b104⟩
    clear m1 y1 z1 m2 y2 z2
    have al : Below v104.heap.size v104 (v104.alloc (.cells #[.bool s5, .slice a5 l5.length c5] 26)) := (Below.refl _ _).alloc (Nat.le_refl _) _
    replace V := (V.trans (b104.mono V.size)).trans (al.mono (V.trans (b104.mono V.size)).size)
    replace B1 := (B1.keep b104).keep al
    replace R1 := (R1.keep b104).keep al
    replace B2 := (B2.keep b104).keep al
    replace R2 := (R2.keep b104).keep al
    replace B4 := (B4.keep b104).keep al
    replace R4 := (R4.keep b104).keep al
    have B5 := Box.new v104 (.bool s5) (.slice a5 l5.length c5) 26
    have R5 := O104.rd.keep al
    clear O104 b104 al
    generalize hw : v104.alloc (.cells #[.bool s5, .slice a5 l5.length c5] 26) = w104 at V B1 R1 B2 R2 B4 R4 B5 R5
    generalize hX : v104.heap.size = X5 at B5
    go_upto_region 9 with fail
    clear hw hX
    obtain ⟨m1, y1, z1⟩ := id B1
    obtain ⟨m2, y2, z2⟩ := id B2
    go_wp2_with fail
    refine (T3 _ R1 R2).mono ?_
    rintro e v105 ⟨a6, c6, rfl, O105, b105⟩
    clear m1 y1 z1 m2 y2 z2
    have al : Below v105.heap.size v105 (v105.alloc (.cells #[.bool s6, .slice a6 l6.length c6] 26)) := (Below.refl _ _).alloc (Nat.le_refl _) _
    replace V := (V.trans (b105.mono V.size)).trans (al.mono (V.trans (b105.mono V.size)).size)
    replace B1 := (B1.keep b105).keep al
    replace R1 := (R1.keep b105).keep al
    replace B2 := (B2.keep b105).keep al
    replace R2 := (R2.keep b105).keep al
    replace B4 := (B4.keep b105).keep al
    replace R4 := (R4.keep b105).keep al
    replace B5 := (B5.keep b105).keep al
    replace R5 := (R5.keep b105).keep al
    have B6 := Box.new v105 (.bool s6) (.slice a6 l6.length c6) 26
    have R6 := O105.rd.keep al
    clear O105 b105 al
    generalize hw : v105.alloc (.cells #[.bool s6, .slice a6 l6.length c6] 26) = w105 at V B1 R1 B2 R2 B4 R4 B5 R5 B6 R6
    generalize hX : v105.heap.size = X6 at B6
    go_upto_region 10 with fail
    clear hw hX
    obtain ⟨m1, y1, z1⟩ := id B1
    obtain ⟨m2, y2, z2⟩ := id B2
    go_wp2_with fail
    refine (HA _ R1 R2).mono ?_
    rintro e v106 ⟨a7, c7, rfl, O106, b106⟩
    clear m1 y1 z1 m2 y2 z2
    have al : Below v106.heap.size v106 (v106.alloc (.cells #[.bool s7, .slice a7 l7.length c7] 26)) := (Below.refl _ _).alloc (Nat.le_refl _) _
    replace V := (V.trans (b106.mono V.size)).trans (al.mono (V.trans (b106.mono V.size)).size)
    replace B1 := (B1.keep b106).keep al
    replace R1 := (R1.keep b106).keep al
    replace B2 := (B2.keep b106).keep al
    replace R2 := (R2.keep b106).keep al
    replace B4 := (B4.keep b106).keep al
    replace R4 := (R4.keep b106).keep al
    replace B5 := (B5.keep b106).keep al
    replace R5 := (R5.keep b106).keep al
    replace B6 := (B6.keep b106).keep al
    replace R6 := (R6.keep b106).keep al
    have B7 := Box.new v106 (.bool s7) (.slice a7 l7.length c7) 26
    have R7 := O106.rd.keep al
    clear O106 b106 al
    generalize hw : v106.alloc (.cells #[.bool s7, .slice a7 l7.length c7] 26) = w106 at V B1 R1 B2 R2 B4 R4 B5 R5 B6 R6 B7 R7
    generalize hX : v106.heap.size = X7 at B7
    go_upto_region 11 with fail
    clear hw hX
    clear T1 T2 T3 HA K1 K2
    have HT := fun (W : World) (v u : Value) (h1 : Rd W v l4) (h2 : Rd W u l5) => addZ_any s4 s5 v u l4 l5 W h1 h2
    have HS := fun (W : World) (v u : Value) (h1 : Rd W v l5) (h2 : Rd W u l4) => subZ_any s5 s4 v u l5 l4 W h1 h2
    obtain ⟨E1, E2, E3, E4, E7, E9⟩ := G.out
    clear G
    by_cases hb : e1 = 0 ∧ e2 = 0 ∧ e3 = 0
    · obtain ⟨rfl, rfl, rfl⟩ := hb
      obtain ⟨v1', v2'⟩ := G1.out rfl
      obtain ⟨v3', v4'⟩ := G2.out rfl
      obtain ⟨v5', v6'⟩ := HQ.out s4 l4 s5 l5 v1' v3'
      obtain ⟨h61, h62, h63, h71, h72, h73⟩ := G6.out
      simp only [v2', v4', Bool.and_self, v5', h71, h72, h73] at HT
      simp only [v2', v4', Bool.and_self, v6', h61, h62, h63] at HS
      clear v1' v2' v3' v4' v5' v6' h61 h62 h63 h71 h72 h73 G1 G2 G6 HQ U1 U2 U3 E1 E2 E3
      obtain ⟨m4, y4, z4⟩ := id B4
      obtain ⟨m5, y5, z5⟩ := id B5
      go_wp2_with fail
      refine (HT _ _ _ R4 R5).mono ?_
      rintro e v107 ⟨a8, c8, rfl, O107, b107⟩
      clear m4 y4 z4 m5 y5 z5
      have al : Below v107.heap.size v107 (v107.alloc (.cells #[.bool s7, .slice a8 l7.length c8] 26)) := (Below.refl _ _).alloc (Nat.le_refl _) _
      replace V := (V.trans (b107.mono V.size)).trans (al.mono (V.trans (b107.mono V.size)).size)
      replace B1 := (B1.keep b107).keep al
      replace R1 := (R1.keep b107).keep al
      replace B2 := (B2.keep b107).keep al
      replace R2 := (R2.keep b107).keep al
      replace B4 := (B4.keep b107).keep al
      replace R4 := (R4.keep b107).keep al
      replace B5 := (B5.keep b107).keep al
      replace R5 := (R5.keep b107).keep al
      replace B6 := (B6.keep b107).keep al
      replace R6 := (R6.keep b107).keep al
      replace B7 := (B7.keep b107).keep al
      replace R7 := (R7.keep b107).keep al
      have B8 := Box.new v107 (.bool s7) (.slice a8 l7.length c8) 26
      have R8 := O107.rd.keep al
      clear O107 b107 al
      generalize hw : v107.alloc (.cells #[.bool s7, .slice a8 l7.length c8] 26) = w107 at V B1 R1 B2 R2 B4 R4 B5 R5 B6 R6 B7 R7 B8 R8
      generalize hX : v107.heap.size = X8 at B8
      go_upto_region 12 with fail
      clear hw hX
      obtain ⟨m5, y5, z5⟩ := id B5
      obtain ⟨m4, y4, z4⟩ := id B4
      go_wp2_with fail
      refine (HS _ _ _ R5 R4).mono ?_
      rintro e v108 ⟨a9, c9, rfl, O108, b108⟩
      clear m5 y5 z5 m4 y4 z4
      have al : Below v108.heap.size v108 (v108.alloc (.cells #[.bool s6, .slice a9 l6.length c9] 26)) := (Below.refl _ _).alloc (Nat.le_refl _) _
      replace V := (V.trans (b108.mono V.size)).trans (al.mono (V.trans (b108.mono V.size)).size)
      replace B1 := (B1.keep b108).keep al
      replace R1 := (R1.keep b108).keep al
      replace B2 := (B2.keep b108).keep al
      replace R2 := (R2.keep b108).keep al
      replace B4 := (B4.keep b108).keep al
      replace R4 := (R4.keep b108).keep al
      replace B5 := (B5.keep b108).keep al
      replace R5 := (R5.keep b108).keep al
      replace B6 := (B6.keep b108).keep al
      replace R6 := (R6.keep b108).keep al
      replace B7 := (B7.keep b108).keep al
      replace R7 := (R7.keep b108).keep al
      replace B8 := (B8.keep b108).keep al
      replace R8 := (R8.keep b108).keep al
      have B9 := Box.new v108 (.bool s6) (.slice a9 l6.length c9) 26
      have R9 := O108.rd.keep al
      clear O108 b108 al
      generalize hw : v108.alloc (.cells #[.bool s6, .slice a9 l6.length c9] 26) = w108 at V B1 R1 B2 R2 B4 R4 B5 R5 B6 R6 B7 R7 B8 R8 B9 R9
      generalize hX : v108.heap.size = X9 at B9
      go_upto_region 13 with fail
      clear hw hX
      clear B4 R4 B5 R5
      clear HT HS
      have HKS := fun (W : World) (v : Value) (h : Rd W v l10) => bigShift_any s10 v l10 (-(m : Int)) W h (by omega) (by omega)
      rcases E4 with rfl | rfl
      · obtain ⟨m7, y7, z7⟩ := id B7
        obtain ⟨m8, y8, z8⟩ := id B8
        go_wp2_with fail
        refine (sameBig_any s7 _ _ l7 _ R7 R8).mono ?_
        rintro e w109 ⟨rfl, b109⟩
        clear m7 y7 z7 m8 y8 z8
        replace V := V.trans (b109.mono V.size)
        replace B1 := B1.keep b109
        replace R1 := R1.keep b109
        replace B2 := B2.keep b109
        replace R2 := R2.keep b109
        replace B6 := B6.keep b109
        replace R6 := R6.keep b109
        replace B7 := B7.keep b109
        replace R7 := R7.keep b109
        replace B8 := B8.keep b109
        replace R8 := R8.keep b109
        replace B9 := B9.keep b109
        replace R9 := R9.keep b109
        clear b109
        obtain ⟨m9, y9, z9⟩ := id B9
        obtain ⟨m6, y6, z6⟩ := id B6
        go_wp2_with fail
        refine (sameBig_any s6 _ _ l6 _ R9 R6).mono ?_
        rintro e w110 ⟨rfl, b110⟩
        clear m9 y9 z9 m6 y6 z6
        replace V := V.trans (b110.mono V.size)
        replace B1 := B1.keep b110
        replace R1 := R1.keep b110
        replace B2 := B2.keep b110
        replace R2 := R2.keep b110
        replace B6 := B6.keep b110
        replace R6 := R6.keep b110
        replace B7 := B7.keep b110
        replace R7 := R7.keep b110
        replace B8 := B8.keep b110
        replace R8 := R8.keep b110
        replace B9 := B9.keep b110
        replace R9 := R9.keep b110
        clear b110
        clear B6 R6 B7 R7 B8 R8 B9 R9
        clear B2 R2
        go_upto_region 21 with fail
        rcases E7 with rfl | rfl
        · rcases E9 with rfl | rfl
          · obtain ⟨m1, y1, z1⟩ := id B1
            go_wp2_with fail
            refine (HSH _ R1).mono ?_
            rintro e v111 ⟨a10, c10, rfl, O111, b111⟩
            clear m1 y1 z1
            have al : Below v111.heap.size v111 (v111.alloc (.cells #[.bool s10, .slice a10 l10.length c10] 26)) := (Below.refl _ _).alloc (Nat.le_refl _) _
            replace V := (V.trans (b111.mono V.size)).trans (al.mono (V.trans (b111.mono V.size)).size)
            replace B1 := (B1.keep b111).keep al
            replace R1 := (R1.keep b111).keep al
            have B10 := Box.new v111 (.bool s10) (.slice a10 l10.length c10) 26
            have R10 := O111.rd.keep al
            clear O111 b111 al
            generalize hw : v111.alloc (.cells #[.bool s10, .slice a10 l10.length c10] 26) = w111 at V B1 R1 B10 R10
            generalize hX : v111.heap.size = X10 at B10
            go_upto_region 22 with fail
            clear hw hX
            obtain ⟨f1, f2, f3, f4⟩ := G7.out (by first | exact rfl | trivial)
            simp only [f1, f2, f3, f4] at HKS
            clear f1 f2 f3 f4
            obtain ⟨m10, y10, z10⟩ := id B10
            go_wp2_with fail
            refine (HKS _ _ R10).mono ?_
            rintro e v112 ⟨a11, c11, rfl, O112, b112⟩
            clear m10 y10 z10
            have al : Below v112.heap.size v112 (v112.alloc (.cells #[.bool s1, .slice a11 l1.length c11] 26)) := (Below.refl _ _).alloc (Nat.le_refl _) _
            replace V := (V.trans (b112.mono V.size)).trans (al.mono (V.trans (b112.mono V.size)).size)
            replace B1 := (B1.keep b112).keep al
            replace R1 := (R1.keep b112).keep al
            replace B10 := (B10.keep b112).keep al
            replace R10 := (R10.keep b112).keep al
            have B11 := Box.new v112 (.bool s1) (.slice a11 l1.length c11) 26
            have R11 := O112.rd.keep al
            clear O112 b112 al
            generalize hw : v112.alloc (.cells #[.bool s1, .slice a11 l1.length c11] 26) = w112 at V B1 R1 B10 R10 B11 R11
            generalize hX : v112.heap.size = X11 at B11
            go_upto_region 23 with fail
            clear hw hX
            clear B10 R10
            obtain ⟨m11, y11, z11⟩ := id B11
            obtain ⟨m1, y1, z1⟩ := id B1
            go_wp2_with fail
            refine (sameBig_any s1 _ _ l1 _ R11 R1).mono ?_
            rintro e w113 ⟨rfl, b113⟩
            clear m11 y11 z11 m1 y1 z1
            replace V := V.trans (b113.mono V.size)
            replace B1 := B1.keep b113
            replace R1 := R1.keep b113
            replace B11 := B11.keep b113
            replace R11 := R11.keep b113
            clear b113
            clear B11 R11
            obtain ⟨m1, y1, z1⟩ := id B1
            go_wp2_with fail
            refine (HBB _ R1).mono ?_
            rintro e w114 ⟨rfl, b114⟩
            clear m1 y1 z1
            replace V := V.trans (b114.mono V.size)
            replace B1 := B1.keep b114
            replace R1 := R1.keep b114
            clear b114
            go_wp2_with fail
            refine (HO _).mono ?_
            rintro e v115 ⟨ao, co, rfl, OO, bo⟩
            replace V := V.trans (bo.mono V.size)
            replace B1 := B1.keep bo
            replace R1 := R1.keep bo
            have RO := OO.rd
            clear OO bo
            go_wp2_with fail
            refine (HSK _ _ RO).mono ?_
            rintro e v116 ⟨a12, c12, rfl, O116, b116⟩
            have al : Below v116.heap.size v116 (v116.alloc (.cells #[.bool s12, .slice a12 l12.length c12] 26)) := (Below.refl _ _).alloc (Nat.le_refl _) _
            replace V := (V.trans (b116.mono V.size)).trans (al.mono (V.trans (b116.mono V.size)).size)
            replace B1 := (B1.keep b116).keep al
            replace R1 := (R1.keep b116).keep al
            have B12 := Box.new v116 (.bool s12) (.slice a12 l12.length c12) 26
            have R12 := O116.rd.keep al
            clear O116 b116 al
            generalize hw : v116.alloc (.cells #[.bool s12, .slice a12 l12.length c12] 26) = w116 at V B1 R1 B12 R12
            generalize hX : v116.heap.size = X12 at B12
            go_upto_region 27 with fail
            clear hw hX
            have HC9 := fun (W : World) (h1 : Rd W (.slice a1 l1.length c1) l1) (h2 : Rd W (.slice a12 l12.length c12) l12) => HC W _ _ h1 s12 l12 h2
            simp only [G9.out (by first | exact rfl | trivial)] at HC9
            obtain ⟨m1, y1, z1⟩ := id B1
            obtain ⟨m12, y12, z12⟩ := id B12
            go_wp2_with fail
            refine (HC9 _ R1 R12).mono ?_
            rintro e w117 ⟨rfl, b117⟩
            clear m1 y1 z1 m12 y12 z12
            replace V := V.trans (b117.mono V.size)
            replace B1 := B1.keep b117
            replace R1 := R1.keep b117
            replace B12 := B12.keep b117
            replace R12 := R12.keep b117
            clear b117
            go_wp2
            go_ret
            exact ⟨rfl, V⟩
          · obtain ⟨m1, y1, z1⟩ := id B1
            go_wp2_with fail
            refine (HSH _ R1).mono ?_
            rintro e v118 ⟨a10, c10, rfl, O118, b118⟩
            clear m1 y1 z1
            have al : Below v118.heap.size v118 (v118.alloc (.cells #[.bool s10, .slice a10 l10.length c10] 26)) := (Below.refl _ _).alloc (Nat.le_refl _) _
            replace V := (V.trans (b118.mono V.size)).trans (al.mono (V.trans (b118.mono V.size)).size)
            replace B1 := (B1.keep b118).keep al
            replace R1 := (R1.keep b118).keep al
            have B10 := Box.new v118 (.bool s10) (.slice a10 l10.length c10) 26
            have R10 := O118.rd.keep al
            clear O118 b118 al
            generalize hw : v118.alloc (.cells #[.bool s10, .slice a10 l10.length c10] 26) = w118 at V B1 R1 B10 R10
            generalize hX : v118.heap.size = X10 at B10
            go_upto_region 22 with fail
            clear hw hX
            obtain ⟨f1, f2, f3, f4⟩ := G7.out (by first | exact rfl | trivial)
            simp only [f1, f2, f3, f4] at HKS
            clear f1 f2 f3 f4
            obtain ⟨m10, y10, z10⟩ := id B10
            go_wp2_with fail
            refine (HKS _ _ R10).mono ?_
            rintro e v119 ⟨a11, c11, rfl, O119, b119⟩
            clear m10 y10 z10
            have al : Below v119.heap.size v119 (v119.alloc (.cells #[.bool s1, .slice a11 l1.length c11] 26)) := (Below.refl _ _).alloc (Nat.le_refl _) _
            replace V := (V.trans (b119.mono V.size)).trans (al.mono (V.trans (b119.mono V.size)).size)
            replace B1 := (B1.keep b119).keep al
            replace R1 := (R1.keep b119).keep al
            replace B10 := (B10.keep b119).keep al
            replace R10 := (R10.keep b119).keep al
            have B11 := Box.new v119 (.bool s1) (.slice a11 l1.length c11) 26
            have R11 := O119.rd.keep al
            clear O119 b119 al
            generalize hw : v119.alloc (.cells #[.bool s1, .slice a11 l1.length c11] 26) = w119 at V B1 R1 B10 R10 B11 R11
            generalize hX : v119.heap.size = X11 at B11
            go_upto_region 23 with fail
            clear hw hX
            clear B10 R10
            obtain ⟨m11, y11, z11⟩ := id B11
            obtain ⟨m1, y1, z1⟩ := id B1
            go_wp2_with fail
            refine (sameBig_any s1 _ _ l1 _ R11 R1).mono ?_
            rintro e w120 ⟨rfl, b120⟩
            clear m11 y11 z11 m1 y1 z1
            replace V := V.trans (b120.mono V.size)
            replace B1 := B1.keep b120
            replace R1 := R1.keep b120
            replace B11 := B11.keep b120
            replace R11 := R11.keep b120
            clear b120
            clear B11 R11
            obtain ⟨m1, y1, z1⟩ := id B1
            go_wp2_with fail
            refine (HBB _ R1).mono ?_
            rintro e w121 ⟨rfl, b121⟩
            clear m1 y1 z1
            replace V := V.trans (b121.mono V.size)
            replace B1 := B1.keep b121
            replace R1 := R1.keep b121
            clear b121
            go_wp2_with fail
            refine (HO _).mono ?_
            rintro e v122 ⟨ao, co, rfl, OO, bo⟩
            replace V := V.trans (bo.mono V.size)
            replace B1 := B1.keep bo
            replace R1 := R1.keep bo
            have RO := OO.rd
            clear OO bo
            go_wp2_with fail
            refine (HSK _ _ RO).mono ?_
            rintro e v123 ⟨a12, c12, rfl, O123, b123⟩
            have al : Below v123.heap.size v123 (v123.alloc (.cells #[.bool s12, .slice a12 l12.length c12] 26)) := (Below.refl _ _).alloc (Nat.le_refl _) _
            replace V := (V.trans (b123.mono V.size)).trans (al.mono (V.trans (b123.mono V.size)).size)
            replace B1 := (B1.keep b123).keep al
            replace R1 := (R1.keep b123).keep al
            have B12 := Box.new v123 (.bool s12) (.slice a12 l12.length c12) 26
            have R12 := O123.rd.keep al
            clear O123 b123 al
            generalize hw : v123.alloc (.cells #[.bool s12, .slice a12 l12.length c12] 26) = w123 at V B1 R1 B12 R12
            generalize hX : v123.heap.size = X12 at B12
            go_upto_region 27 with fail
            clear hw hX
            go_wp2
            go_ret
            exact ⟨rfl, V⟩
        · rcases E9 with rfl | rfl
          · obtain ⟨m1, y1, z1⟩ := id B1
            go_wp2_with fail
            refine (HSH _ R1).mono ?_
            rintro e v124 ⟨a10, c10, rfl, O124, b124⟩
            clear m1 y1 z1
            have al : Below v124.heap.size v124 (v124.alloc (.cells #[.bool s10, .slice a10 l10.length c10] 26)) := (Below.refl _ _).alloc (Nat.le_refl _) _
            replace V := (V.trans (b124.mono V.size)).trans (al.mono (V.trans (b124.mono V.size)).size)
            replace B1 := (B1.keep b124).keep al
            replace R1 := (R1.keep b124).keep al
            have B10 := Box.new v124 (.bool s10) (.slice a10 l10.length c10) 26
            have R10 := O124.rd.keep al
            clear O124 b124 al
            generalize hw : v124.alloc (.cells #[.bool s10, .slice a10 l10.length c10] 26) = w124 at V B1 R1 B10 R10
            generalize hX : v124.heap.size = X10 at B10
            go_upto_region 22 with fail
            clear hw hX
            generalize shS (okB s10 l10) s10 (val l10) (-(m : Int)) = s11 at HKS
            generalize shL (okB s10 l10) s10 (val l10) (-(m : Int)) = l11 at HKS
            generalize shC (okB s10 l10) (val l10) (-(m : Int)) = e8 at HKS
            obtain ⟨m10, y10, z10⟩ := id B10
            go_wp2_with fail
            refine (HKS _ _ R10).mono ?_
            rintro e v125 ⟨a11, c11, rfl, O125, b125⟩
            clear m10 y10 z10
            have al : Below v125.heap.size v125 (v125.alloc (.cells #[.bool s11, .slice a11 l11.length c11] 26)) := (Below.refl _ _).alloc (Nat.le_refl _) _
            replace V := (V.trans (b125.mono V.size)).trans (al.mono (V.trans (b125.mono V.size)).size)
            replace B1 := (B1.keep b125).keep al
            replace R1 := (R1.keep b125).keep al
            replace B10 := (B10.keep b125).keep al
            replace R10 := (R10.keep b125).keep al
            have B11 := Box.new v125 (.bool s11) (.slice a11 l11.length c11) 26
            have R11 := O125.rd.keep al
            clear O125 b125 al
            generalize hw : v125.alloc (.cells #[.bool s11, .slice a11 l11.length c11] 26) = w125 at V B1 R1 B10 R10 B11 R11
            generalize hX : v125.heap.size = X11 at B11
            go_upto_region 23 with fail
            clear hw hX
            clear B10 R10
            clear B11 R11
            obtain ⟨m1, y1, z1⟩ := id B1
            go_wp2_with fail
            refine (HBB _ R1).mono ?_
            rintro e w126 ⟨rfl, b126⟩
            clear m1 y1 z1
            replace V := V.trans (b126.mono V.size)
            replace B1 := B1.keep b126
            replace R1 := R1.keep b126
            clear b126
            go_wp2_with fail
            refine (HO _).mono ?_
            rintro e v127 ⟨ao, co, rfl, OO, bo⟩
            replace V := V.trans (bo.mono V.size)
            replace B1 := B1.keep bo
            replace R1 := R1.keep bo
            have RO := OO.rd
            clear OO bo
            go_wp2_with fail
            refine (HSK _ _ RO).mono ?_
            rintro e v128 ⟨a12, c12, rfl, O128, b128⟩
            have al : Below v128.heap.size v128 (v128.alloc (.cells #[.bool s12, .slice a12 l12.length c12] 26)) := (Below.refl _ _).alloc (Nat.le_refl _) _
            replace V := (V.trans (b128.mono V.size)).trans (al.mono (V.trans (b128.mono V.size)).size)
            replace B1 := (B1.keep b128).keep al
            replace R1 := (R1.keep b128).keep al
            have B12 := Box.new v128 (.bool s12) (.slice a12 l12.length c12) 26
            have R12 := O128.rd.keep al
            clear O128 b128 al
            generalize hw : v128.alloc (.cells #[.bool s12, .slice a12 l12.length c12] 26) = w128 at V B1 R1 B12 R12
            generalize hX : v128.heap.size = X12 at B12
            go_upto_region 27 with fail
            clear hw hX
            have HC9 := fun (W : World) (h1 : Rd W (.slice a1 l1.length c1) l1) (h2 : Rd W (.slice a12 l12.length c12) l12) => HC W _ _ h1 s12 l12 h2
            simp only [G9.out (by first | exact rfl | trivial)] at HC9
            obtain ⟨m1, y1, z1⟩ := id B1
            obtain ⟨m12, y12, z12⟩ := id B12
            go_wp2_with fail
            refine (HC9 _ R1 R12).mono ?_
            rintro e w129 ⟨rfl, b129⟩
            clear m1 y1 z1 m12 y12 z12
            replace V := V.trans (b129.mono V.size)
            replace B1 := B1.keep b129
            replace R1 := R1.keep b129
            replace B12 := B12.keep b129
            replace R12 := R12.keep b129
            clear b129
            go_wp2
            go_ret
            exact ⟨rfl, V⟩
          · obtain ⟨m1, y1, z1⟩ := id B1
            go_wp2_with fail
            refine (HSH _ R1).mono ?_
            rintro e v130 ⟨a10, c10, rfl, O130, b130⟩
            clear m1 y1 z1
            have al : Below v130.heap.size v130 (v130.alloc (.cells #[.bool s10, .slice a10 l10.length c10] 26)) := (Below.refl _ _).alloc (Nat.le_refl _) _
            replace V := (V.trans (b130.mono V.size)).trans (al.mono (V.trans (b130.mono V.size)).size)
            replace B1 := (B1.keep b130).keep al
            replace R1 := (R1.keep b130).keep al
            have B10 := Box.new v130 (.bool s10) (.slice a10 l10.length c10) 26
            have R10 := O130.rd.keep al
            clear O130 b130 al
            generalize hw : v130.alloc (.cells #[.bool s10, .slice a10 l10.length c10] 26) = w130 at V B1 R1 B10 R10
            generalize hX : v130.heap.size = X10 at B10
            go_upto_region 22 with fail
            clear hw hX
            generalize shS (okB s10 l10) s10 (val l10) (-(m : Int)) = s11 at HKS
            generalize shL (okB s10 l10) s10 (val l10) (-(m : Int)) = l11 at HKS
            generalize shC (okB s10 l10) (val l10) (-(m : Int)) = e8 at HKS
            obtain ⟨m10, y10, z10⟩ := id B10
            go_wp2_with fail
            refine (HKS _ _ R10).mono ?_
            rintro e v131 ⟨a11, c11, rfl, O131, b131⟩
            clear m10 y10 z10
            have al : Below v131.heap.size v131 (v131.alloc (.cells #[.bool s11, .slice a11 l11.length c11] 26)) := (Below.refl _ _).alloc (Nat.le_refl _) _
            replace V := (V.trans (b131.mono V.size)).trans (al.mono (V.trans (b131.mono V.size)).size)
            replace B1 := (B1.keep b131).keep al
            replace R1 := (R1.keep b131).keep al
            replace B10 := (B10.keep b131).keep al
            replace R10 := (R10.keep b131).keep al
            have B11 := Box.new v131 (.bool s11) (.slice a11 l11.length c11) 26
            have R11 := O131.rd.keep al
            clear O131 b131 al
            generalize hw : v131.alloc (.cells #[.bool s11, .slice a11 l11.length c11] 26) = w131 at V B1 R1 B10 R10 B11 R11
            generalize hX : v131.heap.size = X11 at B11
            go_upto_region 23 with fail
            clear hw hX
            clear B10 R10
            clear B11 R11
            obtain ⟨m1, y1, z1⟩ := id B1
            go_wp2_with fail
            refine (HBB _ R1).mono ?_
            rintro e w132 ⟨rfl, b132⟩
            clear m1 y1 z1
            replace V := V.trans (b132.mono V.size)
            replace B1 := B1.keep b132
            replace R1 := R1.keep b132
            clear b132
            go_wp2_with fail
            refine (HO _).mono ?_
            rintro e v133 ⟨ao, co, rfl, OO, bo⟩
            replace V := V.trans (bo.mono V.size)
            replace B1 := B1.keep bo
            replace R1 := R1.keep bo
            have RO := OO.rd
            clear OO bo
            go_wp2_with fail
            refine (HSK _ _ RO).mono ?_
            rintro e v134 ⟨a12, c12, rfl, O134, b134⟩
            have al : Below v134.heap.size v134 (v134.alloc (.cells #[.bool s12, .slice a12 l12.length c12] 26)) := (Below.refl _ _).alloc (Nat.le_refl _) _
            replace V := (V.trans (b134.mono V.size)).trans (al.mono (V.trans (b134.mono V.size)).size)
            replace B1 := (B1.keep b134).keep al
            replace R1 := (R1.keep b134).keep al
            have B12 := Box.new v134 (.bool s12) (.slice a12 l12.length c12) 26
            have R12 := O134.rd.keep al
            clear O134 b134 al
            generalize hw : v134.alloc (.cells #[.bool s12, .slice a12 l12.length c12] 26) = w134 at V B1 R1 B12 R12
            generalize hX : v134.heap.size = X12 at B12
            go_upto_region 27 with fail
            clear hw hX
            go_wp2
            go_ret
            exact ⟨rfl, V⟩
      · obtain ⟨m9, y9, z9⟩ := id B9
        obtain ⟨m6, y6, z6⟩ := id B6
        go_wp2_with fail
        refine (sameBig_any s6 _ _ l6 _ R9 R6).mono ?_
        rintro e w135 ⟨rfl, b135⟩
        clear m9 y9 z9 m6 y6 z6
        replace V := V.trans (b135.mono V.size)
        replace B1 := B1.keep b135
        replace R1 := R1.keep b135
        replace B2 := B2.keep b135
        replace R2 := R2.keep b135
        replace B6 := B6.keep b135
        replace R6 := R6.keep b135
        replace B7 := B7.keep b135
        replace R7 := R7.keep b135
        replace B8 := B8.keep b135
        replace R8 := R8.keep b135
        replace B9 := B9.keep b135
        replace R9 := R9.keep b135
        clear b135
        clear B6 R6 B7 R7 B8 R8 B9 R9
        clear B2 R2
        go_upto_region 21 with fail
        rcases E7 with rfl | rfl
        · rcases E9 with rfl | rfl
          · obtain ⟨m1, y1, z1⟩ := id B1
            go_wp2_with fail
            refine (HSH _ R1).mono ?_
            rintro e v136 ⟨a10, c10, rfl, O136, b136⟩
            clear m1 y1 z1
            have al : Below v136.heap.size v136 (v136.alloc (.cells #[.bool s10, .slice a10 l10.length c10] 26)) := (Below.refl _ _).alloc (Nat.le_refl _) _
            replace V := (V.trans (b136.mono V.size)).trans (al.mono (V.trans (b136.mono V.size)).size)
            replace B1 := (B1.keep b136).keep al
            replace R1 := (R1.keep b136).keep al
            have B10 := Box.new v136 (.bool s10) (.slice a10 l10.length c10) 26
            have R10 := O136.rd.keep al
            clear O136 b136 al
            generalize hw : v136.alloc (.cells #[.bool s10, .slice a10 l10.length c10] 26) = w136 at V B1 R1 B10 R10
            generalize hX : v136.heap.size = X10 at B10
            go_upto_region 22 with fail
            clear hw hX
            obtain ⟨f1, f2, f3, f4⟩ := G7.out (by first | exact rfl | trivial)
            simp only [f1, f2, f3, f4] at HKS
            clear f1 f2 f3 f4
            obtain ⟨m10, y10, z10⟩ := id B10
            go_wp2_with fail
            refine (HKS _ _ R10).mono ?_
            rintro e v137 ⟨a11, c11, rfl, O137, b137⟩
            clear m10 y10 z10
            have al : Below v137.heap.size v137 (v137.alloc (.cells #[.bool s1, .slice a11 l1.length c11] 26)) := (Below.refl _ _).alloc (Nat.le_refl _) _
            replace V := (V.trans (b137.mono V.size)).trans (al.mono (V.trans (b137.mono V.size)).size)
            replace B1 := (B1.keep b137).keep al
            replace R1 := (R1.keep b137).keep al
            replace B10 := (B10.keep b137).keep al
            replace R10 := (R10.keep b137).keep al
            have B11 := Box.new v137 (.bool s1) (.slice a11 l1.length c11) 26
            have R11 := O137.rd.keep al
            clear O137 b137 al
            generalize hw : v137.alloc (.cells #[.bool s1, .slice a11 l1.length c11] 26) = w137 at V B1 R1 B10 R10 B11 R11
            generalize hX : v137.heap.size = X11 at B11
            go_upto_region 23 with fail
            clear hw hX
            clear B10 R10
            obtain ⟨m11, y11, z11⟩ := id B11
            obtain ⟨m1, y1, z1⟩ := id B1
            go_wp2_with fail
            refine (sameBig_any s1 _ _ l1 _ R11 R1).mono ?_
            rintro e w138 ⟨rfl, b138⟩
            clear m11 y11 z11 m1 y1 z1
            replace V := V.trans (b138.mono V.size)
            replace B1 := B1.keep b138
            replace R1 := R1.keep b138
            replace B11 := B11.keep b138
            replace R11 := R11.keep b138
            clear b138
            clear B11 R11
            obtain ⟨m1, y1, z1⟩ := id B1
            go_wp2_with fail
            refine (HBB _ R1).mono ?_
            rintro e w139 ⟨rfl, b139⟩
            clear m1 y1 z1
            replace V := V.trans (b139.mono V.size)
            replace B1 := B1.keep b139
            replace R1 := R1.keep b139
            clear b139
            go_wp2_with fail
            refine (HO _).mono ?_
            rintro e v140 ⟨ao, co, rfl, OO, bo⟩
            replace V := V.trans (bo.mono V.size)
            replace B1 := B1.keep bo
            replace R1 := R1.keep bo
            have RO := OO.rd
            clear OO bo
            go_wp2_with fail
            refine (HSK _ _ RO).mono ?_
            rintro e v141 ⟨a12, c12, rfl, O141, b141⟩
            have al : Below v141.heap.size v141 (v141.alloc (.cells #[.bool s12, .slice a12 l12.length c12] 26)) := (Below.refl _ _).alloc (Nat.le_refl _) _
            replace V := (V.trans (b141.mono V.size)).trans (al.mono (V.trans (b141.mono V.size)).size)
            replace B1 := (B1.keep b141).keep al
            replace R1 := (R1.keep b141).keep al
            have B12 := Box.new v141 (.bool s12) (.slice a12 l12.length c12) 26
            have R12 := O141.rd.keep al
            clear O141 b141 al
            generalize hw : v141.alloc (.cells #[.bool s12, .slice a12 l12.length c12] 26) = w141 at V B1 R1 B12 R12
            generalize hX : v141.heap.size = X12 at B12
            go_upto_region 27 with fail
            clear hw hX
            have HC9 := fun (W : World) (h1 : Rd W (.slice a1 l1.length c1) l1) (h2 : Rd W (.slice a12 l12.length c12) l12) => HC W _ _ h1 s12 l12 h2
            simp only [G9.out (by first | exact rfl | trivial)] at HC9
            obtain ⟨m1, y1, z1⟩ := id B1
            obtain ⟨m12, y12, z12⟩ := id B12
            go_wp2_with fail
            refine (HC9 _ R1 R12).mono ?_
            rintro e w142 ⟨rfl, b142⟩
            clear m1 y1 z1 m12 y12 z12
            replace V := V.trans (b142.mono V.size)
            replace B1 := B1.keep b142
            replace R1 := R1.keep b142
            replace B12 := B12.keep b142
            replace R12 := R12.keep b142
            clear b142
            go_wp2
            go_ret
            exact ⟨rfl, V⟩
          · obtain ⟨m1, y1, z1⟩ := id B1
            go_wp2_with fail
            refine (HSH _ R1).mono ?_
            rintro e v143 ⟨a10, c10, rfl, O143, b143⟩
            clear m1 y1 z1
            have al : Below v143.heap.size v143 (v143.alloc (.cells #[.bool s10, .slice a10 l10.length c10] 26)) := (Below.refl _ _).alloc (Nat.le_refl _) _
            replace V := (V.trans (b143.mono V.size)).trans (al.mono (V.trans (b143.mono V.size)).size)
            replace B1 := (B1.keep b143).keep al
            replace R1 := (R1.keep b143).keep al
            have B10 := Box.new v143 (.bool s10) (.slice a10 l10.length c10) 26
            have R10 := O143.rd.keep al
            clear O143 b143 al
            generalize hw : v143.alloc (.cells #[.bool s10, .slice a10 l10.length c10] 26) = w143 at V B1 R1 B10 R10
            generalize hX : v143.heap.size = X10 at B10
            go_upto_region 22 with fail
            clear hw hX
            obtain ⟨f1, f2, f3, f4⟩ := G7.out (by first | exact rfl | trivial)
            simp only [f1, f2, f3, f4] at HKS
            clear f1 f2 f3 f4
            obtain ⟨m10, y10, z10⟩ := id B10
            go_wp2_with fail
            refine (HKS _ _ R10).mono ?_
            rintro e v144 ⟨a11, c11, rfl, O144, b144⟩
            clear m10 y10 z10
            have al : Below v144.heap.size v144 (v144.alloc (.cells #[.bool s1, .slice a11 l1.length c11] 26)) := (Below.refl _ _).alloc (Nat.le_refl _) _
            replace V := (V.trans (b144.mono V.size)).trans (al.mono (V.trans (b144.mono V.size)).size)
            replace B1 := (B1.keep b144).keep al
            replace R1 := (R1.keep b144).keep al
            replace B10 := (B10.keep b144).keep al
            replace R10 := (R10.keep b144).keep al
            have B11 := Box.new v144 (.bool s1) (.slice a11 l1.length c11) 26
            have R11 := O144.rd.keep al
            clear O144 b144 al
            generalize hw : v144.alloc (.cells #[.bool s1, .slice a11 l1.length c11] 26) = w144 at V B1 R1 B10 R10 B11 R11
            generalize hX : v144.heap.size = X11 at B11
            go_upto_region 23 with fail
            clear hw hX
            clear B10 R10
            obtain ⟨m11, y11, z11⟩ := id B11
            obtain ⟨m1, y1, z1⟩ := id B1
            go_wp2_with fail
            refine (sameBig_any s1 _ _ l1 _ R11 R1).mono ?_
            rintro e w145 ⟨rfl, b145⟩
            clear m11 y11 z11 m1 y1 z1
            replace V := V.trans (b145.mono V.size)
            replace B1 := B1.keep b145
            replace R1 := R1.keep b145
            replace B11 := B11.keep b145
            replace R11 := R11.keep b145
            clear b145
            clear B11 R11
            obtain ⟨m1, y1, z1⟩ := id B1
            go_wp2_with fail
            refine (HBB _ R1).mono ?_
            rintro e w146 ⟨rfl, b146⟩
            clear m1 y1 z1
            replace V := V.trans (b146.mono V.size)
            replace B1 := B1.keep b146
            replace R1 := R1.keep b146
            clear b146
            go_wp2_with fail
            refine (HO _).mono ?_
            rintro e v147 ⟨ao, co, rfl, OO, bo⟩
            replace V := V.trans (bo.mono V.size)
            replace B1 := B1.keep bo
            replace R1 := R1.keep bo
            have RO := OO.rd
            clear OO bo
            go_wp2_with fail
            refine (HSK _ _ RO).mono ?_
            rintro e v148 ⟨a12, c12, rfl, O148, b148⟩
            have al : Below v148.heap.size v148 (v148.alloc (.cells #[.bool s12, .slice a12 l12.length c12] 26)) := (Below.refl _ _).alloc (Nat.le_refl _) _
            replace V := (V.trans (b148.mono V.size)).trans (al.mono (V.trans (b148.mono V.size)).size)
            replace B1 := (B1.keep b148).keep al
            replace R1 := (R1.keep b148).keep al
            have B12 := Box.new v148 (.bool s12) (.slice a12 l12.length c12) 26
            have R12 := O148.rd.keep al
            clear O148 b148 al
            generalize hw : v148.alloc (.cells #[.bool s12, .slice a12 l12.length c12] 26) = w148 at V B1 R1 B12 R12
            generalize hX : v148.heap.size = X12 at B12
            go_upto_region 27 with fail
            clear hw hX
            go_wp2
            go_ret
            exact ⟨rfl, V⟩
        · rcases E9 with rfl | rfl
          · obtain ⟨m1, y1, z1⟩ := id B1
            go_wp2_with fail
            refine (HSH _ R1).mono ?_
            rintro e v149 ⟨a10, c10, rfl, O149, b149⟩
            clear m1 y1 z1
            have al : Below v149.heap.size v149 (v149.alloc (.cells #[.bool s10, .slice a10 l10.length c10] 26)) := (Below.refl _ _).alloc (Nat.le_refl _) _
            replace V := (V.trans (b149.mono V.size)).trans (al.mono (V.trans (b149.mono V.size)).size)
            replace B1 := (B1.keep b149).keep al
            replace R1 := (R1.keep b149).keep al
            have B10 := Box.new v149 (.bool s10) (.slice a10 l10.length c10) 26
            have R10 := O149.rd.keep al
            clear O149 b149 al
            generalize hw : v149.alloc (.cells #[.bool s10, .slice a10 l10.length c10] 26) = w149 at V B1 R1 B10 R10
            generalize hX : v149.heap.size = X10 at B10
            go_upto_region 22 with fail
            clear hw hX
            generalize shS (okB s10 l10) s10 (val l10) (-(m : Int)) = s11 at HKS
            generalize shL (okB s10 l10) s10 (val l10) (-(m : Int)) = l11 at HKS
            generalize shC (okB s10 l10) (val l10) (-(m : Int)) = e8 at HKS
            obtain ⟨m10, y10, z10⟩ := id B10
            go_wp2_with fail
            refine (HKS _ _ R10).mono ?_
            rintro e v150 ⟨a11, c11, rfl, O150, b150⟩
            clear m10 y10 z10
            have al : Below v150.heap.size v150 (v150.alloc (.cells #[.bool s11, .slice a11 l11.length c11] 26)) := (Below.refl _ _).alloc (Nat.le_refl _) _
            replace V := (V.trans (b150.mono V.size)).trans (al.mono (V.trans (b150.mono V.size)).size)
            replace B1 := (B1.keep b150).keep al
            replace R1 := (R1.keep b150).keep al
            replace B10 := (B10.keep b150).keep al
            replace R10 := (R10.keep b150).keep al
            have B11 := Box.new v150 (.bool s11) (.slice a11 l11.length c11) 26
            have R11 := O150.rd.keep al
            clear O150 b150 al
            generalize hw : v150.alloc (.cells #[.bool s11, .slice a11 l11.length c11] 26) = w150 at V B1 R1 B10 R10 B11 R11
            generalize hX : v150.heap.size = X11 at B11
            go_upto_region 23 with fail
            clear hw hX
            clear B10 R10
            clear B11 R11
            obtain ⟨m1, y1, z1⟩ := id B1
            go_wp2_with fail
            refine (HBB _ R1).mono ?_
            rintro e w151 ⟨rfl, b151⟩
            clear m1 y1 z1
            replace V := V.trans (b151.mono V.size)
            replace B1 := B1.keep b151
            replace R1 := R1.keep b151
            clear b151
            go_wp2_with fail
            refine (HO _).mono ?_
            rintro e v152 ⟨ao, co, rfl, OO, bo⟩
            replace V := V.trans (bo.mono V.size)
            replace B1 := B1.keep bo
            replace R1 := R1.keep bo
            have RO := OO.rd
            clear OO bo
            go_wp2_with fail
            refine (HSK _ _ RO).mono ?_
            rintro e v153 ⟨a12, c12, rfl, O153, b153⟩
            have al : Below v153.heap.size v153 (v153.alloc (.cells #[.bool s12, .slice a12 l12.length c12] 26)) := (Below.refl _ _).alloc (Nat.le_refl _) _
            replace V := (V.trans (b153.mono V.size)).trans (al.mono (V.trans (b153.mono V.size)).size)
            replace B1 := (B1.keep b153).keep al
            replace R1 := (R1.keep b153).keep al
            have B12 := Box.new v153 (.bool s12) (.slice a12 l12.length c12) 26
            have R12 := O153.rd.keep al
            clear O153 b153 al
            generalize hw : v153.alloc (.cells #[.bool s12, .slice a12 l12.length c12] 26) = w153 at V B1 R1 B12 R12
            generalize hX : v153.heap.size = X12 at B12
            go_upto_region 27 with fail
            clear hw hX
            have HC9 := fun (W : World) (h1 : Rd W (.slice a1 l1.length c1) l1) (h2 : Rd W (.slice a12 l12.length c12) l12) => HC W _ _ h1 s12 l12 h2
            simp only [G9.out (by first | exact rfl | trivial)] at HC9
            obtain ⟨m1, y1, z1⟩ := id B1
            obtain ⟨m12, y12, z12⟩ := id B12
            go_wp2_with fail
            refine (HC9 _ R1 R12).mono ?_
            rintro e w154 ⟨rfl, b154⟩
            clear m1 y1 z1 m12 y12 z12
            replace V := V.trans (b154.mono V.size)
            replace B1 := B1.keep b154
            replace R1 := R1.keep b154
            replace B12 := B12.keep b154
            replace R12 := R12.keep b154
            clear b154
            go_wp2
            go_ret
            exact ⟨rfl, V⟩
          · obtain ⟨m1, y1, z1⟩ := id B1
            go_wp2_with fail
            refine (HSH _ R1).mono ?_
            rintro e v155 ⟨a10, c10, rfl, O155, b155⟩
            clear m1 y1 z1
            have al : Below v155.heap.size v155 (v155.alloc (.cells #[.bool s10, .slice a10 l10.length c10] 26)) := (Below.refl _ _).alloc (Nat.le_refl _) _
            replace V := (V.trans (b155.mono V.size)).trans (al.mono (V.trans (b155.mono V.size)).size)
            replace B1 := (B1.keep b155).keep al
            replace R1 := (R1.keep b155).keep al
            have B10 := Box.new v155 (.bool s10) (.slice a10 l10.length c10) 26
            have R10 := O155.rd.keep al
            clear O155 b155 al
            generalize hw : v155.alloc (.cells #[.bool s10, .slice a10 l10.length c10] 26) = w155 at V B1 R1 B10 R10
            generalize hX : v155.heap.size = X10 at B10
            go_upto_region 22 with fail
            clear hw hX
            generalize shS (okB s10 l10) s10 (val l10) (-(m : Int)) = s11 at HKS
            generalize shL (okB s10 l10) s10 (val l10) (-(m : Int)) = l11 at HKS
            generalize shC (okB s10 l10) (val l10) (-(m : Int)) = e8 at HKS
            obtain ⟨m10, y10, z10⟩ := id B10
            go_wp2_with fail
            refine (HKS _ _ R10).mono ?_
            rintro e v156 ⟨a11, c11, rfl, O156, b156⟩
            clear m10 y10 z10
            have al : Below v156.heap.size v156 (v156.alloc (.cells #[.bool s11, .slice a11 l11.length c11] 26)) := (Below.refl _ _).alloc (Nat.le_refl _) _
            replace V := (V.trans (b156.mono V.size)).trans (al.mono (V.trans (b156.mono V.size)).size)
            replace B1 := (B1.keep b156).keep al
            replace R1 := (R1.keep b156).keep al
            replace B10 := (B10.keep b156).keep al
            replace R10 := (R10.keep b156).keep al
            have B11 := Box.new v156 (.bool s11) (.slice a11 l11.length c11) 26
            have R11 := O156.rd.keep al
            clear O156 b156 al
            generalize hw : v156.alloc (.cells #[.bool s11, .slice a11 l11.length c11] 26) = w156 at V B1 R1 B10 R10 B11 R11
            generalize hX : v156.heap.size = X11 at B11
            go_upto_region 23 with fail
            clear hw hX
            clear B10 R10
            clear B11 R11
            obtain ⟨m1, y1, z1⟩ := id B1
            go_wp2_with fail
            refine (HBB _ R1).mono ?_
            rintro e w157 ⟨rfl, b157⟩
            clear m1 y1 z1
            replace V := V.trans (b157.mono V.size)
            replace B1 := B1.keep b157
            replace R1 := R1.keep b157
            clear b157
            go_wp2_with fail
            refine (HO _).mono ?_
            rintro e v158 ⟨ao, co, rfl, OO, bo⟩
            replace V := V.trans (bo.mono V.size)
            replace B1 := B1.keep bo
            replace R1 := R1.keep bo
            have RO := OO.rd
            clear OO bo
            go_wp2_with fail
            refine (HSK _ _ RO).mono ?_
            rintro e v159 ⟨a12, c12, rfl, O159, b159⟩
            have al : Below v159.heap.size v159 (v159.alloc (.cells #[.bool s12, .slice a12 l12.length c12] 26)) := (Below.refl _ _).alloc (Nat.le_refl _) _
            replace V := (V.trans (b159.mono V.size)).trans (al.mono (V.trans (b159.mono V.size)).size)
            replace B1 := (B1.keep b159).keep al
            replace R1 := (R1.keep b159).keep al
            have B12 := Box.new v159 (.bool s12) (.slice a12 l12.length c12) 26
            have R12 := O159.rd.keep al
            clear O159 b159 al
            generalize hw : v159.alloc (.cells #[.bool s12, .slice a12 l12.length c12] 26) = w159 at V B1 R1 B12 R12
            generalize hX : v159.heap.size = X12 at B12
            go_upto_region 27 with fail
            clear hw hX
            go_wp2
            go_ret
            exact ⟨rfl, V⟩
    · generalize zS (okB s4 l4 && okB s5 l5) (iv s4 l4 + iv s5 l5) = s8 at HT
      generalize zL (okB s4 l4 && okB s5 l5) (iv s4 l4 + iv s5 l5) = l8 at HT
      generalize zC (okB s4 l4 && okB s5 l5) (iv s4 l4 + iv s5 l5) = e5 at HT
      generalize zS (okB s5 l5 && okB s4 l4) (iv s5 l5 - iv s4 l4) = s9 at HS
      generalize zL (okB s5 l5 && okB s4 l4) (iv s5 l5 - iv s4 l4) = l9 at HS
      generalize zC (okB s5 l5 && okB s4 l4) (iv s5 l5 - iv s4 l4) = e6 at HS
      clear G1 G2 G6 HQ
      obtain ⟨m4, y4, z4⟩ := id B4
      obtain ⟨m5, y5, z5⟩ := id B5
      go_wp2_with fail
      refine (HT _ _ _ R4 R5).mono ?_
      rintro e v160 ⟨a8, c8, rfl, O160, b160⟩
      clear m4 y4 z4 m5 y5 z5
      have al : Below v160.heap.size v160 (v160.alloc (.cells #[.bool s8, .slice a8 l8.length c8] 26)) := (Below.refl _ _).alloc (Nat.le_refl _) _
      replace V := (V.trans (b160.mono V.size)).trans (al.mono (V.trans (b160.mono V.size)).size)
      replace B1 := (B1.keep b160).keep al
      replace R1 := (R1.keep b160).keep al
      replace B2 := (B2.keep b160).keep al
      replace R2 := (R2.keep b160).keep al
      replace B4 := (B4.keep b160).keep al
      replace R4 := (R4.keep b160).keep al
      replace B5 := (B5.keep b160).keep al
      replace R5 := (R5.keep b160).keep al
      replace B6 := (B6.keep b160).keep al
      replace R6 := (R6.keep b160).keep al
      replace B7 := (B7.keep b160).keep al
      replace R7 := (R7.keep b160).keep al
      have B8 := Box.new v160 (.bool s8) (.slice a8 l8.length c8) 26
      have R8 := O160.rd.keep al
      clear O160 b160 al
      generalize hw : v160.alloc (.cells #[.bool s8, .slice a8 l8.length c8] 26) = w160 at V B1 R1 B2 R2 B4 R4 B5 R5 B6 R6 B7 R7 B8 R8
      generalize hX : v160.heap.size = X8 at B8
      go_upto_region 12 with fail
      clear hw hX
      obtain ⟨m5, y5, z5⟩ := id B5
      obtain ⟨m4, y4, z4⟩ := id B4
      go_wp2_with fail
      refine (HS _ _ _ R5 R4).mono ?_
      rintro e v161 ⟨a9, c9, rfl, O161, b161⟩
      clear m5 y5 z5 m4 y4 z4
      have al : Below v161.heap.size v161 (v161.alloc (.cells #[.bool s9, .slice a9 l9.length c9] 26)) := (Below.refl _ _).alloc (Nat.le_refl _) _
      replace V := (V.trans (b161.mono V.size)).trans (al.mono (V.trans (b161.mono V.size)).size)
      replace B1 := (B1.keep b161).keep al
      replace R1 := (R1.keep b161).keep al
      replace B2 := (B2.keep b161).keep al
      replace R2 := (R2.keep b161).keep al
      replace B4 := (B4.keep b161).keep al
      replace R4 := (R4.keep b161).keep al
      replace B5 := (B5.keep b161).keep al
      replace R5 := (R5.keep b161).keep al
      replace B6 := (B6.keep b161).keep al
      replace R6 := (R6.keep b161).keep al
      replace B7 := (B7.keep b161).keep al
      replace R7 := (R7.keep b161).keep al
      replace B8 := (B8.keep b161).keep al
      replace R8 := (R8.keep b161).keep al
      have B9 := Box.new v161 (.bool s9) (.slice a9 l9.length c9) 26
      have R9 := O161.rd.keep al
      clear O161 b161 al
      generalize hw : v161.alloc (.cells #[.bool s9, .slice a9 l9.length c9] 26) = w161 at V B1 R1 B2 R2 B4 R4 B5 R5 B6 R6 B7 R7 B8 R8 B9 R9
      generalize hX : v161.heap.size = X9 at B9
      go_upto_region 13 with fail
      clear hw hX
      clear B4 R4 B5 R5 B6 R6 B7 R7 B8 R8 B9 R9
      rcases E1 with rfl | rfl
      · rcases E2 with rfl | rfl
        · rcases E3 with rfl | rfl
          · exact absurd ⟨rfl, rfl, rfl⟩ hb
          · obtain ⟨m1, y1, z1⟩ := id B1
            obtain ⟨m2, y2, z2⟩ := id B2
            go_wp2_with fail
            refine (U1 _ R1 R2).mono ?_
            rintro e v162 ⟨a14, c14, rfl, O162, b162⟩
            clear m1 y1 z1 m2 y2 z2
            have al : Below v162.heap.size v162 (v162.alloc (.cells #[.bool s4, .slice a14 l4.length c14] 26)) := (Below.refl _ _).alloc (Nat.le_refl _) _
            replace V := (V.trans (b162.mono V.size)).trans (al.mono (V.trans (b162.mono V.size)).size)
            replace B1 := (B1.keep b162).keep al
            replace R1 := (R1.keep b162).keep al
            replace B2 := (B2.keep b162).keep al
            replace R2 := (R2.keep b162).keep al
            have B14 := Box.new v162 (.bool s4) (.slice a14 l4.length c14) 26
            have R14 := O162.rd.keep al
            clear O162 b162 al
            generalize hw : v162.alloc (.cells #[.bool s4, .slice a14 l4.length c14] 26) = w162 at V B1 R1 B2 R2 B14 R14
            generalize hX : v162.heap.size = X14 at B14
            go_upto_region 15 with fail
            clear hw hX
            obtain ⟨m1, y1, z1⟩ := id B1
            obtain ⟨m2, y2, z2⟩ := id B2
            go_wp2_with fail
            refine (U2 _ R1 R2).mono ?_
            rintro e v163 ⟨a15, c15, rfl, O163, b163⟩
            clear m1 y1 z1 m2 y2 z2
            have al : Below v163.heap.size v163 (v163.alloc (.cells #[.bool s5, .slice a15 l5.length c15] 26)) := (Below.refl _ _).alloc (Nat.le_refl _) _
            replace V := (V.trans (b163.mono V.size)).trans (al.mono (V.trans (b163.mono V.size)).size)
            replace B1 := (B1.keep b163).keep al
            replace R1 := (R1.keep b163).keep al
            replace B2 := (B2.keep b163).keep al
            replace R2 := (R2.keep b163).keep al
            replace B14 := (B14.keep b163).keep al
            replace R14 := (R14.keep b163).keep al
            have B15 := Box.new v163 (.bool s5) (.slice a15 l5.length c15) 26
            have R15 := O163.rd.keep al
            clear O163 b163 al
            generalize hw : v163.alloc (.cells #[.bool s5, .slice a15 l5.length c15] 26) = w163 at V B1 R1 B2 R2 B14 R14 B15 R15
            generalize hX : v163.heap.size = X15 at B15
            go_upto_region 16 with fail
            clear hw hX
            obtain ⟨m1, y1, z1⟩ := id B1
            obtain ⟨m2, y2, z2⟩ := id B2
            go_wp2_with fail
            refine (U3 _ R1 R2).mono ?_
            rintro e v164 ⟨a16, c16, rfl, O164, b164⟩
            clear m1 y1 z1 m2 y2 z2
            have al : Below v164.heap.size v164 (v164.alloc (.cells #[.bool s6, .slice a16 l6.length c16] 26)) := (Below.refl _ _).alloc (Nat.le_refl _) _
            replace V := (V.trans (b164.mono V.size)).trans (al.mono (V.trans (b164.mono V.size)).size)
            replace B1 := (B1.keep b164).keep al
            replace R1 := (R1.keep b164).keep al
            replace B2 := (B2.keep b164).keep al
            replace R2 := (R2.keep b164).keep al
            replace B14 := (B14.keep b164).keep al
            replace R14 := (R14.keep b164).keep al
            replace B15 := (B15.keep b164).keep al
            replace R15 := (R15.keep b164).keep al
            have B16 := Box.new v164 (.bool s6) (.slice a16 l6.length c16) 26
            have R16 := O164.rd.keep al
            clear O164 b164 al
            generalize hw : v164.alloc (.cells #[.bool s6, .slice a16 l6.length c16] 26) = w164 at V B1 R1 B2 R2 B14 R14 B15 R15 B16 R16
            generalize hX : v164.heap.size = X16 at B16
            go_upto_region 17 with fail
            clear hw hX
            go_wp2
            go_ret
            exact ⟨by simp, V⟩
        · rcases E3 with rfl | rfl
          · obtain ⟨m1, y1, z1⟩ := id B1
            obtain ⟨m2, y2, z2⟩ := id B2
            go_wp2_with fail
            refine (U1 _ R1 R2).mono ?_
            rintro e v165 ⟨a14, c14, rfl, O165, b165⟩
            clear m1 y1 z1 m2 y2 z2
            have al : Below v165.heap.size v165 (v165.alloc (.cells #[.bool s4, .slice a14 l4.length c14] 26)) := (Below.refl _ _).alloc (Nat.le_refl _) _
            replace V := (V.trans (b165.mono V.size)).trans (al.mono (V.trans (b165.mono V.size)).size)
            replace B1 := (B1.keep b165).keep al
            replace R1 := (R1.keep b165).keep al
            replace B2 := (B2.keep b165).keep al
            replace R2 := (R2.keep b165).keep al
            have B14 := Box.new v165 (.bool s4) (.slice a14 l4.length c14) 26
            have R14 := O165.rd.keep al
            clear O165 b165 al
            generalize hw : v165.alloc (.cells #[.bool s4, .slice a14 l4.length c14] 26) = w165 at V B1 R1 B2 R2 B14 R14
            generalize hX : v165.heap.size = X14 at B14
            go_upto_region 15 with fail
            clear hw hX
            obtain ⟨m1, y1, z1⟩ := id B1
            obtain ⟨m2, y2, z2⟩ := id B2
            go_wp2_with fail
            refine (U2 _ R1 R2).mono ?_
            rintro e v166 ⟨a15, c15, rfl, O166, b166⟩
            clear m1 y1 z1 m2 y2 z2
            have al : Below v166.heap.size v166 (v166.alloc (.cells #[.bool s5, .slice a15 l5.length c15] 26)) := (Below.refl _ _).alloc (Nat.le_refl _) _
            replace V := (V.trans (b166.mono V.size)).trans (al.mono (V.trans (b166.mono V.size)).size)
            replace B1 := (B1.keep b166).keep al
            replace R1 := (R1.keep b166).keep al
            replace B2 := (B2.keep b166).keep al
            replace R2 := (R2.keep b166).keep al
            replace B14 := (B14.keep b166).keep al
            replace R14 := (R14.keep b166).keep al
            have B15 := Box.new v166 (.bool s5) (.slice a15 l5.length c15) 26
            have R15 := O166.rd.keep al
            clear O166 b166 al
            generalize hw : v166.alloc (.cells #[.bool s5, .slice a15 l5.length c15] 26) = w166 at V B1 R1 B2 R2 B14 R14 B15 R15
            generalize hX : v166.heap.size = X15 at B15
            go_upto_region 16 with fail
            clear hw hX
            obtain ⟨m1, y1, z1⟩ := id B1
            obtain ⟨m2, y2, z2⟩ := id B2
            go_wp2_with fail
            refine (U3 _ R1 R2).mono ?_
            rintro e v167 ⟨a16, c16, rfl, O167, b167⟩
            clear m1 y1 z1 m2 y2 z2
            have al : Below v167.heap.size v167 (v167.alloc (.cells #[.bool s6, .slice a16 l6.length c16] 26)) := (Below.refl _ _).alloc (Nat.le_refl _) _
            replace V := (V.trans (b167.mono V.size)).trans (al.mono (V.trans (b167.mono V.size)).size)
            replace B1 := (B1.keep b167).keep al
            replace R1 := (R1.keep b167).keep al
            replace B2 := (B2.keep b167).keep al
            replace R2 := (R2.keep b167).keep al
            replace B14 := (B14.keep b167).keep al
            replace R14 := (R14.keep b167).keep al
            replace B15 := (B15.keep b167).keep al
            replace R15 := (R15.keep b167).keep al
            have B16 := Box.new v167 (.bool s6) (.slice a16 l6.length c16) 26
            have R16 := O167.rd.keep al
            clear O167 b167 al
            generalize hw : v167.alloc (.cells #[.bool s6, .slice a16 l6.length c16] 26) = w167 at V B1 R1 B2 R2 B14 R14 B15 R15 B16 R16
            generalize hX : v167.heap.size = X16 at B16
            go_upto_region 17 with fail
            clear hw hX
            go_wp2
            go_ret
            exact ⟨by simp, V⟩
          · obtain ⟨m1, y1, z1⟩ := id B1
            obtain ⟨m2, y2, z2⟩ := id B2
            go_wp2_with fail
            refine (U1 _ R1 R2).mono ?_
            rintro e v168 ⟨a14, c14, rfl, O168, b168⟩
            clear m1 y1 z1 m2 y2 z2
            have al : Below v168.heap.size v168 (v168.alloc (.cells #[.bool s4, .slice a14 l4.length c14] 26)) := (Below.refl _ _).alloc (Nat.le_refl _) _
            replace V := (V.trans (b168.mono V.size)).trans (al.mono (V.trans (b168.mono V.size)).size)
            replace B1 := (B1.keep b168).keep al
            replace R1 := (R1.keep b168).keep al
            replace B2 := (B2.keep b168).keep al
            replace R2 := (R2.keep b168).keep al
            have B14 := Box.new v168 (.bool s4) (.slice a14 l4.length c14) 26
            have R14 := O168.rd.keep al
            clear O168 b168 al
            generalize hw : v168.alloc (.cells #[.bool s4, .slice a14 l4.length c14] 26) = w168 at V B1 R1 B2 R2 B14 R14
            generalize hX : v168.heap.size = X14 at B14
            go_upto_region 15 with fail
            clear hw hX
            obtain ⟨m1, y1, z1⟩ := id B1
            obtain ⟨m2, y2, z2⟩ := id B2
            go_wp2_with fail
            refine (U2 _ R1 R2).mono ?_
            rintro e v169 ⟨a15, c15, rfl, O169, b169⟩
            clear m1 y1 z1 m2 y2 z2
            have al : Below v169.heap.size v169 (v169.alloc (.cells #[.bool s5, .slice a15 l5.length c15] 26)) := (Below.refl _ _).alloc (Nat.le_refl _) _
            replace V := (V.trans (b169.mono V.size)).trans (al.mono (V.trans (b169.mono V.size)).size)
            replace B1 := (B1.keep b169).keep al
            replace R1 := (R1.keep b169).keep al
            replace B2 := (B2.keep b169).keep al
            replace R2 := (R2.keep b169).keep al
            replace B14 := (B14.keep b169).keep al
            replace R14 := (R14.keep b169).keep al
            have B15 := Box.new v169 (.bool s5) (.slice a15 l5.length c15) 26
            have R15 := O169.rd.keep al
            clear O169 b169 al
            generalize hw : v169.alloc (.cells #[.bool s5, .slice a15 l5.length c15] 26) = w169 at V B1 R1 B2 R2 B14 R14 B15 R15
            generalize hX : v169.heap.size = X15 at B15
            go_upto_region 16 with fail
            clear hw hX
            obtain ⟨m1, y1, z1⟩ := id B1
            obtain ⟨m2, y2, z2⟩ := id B2
            go_wp2_with fail
            refine (U3 _ R1 R2).mono ?_
            rintro e v170 ⟨a16, c16, rfl, O170, b170⟩
            clear m1 y1 z1 m2 y2 z2
            have al : Below v170.heap.size v170 (v170.alloc (.cells #[.bool s6, .slice a16 l6.length c16] 26)) := (Below.refl _ _).alloc (Nat.le_refl _) _
            replace V := (V.trans (b170.mono V.size)).trans (al.mono (V.trans (b170.mono V.size)).size)
            replace B1 := (B1.keep b170).keep al
            replace R1 := (R1.keep b170).keep al
            replace B2 := (B2.keep b170).keep al
            replace R2 := (R2.keep b170).keep al
            replace B14 := (B14.keep b170).keep al
            replace R14 := (R14.keep b170).keep al
            replace B15 := (B15.keep b170).keep al
            replace R15 := (R15.keep b170).keep al
            have B16 := Box.new v170 (.bool s6) (.slice a16 l6.length c16) 26
            have R16 := O170.rd.keep al
            clear O170 b170 al
            generalize hw : v170.alloc (.cells #[.bool s6, .slice a16 l6.length c16] 26) = w170 at V B1 R1 B2 R2 B14 R14 B15 R15 B16 R16
            generalize hX : v170.heap.size = X16 at B16
            go_upto_region 17 with fail
            clear hw hX
            go_wp2
            go_ret
            exact ⟨by simp, V⟩
      · rcases E2 with rfl | rfl
        · rcases E3 with rfl | rfl
          · obtain ⟨m1, y1, z1⟩ := id B1
            obtain ⟨m2, y2, z2⟩ := id B2
            go_wp2_with fail
            refine (U1 _ R1 R2).mono ?_
            rintro e v171 ⟨a14, c14, rfl, O171, b171⟩
            clear m1 y1 z1 m2 y2 z2
            have al : Below v171.heap.size v171 (v171.alloc (.cells #[.bool s4, .slice a14 l4.length c14] 26)) := (Below.refl _ _).alloc (Nat.le_refl _) _
            replace V := (V.trans (b171.mono V.size)).trans (al.mono (V.trans (b171.mono V.size)).size)
            replace B1 := (B1.keep b171).keep al
            replace R1 := (R1.keep b171).keep al
            replace B2 := (B2.keep b171).keep al
            replace R2 := (R2.keep b171).keep al
            have B14 := Box.new v171 (.bool s4) (.slice a14 l4.length c14) 26
            have R14 := O171.rd.keep al
            clear O171 b171 al
            generalize hw : v171.alloc (.cells #[.bool s4, .slice a14 l4.length c14] 26) = w171 at V B1 R1 B2 R2 B14 R14
            generalize hX : v171.heap.size = X14 at B14
            go_upto_region 15 with fail
            clear hw hX
            obtain ⟨m1, y1, z1⟩ := id B1
            obtain ⟨m2, y2, z2⟩ := id B2
            go_wp2_with fail
            refine (U2 _ R1 R2).mono ?_
            rintro e v172 ⟨a15, c15, rfl, O172, b172⟩
            clear m1 y1 z1 m2 y2 z2
            have al : Below v172.heap.size v172 (v172.alloc (.cells #[.bool s5, .slice a15 l5.length c15] 26)) := (Below.refl _ _).alloc (Nat.le_refl _) _
            replace V := (V.trans (b172.mono V.size)).trans (al.mono (V.trans (b172.mono V.size)).size)
            replace B1 := (B1.keep b172).keep al
            replace R1 := (R1.keep b172).keep al
            replace B2 := (B2.keep b172).keep al
            replace R2 := (R2.keep b172).keep al
            replace B14 := (B14.keep b172).keep al
            replace R14 := (R14.keep b172).keep al
            have B15 := Box.new v172 (.bool s5) (.slice a15 l5.length c15) 26
            have R15 := O172.rd.keep al
            clear O172 b172 al
            generalize hw : v172.alloc (.cells #[.bool s5, .slice a15 l5.length c15] 26) = w172 at V B1 R1 B2 R2 B14 R14 B15 R15
            generalize hX : v172.heap.size = X15 at B15
            go_upto_region 16 with fail
            clear hw hX
            obtain ⟨m1, y1, z1⟩ := id B1
            obtain ⟨m2, y2, z2⟩ := id B2
            go_wp2_with fail
            refine (U3 _ R1 R2).mono ?_
            rintro e v173 ⟨a16, c16, rfl, O173, b173⟩
            clear m1 y1 z1 m2 y2 z2
            have al : Below v173.heap.size v173 (v173.alloc (.cells #[.bool s6, .slice a16 l6.length c16] 26)) := (Below.refl _ _).alloc (Nat.le_refl _) _
            replace V := (V.trans (b173.mono V.size)).trans (al.mono (V.trans (b173.mono V.size)).size)
            replace B1 := (B1.keep b173).keep al
            replace R1 := (R1.keep b173).keep al
            replace B2 := (B2.keep b173).keep al
            replace R2 := (R2.keep b173).keep al
            replace B14 := (B14.keep b173).keep al
            replace R14 := (R14.keep b173).keep al
            replace B15 := (B15.keep b173).keep al
            replace R15 := (R15.keep b173).keep al
            have B16 := Box.new v173 (.bool s6) (.slice a16 l6.length c16) 26
            have R16 := O173.rd.keep al
            clear O173 b173 al
            generalize hw : v173.alloc (.cells #[.bool s6, .slice a16 l6.length c16] 26) = w173 at V B1 R1 B2 R2 B14 R14 B15 R15 B16 R16
            generalize hX : v173.heap.size = X16 at B16
            go_upto_region 17 with fail
            clear hw hX
            go_wp2
            go_ret
            exact ⟨by simp, V⟩
          · obtain ⟨m1, y1, z1⟩ := id B1
            obtain ⟨m2, y2, z2⟩ := id B2
            go_wp2_with fail
            refine (U1 _ R1 R2).mono ?_
            rintro e v174 ⟨a14, c14, rfl, O174, b174⟩
            clear m1 y1 z1 m2 y2 z2
            have al : Below v174.heap.size v174 (v174.alloc (.cells #[.bool s4, .slice a14 l4.length c14] 26)) := (Below.refl _ _).alloc (Nat.le_refl _) _
            replace V := (V.trans (b174.mono V.size)).trans (al.mono (V.trans (b174.mono V.size)).size)
            replace B1 := (B1.keep b174).keep al
            replace R1 := (R1.keep b174).keep al
            replace B2 := (B2.keep b174).keep al
            replace R2 := (R2.keep b174).keep al
            have B14 := Box.new v174 (.bool s4) (.slice a14 l4.length c14) 26
            have R14 := O174.rd.keep al
            clear O174 b174 al
            generalize hw : v174.alloc (.cells #[.bool s4, .slice a14 l4.length c14] 26) = w174 at V B1 R1 B2 R2 B14 R14
            generalize hX : v174.heap.size = X14 at B14
            go_upto_region 15 with fail
            clear hw hX
            obtain ⟨m1, y1, z1⟩ := id B1
            obtain ⟨m2, y2, z2⟩ := id B2
            go_wp2_with fail
            refine (U2 _ R1 R2).mono ?_
            rintro e v175 ⟨a15, c15, rfl, O175, b175⟩
            clear m1 y1 z1 m2 y2 z2
            have al : Below v175.heap.size v175 (v175.alloc (.cells #[.bool s5, .slice a15 l5.length c15] 26)) := (Below.refl _ _).alloc (Nat.le_refl _) _
            replace V := (V.trans (b175.mono V.size)).trans (al.mono (V.trans (b175.mono V.size)).size)
            replace B1 := (B1.keep b175).keep al
            replace R1 := (R1.keep b175).keep al
            replace B2 := (B2.keep b175).keep al
            replace R2 := (R2.keep b175).keep al
            replace B14 := (B14.keep b175).keep al
            replace R14 := (R14.keep b175).keep al
            have B15 := Box.new v175 (.bool s5) (.slice a15 l5.length c15) 26
            have R15 := O175.rd.keep al
            clear O175 b175 al
            generalize hw : v175.alloc (.cells #[.bool s5, .slice a15 l5.length c15] 26) = w175 at V B1 R1 B2 R2 B14 R14 B15 R15
            generalize hX : v175.heap.size = X15 at B15
            go_upto_region 16 with fail
            clear hw hX
            obtain ⟨m1, y1, z1⟩ := id B1
            obtain ⟨m2, y2, z2⟩ := id B2
            go_wp2_with fail
            refine (U3 _ R1 R2).mono ?_
            rintro e v176 ⟨a16, c16, rfl, O176, b176⟩
            clear m1 y1 z1 m2 y2 z2
            have al : Below v176.heap.size v176 (v176.alloc (.cells #[.bool s6, .slice a16 l6.length c16] 26)) := (Below.refl _ _).alloc (Nat.le_refl _) _
            replace V := (V.trans (b176.mono V.size)).trans (al.mono (V.trans (b176.mono V.size)).size)
            replace B1 := (B1.keep b176).keep al
            replace R1 := (R1.keep b176).keep al
            replace B2 := (B2.keep b176).keep al
            replace R2 := (R2.keep b176).keep al
            replace B14 := (B14.keep b176).keep al
            replace R14 := (R14.keep b176).keep al
            replace B15 := (B15.keep b176).keep al
            replace R15 := (R15.keep b176).keep al
            have B16 := Box.new v176 (.bool s6) (.slice a16 l6.length c16) 26
            have R16 := O176.rd.keep al
            clear O176 b176 al
            generalize hw : v176.alloc (.cells #[.bool s6, .slice a16 l6.length c16] 26) = w176 at V B1 R1 B2 R2 B14 R14 B15 R15 B16 R16
            generalize hX : v176.heap.size = X16 at B16
            go_upto_region 17 with fail
            clear hw hX
            go_wp2
            go_ret
            exact ⟨by simp, V⟩
        · rcases E3 with rfl | rfl
          · obtain ⟨m1, y1, z1⟩ := id B1
            obtain ⟨m2, y2, z2⟩ := id B2
            go_wp2_with fail
            refine (U1 _ R1 R2).mono ?_
            rintro e v177 ⟨a14, c14, rfl, O177, b177⟩
            clear m1 y1 z1 m2 y2 z2
            have al : Below v177.heap.size v177 (v177.alloc (.cells #[.bool s4, .slice a14 l4.length c14] 26)) := (Below.refl _ _).alloc (Nat.le_refl _) _
            replace V := (V.trans (b177.mono V.size)).trans (al.mono (V.trans (b177.mono V.size)).size)
            replace B1 := (B1.keep b177).keep al
            replace R1 := (R1.keep b177).keep al
            replace B2 := (B2.keep b177).keep al
            replace R2 := (R2.keep b177).keep al
            have B14 := Box.new v177 (.bool s4) (.slice a14 l4.length c14) 26
            have R14 := O177.rd.keep al
            clear O177 b177 al
            generalize hw : v177.alloc (.cells #[.bool s4, .slice a14 l4.length c14] 26) = w177 at V B1 R1 B2 R2 B14 R14
            generalize hX : v177.heap.size = X14 at B14
            go_upto_region 15 with fail
            clear hw hX
            obtain ⟨m1, y1, z1⟩ := id B1
            obtain ⟨m2, y2, z2⟩ := id B2
            go_wp2_with fail
            refine (U2 _ R1 R2).mono ?_
            rintro e v178 ⟨a15, c15, rfl, O178, b178⟩
            clear m1 y1 z1 m2 y2 z2
            have al : Below v178.heap.size v178 (v178.alloc (.cells #[.bool s5, .slice a15 l5.length c15] 26)) := (Below.refl _ _).alloc (Nat.le_refl _) _
            replace V := (V.trans (b178.mono V.size)).trans (al.mono (V.trans (b178.mono V.size)).size)
            replace B1 := (B1.keep b178).keep al
            replace R1 := (R1.keep b178).keep al
            replace B2 := (B2.keep b178).keep al
            replace R2 := (R2.keep b178).keep al
            replace B14 := (B14.keep b178).keep al
            replace R14 := (R14.keep b178).keep al
            have B15 := Box.new v178 (.bool s5) (.slice a15 l5.length c15) 26
            have R15 := O178.rd.keep al
            clear O178 b178 al
            generalize hw : v178.alloc (.cells #[.bool s5, .slice a15 l5.length c15] 26) = w178 at V B1 R1 B2 R2 B14 R14 B15 R15
            generalize hX : v178.heap.size = X15 at B15
            go_upto_region 16 with fail
            clear hw hX
            obtain ⟨m1, y1, z1⟩ := id B1
            obtain ⟨m2, y2, z2⟩ := id B2
            go_wp2_with fail
            refine (U3 _ R1 R2).mono ?_
            rintro e v179 ⟨a16, c16, rfl, O179, b179⟩
            clear m1 y1 z1 m2 y2 z2
            have al : Below v179.heap.size v179 (v179.alloc (.cells #[.bool s6, .slice a16 l6.length c16] 26)) := (Below.refl _ _).alloc (Nat.le_refl _) _
            replace V := (V.trans (b179.mono V.size)).trans (al.mono (V.trans (b179.mono V.size)).size)
            replace B1 := (B1.keep b179).keep al
            replace R1 := (R1.keep b179).keep al
            replace B2 := (B2.keep b179).keep al
            replace R2 := (R2.keep b179).keep al
            replace B14 := (B14.keep b179).keep al
            replace R14 := (R14.keep b179).keep al
            replace B15 := (B15.keep b179).keep al
            replace R15 := (R15.keep b179).keep al
            have B16 := Box.new v179 (.bool s6) (.slice a16 l6.length c16) 26
            have R16 := O179.rd.keep al
            clear O179 b179 al
            generalize hw : v179.alloc (.cells #[.bool s6, .slice a16 l6.length c16] 26) = w179 at V B1 R1 B2 R2 B14 R14 B15 R15 B16 R16
            generalize hX : v179.heap.size = X16 at B16
            go_upto_region 17 with fail
            clear hw hX
            go_wp2
            go_ret
            exact ⟨by simp, V⟩
          · obtain ⟨m1, y1, z1⟩ := id B1
            obtain ⟨m2, y2, z2⟩ := id B2
            go_wp2_with fail
            refine (U1 _ R1 R2).mono ?_
            rintro e v180 ⟨a14, c14, rfl, O180, b180⟩
            clear m1 y1 z1 m2 y2 z2
            have al : Below v180.heap.size v180 (v180.alloc (.cells #[.bool s4, .slice a14 l4.length c14] 26)) := (Below.refl _ _).alloc (Nat.le_refl _) _
            replace V := (V.trans (b180.mono V.size)).trans (al.mono (V.trans (b180.mono V.size)).size)
            replace B1 := (B1.keep b180).keep al
            replace R1 := (R1.keep b180).keep al
            replace B2 := (B2.keep b180).keep al
            replace R2 := (R2.keep b180).keep al
            have B14 := Box.new v180 (.bool s4) (.slice a14 l4.length c14) 26
            have R14 := O180.rd.keep al
            clear O180 b180 al
            generalize hw : v180.alloc (.cells #[.bool s4, .slice a14 l4.length c14] 26) = w180 at V B1 R1 B2 R2 B14 R14
            generalize hX : v180.heap.size = X14 at B14
            go_upto_region 15 with fail
            clear hw hX
            obtain ⟨m1, y1, z1⟩ := id B1
            obtain ⟨m2, y2, z2⟩ := id B2
            go_wp2_with fail
            refine (U2 _ R1 R2).mono ?_
            rintro e v181 ⟨a15, c15, rfl, O181, b181⟩
            clear m1 y1 z1 m2 y2 z2
            have al : Below v181.heap.size v181 (v181.alloc (.cells #[.bool s5, .slice a15 l5.length c15] 26)) := (Below.refl _ _).alloc (Nat.le_refl _) _
            replace V := (V.trans (b181.mono V.size)).trans (al.mono (V.trans (b181.mono V.size)).size)
            replace B1 := (B1.keep b181).keep al
            replace R1 := (R1.keep b181).keep al
            replace B2 := (B2.keep b181).keep al
            replace R2 := (R2.keep b181).keep al
            replace B14 := (B14.keep b181).keep al
            replace R14 := (R14.keep b181).keep al
            have B15 := Box.new v181 (.bool s5) (.slice a15 l5.length c15) 26
            have R15 := O181.rd.keep al
            clear O181 b181 al
            generalize hw : v181.alloc (.cells #[.bool s5, .slice a15 l5.length c15] 26) = w181 at V B1 R1 B2 R2 B14 R14 B15 R15
            generalize hX : v181.heap.size = X15 at B15
            go_upto_region 16 with fail
            clear hw hX
            obtain ⟨m1, y1, z1⟩ := id B1
            obtain ⟨m2, y2, z2⟩ := id B2
            go_wp2_with fail
            refine (U3 _ R1 R2).mono ?_
            rintro e v182 ⟨a16, c16, rfl, O182, b182⟩
            clear m1 y1 z1 m2 y2 z2
            have al : Below v182.heap.size v182 (v182.alloc (.cells #[.bool s6, .slice a16 l6.length c16] 26)) := (Below.refl _ _).alloc (Nat.le_refl _) _
            replace V := (V.trans (b182.mono V.size)).trans (al.mono (V.trans (b182.mono V.size)).size)
            replace B1 := (B1.keep b182).keep al
            replace R1 := (R1.keep b182).keep al
            replace B2 := (B2.keep b182).keep al
            replace R2 := (R2.keep b182).keep al
            replace B14 := (B14.keep b182).keep al
            replace R14 := (R14.keep b182).keep al
            replace B15 := (B15.keep b182).keep al
            replace R15 := (R15.keep b182).keep al
            have B16 := Box.new v182 (.bool s6) (.slice a16 l6.length c16) 26
            have R16 := O182.rd.keep al
            clear O182 b182 al
            generalize hw : v182.alloc (.cells #[.bool s6, .slice a16 l6.length c16] 26) = w182 at V B1 R1 B2 R2 B14 R14 B15 R15 B16 R16
            generalize hX : v182.heap.size = X16 at B16
            go_upto_region 17 with fail
            clear hw hX
            go_wp2
            go_ret
            exact ⟨by simp, V⟩

  · have hno : (okB s1 l1 && okB s2 l2) = false := by
      cases h1 : okB s1 l1
      · rfl
      · cases h2 : okB s2 l2
        · rfl
        · exact absurd ⟨h1, h2⟩ hg
    have hng : bbG 1 s1 s2 l1 l2 = false := by
      unfold bbG
      rw [← Bool.and_assoc, hno]
      rfl
    obtain ⟨x1, x2, x3⟩ := bb_no hng
    simp only [x3] at T1
    generalize bbS 1 s1 s2 l1 l2 = s4 at T1
    generalize bbL 1 s1 s2 l1 l2 = l4 at T1
    clear x1 x2 x3 hng hg hz1 hz2 HT HTS
    cases h1 : okB s1 l1
    · simp only [h1] at K1
      obtain ⟨m1, y1, z1⟩ := id B1
      go_wp2_with fail
      refine (K1 _ R1).mono ?_
      rintro e w183 ⟨rfl, b183⟩
      clear m1 y1 z1
      replace V := V.trans (b183.mono V.size)
      replace B1 := B1.keep b183
      replace R1 := R1.keep b183
      replace B2 := B2.keep b183
      replace R2 := R2.keep b183
      clear b183
      obtain ⟨m1, y1, z1⟩ := id B1
      obtain ⟨m2, y2, z2⟩ := id B2
      go_wp2_with fail
      refine (T1 _ R1 R2).mono ?_
      rintro e v184 ⟨a4, c4, rfl, O184, b184⟩
      clear m1 y1 z1 m2 y2 z2
      have al : Below v184.heap.size v184 (v184.alloc (.cells #[.bool s4, .slice a4 l4.length c4] 26)) := (Below.refl _ _).alloc (Nat.le_refl _) _
      replace V := (V.trans (b184.mono V.size)).trans (al.mono (V.trans (b184.mono V.size)).size)
      replace B1 := (B1.keep b184).keep al
      replace R1 := (R1.keep b184).keep al
      replace B2 := (B2.keep b184).keep al
      replace R2 := (R2.keep b184).keep al
      have B4 := Box.new v184 (.bool s4) (.slice a4 l4.length c4) 26
      have R4 := O184.rd.keep al
      clear O184 b184 al
      generalize hw : v184.alloc (.cells #[.bool s4, .slice a4 l4.length c4] 26) = w184 at V B1 R1 B2 R2 B4 R4
      generalize hX : v184.heap.size = X4 at B4
      go_upto_region 6 with fail
      clear hw hX
      go_wp2
      go_ret
      exact ⟨rfl, V⟩
    · simp only [h1] at K1 hno
      rw [Bool.true_and] at hno
      simp only [hno] at K2
      obtain ⟨m1, y1, z1⟩ := id B1
      go_wp2_with fail
      refine (K1 _ R1).mono ?_
      rintro e w185 ⟨rfl, b185⟩
      clear m1 y1 z1
      replace V := V.trans (b185.mono V.size)
      replace B1 := B1.keep b185
      replace R1 := R1.keep b185
      replace B2 := B2.keep b185
      replace R2 := R2.keep b185
      clear b185
      obtain ⟨m2, y2, z2⟩ := id B2
      go_wp2_with fail
      refine (K2 _ R2).mono ?_
      rintro e w186 ⟨rfl, b186⟩
      clear m2 y2 z2
      replace V := V.trans (b186.mono V.size)
      replace B1 := B1.keep b186
      replace R1 := R1.keep b186
      replace B2 := B2.keep b186
      replace R2 := R2.keep b186
      clear b186
      obtain ⟨m1, y1, z1⟩ := id B1
      obtain ⟨m2, y2, z2⟩ := id B2
      go_wp2_with fail
      refine (T1 _ R1 R2).mono ?_
      rintro e v187 ⟨a4, c4, rfl, O187, b187⟩
      clear m1 y1 z1 m2 y2 z2
      have al : Below v187.heap.size v187 (v187.alloc (.cells #[.bool s4, .slice a4 l4.length c4] 26)) := (Below.refl _ _).alloc (Nat.le_refl _) _
      replace V := (V.trans (b187.mono V.size)).trans (al.mono (V.trans (b187.mono V.size)).size)
      replace B1 := (B1.keep b187).keep al
      replace R1 := (R1.keep b187).keep al
      replace B2 := (B2.keep b187).keep al
      replace R2 := (R2.keep b187).keep al
      have B4 := Box.new v187 (.bool s4) (.slice a4 l4.length c4) 26
      have R4 := O187.rd.keep al
      clear O187 b187 al
      generalize hw : v187.alloc (.cells #[.bool s4, .slice a4 l4.length c4] 26) = w187 at V B1 R1 B2 R2 B4 R4
      generalize hX : v187.heap.size = X4 at B4
      go_upto_region 6 with fail
      clear hw hX
      go_wp2
      go_ret
      exact ⟨rfl, V⟩

end Go.Proofs.Ythgpacajeaphhaa
