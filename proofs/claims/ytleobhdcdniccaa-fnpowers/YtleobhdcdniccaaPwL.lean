import Derived.Test.YtleobhdcdniccaaPwD
import Derived.Test.YtleobhdcdniccaaPwP
import Derived.Test.YtleobhdcdniccaaPowA
import Derived.Test.YtleobhdcdniccaaBMul
import Derived.Test.YtleobhdcdniccaaSbQ
namespace Go.Proofs.Ytleobhdcdniccaa
open Go.RowKit
set_option linter.unusedVariables false
set_option linter.unusedSimpArgs false

set_option maxRecDepth 100000 in
set_option maxHeartbeats 4000000 in
theorem law_powers (a : Option Addr) (ZL c : Nat) (zs : List Int) (a' : Option Addr) (ZM c' : Nat) (ms : List Int) (w : World) (hl : ZL ≤ 9223372036854775807) (hr : ZL ≤ 1048576 → Src w a ZL c zs) (hl' : ZM ≤ 9223372036854775807) (hr' : ZM ≤ 1048576 → Src w a' ZM c' ms) :
    Calls Try.prog 6 #[.slice a ZL c, .slice a' ZM c'] w fun e w' => e = .returned (.bool true) ∧ Below w.heap.size w w' := by
  have HB := fun W => bigD_any W a ZL c
  have HB' := fun W => bigD_any W a' ZM c'
  by_cases hbig : 1048576 < ZL
  · rw [decide_eq_true (by omega)] at HB
    go_enter Try.func6, Try.ntmps6
    go_wp2_with fail
    refine (HB _).mono ?_
    rintro e w2 ⟨rfl, rfl⟩
    go_wp2
    go_ret
    exact ⟨rfl, Below.refl _ _⟩
  rw [decide_eq_false (by omega)] at HB
  by_cases hbig' : 1048576 < ZM
  · rw [decide_eq_true (by omega)] at HB'
    go_enter Try.func6, Try.ntmps6
    go_wp2_with fail
    refine (HB _).mono ?_
    rintro e w2 ⟨rfl, rfl⟩
    go_wp2_with fail
    refine (HB' _).mono ?_
    rintro e w2 ⟨rfl, rfl⟩
    go_wp2
    go_ret
    exact ⟨rfl, Below.refl _ _⟩
  rw [decide_eq_false (by omega)] at HB'
  have HD := drawPow_any w a ZL c zs (hr (by omega))
  obtain ⟨m, hm⟩ : ∃ m : Nat, ZM % 9 = m := ⟨_, rfl⟩
  have hmd : Int.tmod (ZM : Int) 9 = (m : Int) := by rw [← hm]; exact (Int.ofNat_tmod ZM 9).symm
  have hm9 : m < 9 := by omega
  have hm9z : (m : Int) < 9 := by omega
  clear hr hr' hm
  go_enter Try.func6, Try.ntmps6
  go_wp2_with fail
  refine (HB _).mono ?_
  rintro e w1 ⟨rfl, hw1⟩
  rw [hw1]
  clear hw1 w1
  go_wp2_with fail
  refine (HB' _).mono ?_
  rintro e w1 ⟨rfl, hw1⟩
  rw [hw1]
  clear hw1 w1
  go_wp2_with fail
  refine HD.mono ?_
  rintro e w2 ⟨p, ad, cp, xs, n, rfl, hn0, hn1, hO, V2⟩
  have R2 := hO.rd
  have hz : Limbs xs := by obtain ⟨_, _, _, _, h, _⟩ := R2; exact h
  have bA := Box.new w2 (.bool p) (.slice ad xs.length cp) 26
  have al : Below w2.heap.size w2 (w2.alloc (.cells #[.bool p, .slice ad xs.length cp] 26)) := (Below.refl _ _).alloc (Nat.le_refl _) _
  have R3 := R2.keep al
  have V3 := V2.trans (al.mono V2.size)
  clear HD HB HB' R2 hO al V2
  generalize hw3 : w2.alloc (.cells #[.bool p, .slice ad xs.length cp] 26) = w3 at bA R3 V3
  generalize hX : w2.heap.size = X at bA
  go_upto_region 5 with fail
  clear hw3 hX
  obtain ⟨XL, hXL⟩ : ∃ XL, xs.length = XL := ⟨_, rfl⟩
  have HXL : Hid (xs.length = XL) := hXL
  rw [hXL] at bA R3 ⊢
  clear hXL
  have HOk := bigOkS_any p _ xs w3 R3
  obtain ⟨g, hg⟩ : ∃ g, okB p xs = g := ⟨_, rfl⟩
  have HG : Hid (okB p xs = g) := hg
  rw [hg] at HOk
  obtain ⟨lA, k0, k1⟩ := id bA
  clear hg
  go_wp2_with fail
  refine HOk.mono ?_
  rintro e w4 ⟨rfl, b4⟩
  have V4 := V3.trans (b4.mono V3.size)
  have bA4 := bA.keep b4
  have R4 := R3.keep b4
  clear lA k0 k1 bA R3 HOk b4 V3
  have HPow := fun (W : World) (k : Int) (h : Rd W (.slice ad XL cp) xs) (h0 : -9223372036854775808 ≤ k) (h1 : k ≤ 9223372036854775807) => bigPow_any p _ xs k W h h0 h1
  have HPowS := fun (W : World) (k : Int) (h : Rd W (.slice ad XL cp) xs) (h0 : -9223372036854775808 ≤ k) (h1 : k ≤ 9223372036854775807) => bigPowS_any p _ xs k W h h0 h1
  rw [HG.out] at HPow HPowS
  by_cases hmain : g = true ∧ 0 ≤ n ∧ n ≤ 4611686018427387904
  · obtain ⟨rfl, hn2, hn3⟩ := hmain
    have hn2' : ¬ n < 0 := by omega
    have hn3' : ¬ (4611686018427387904 : Int) < n := by omega
    have hnm : n + (m : Int) ≤ 9223372036854775807 := by omega
    obtain ⟨e11, e12, e13⟩ := pw_ok (X := val xs) (p := p) (n := n) (by omega)
    obtain ⟨e21, e22, e23⟩ := pw_ok (X := val xs) (p := p) (n := (m : Int)) (by omega)
    obtain ⟨e31, e32, e33⟩ := pw_ok (X := val xs) (p := p) (n := n + (m : Int)) (by omega)
    have P1 := HPow w4 n R4 hn0 hn1
    have P2 := fun W h => HPow W (m : Int) h (by omega) (by omega)
    have P3 := fun W h => HPow W (n + (m : Int)) h (by omega) (by omega)
    rw [e11, e12, e13] at P1
    simp only [e21, e22, e23] at P2
    simp only [e31, e32, e33] at P3
    have HLo : 0 < XL → fitC (val xs ^ (n + (m : Int)).toNat) = 0 → fitC (val xs ^ n.toNat) = 0 ∧ fitC (val xs ^ (m : Int).toNat) = 0 := fun h0 h3 => pw_low (val xs) n m hn2 (by omega) (ok_pos hz HG.out (by rw [HXL.out]; exact h0)) h3
    have HMu := pw_mul p (val xs) n (m : Int) hn2 (by omega)
    have HM := fun (W : World) (v u : Value) (h1 : Rd W v (fitL (val xs ^ n.toNat))) (h2 : Rd W u (fitL (val xs ^ (m : Int).toNat))) => bigMul_any (fitS (p && decide (n % 2 = 1)) (val xs ^ n.toNat)) (fitS (p && decide ((m : Int) % 2 = 1)) (val xs ^ (m : Int).toNat)) v u _ _ W h1 h2
    simp only at HMu
    have T1 := fitC_two (val xs ^ n.toNat)
    have T2 := fitC_two (val xs ^ (m : Int).toNat)
    have T3 := fitC_two (val xs ^ (n + (m : Int)).toNat)
    clear e11 e12 e13 e21 e22 e23 e31 e32 e33 HPow HPowS
    generalize opS _ _ (val (fitL (val xs ^ n.toNat)) * val (fitL (val xs ^ (m : Int).toNat))) = s4 at HMu HM
    generalize opL _ (val (fitL (val xs ^ n.toNat)) * val (fitL (val xs ^ (m : Int).toNat))) = l4 at HMu HM
    generalize opC _ (val (fitL (val xs ^ n.toNat)) * val (fitL (val xs ^ (m : Int).toNat))) = c4 at HMu HM
    generalize fitS (p && decide (n % 2 = 1)) (val xs ^ n.toNat) = s1 at *
    generalize fitS (p && decide ((m : Int) % 2 = 1)) (val xs ^ (m : Int).toNat) = s2 at *
    generalize fitS (p && decide ((n + (m : Int)) % 2 = 1)) (val xs ^ (n + (m : Int)).toNat) = s3 at *
    generalize fitL (val xs ^ n.toNat) = l1 at *
    generalize fitL (val xs ^ (m : Int).toNat) = l2 at *
    generalize fitL (val xs ^ (n + (m : Int)).toNat) = l3 at *
    generalize fitC (val xs ^ n.toNat) = c1 at *
    generalize fitC (val xs ^ (m : Int).toNat) = c2 at *
    generalize fitC (val xs ^ (n + (m : Int)).toNat) = c3 at *
    have HLO : Hid (0 < XL → c3 = 0 → c1 = 0 ∧ c2 = 0) := HLo
    have HMU : Hid (c1 = 0 → c2 = 0 → s4 = s3 ∧ l4 = l3 ∧ c4 = c3) := HMu
    have HT : Hid ((c1 = 0 ∨ c1 = 3) ∧ (c2 = 0 ∨ c2 = 3) ∧ (c3 = 0 ∨ c3 = 3)) := ⟨T1, T2, T3⟩
    clear HLo HMu T1 T2 T3
    obtain ⟨lA, k0, k1⟩ := id bA4
    go_wp2_with fail
    refine P1.mono ?_
    rintro e w5 ⟨a5, c5, rfl, O5, b5⟩
    have V5 := V4.trans (b5.mono V4.size)
    have al : Below w5.heap.size w5 (w5.alloc (.cells #[.bool s1, .slice a5 l1.length c5] 26)) := (Below.refl _ _).alloc (Nat.le_refl _) _
    have bA6 := (bA4.keep b5).keep al
    have R6 := (R4.keep b5).keep al
    have V6 := V5.trans (al.mono V5.size)
    have bB6 := Box.new w5 (.bool s1) (.slice a5 l1.length c5) 26
    have Q6 := O5.rd.keep al
    clear O5 b5 al V5 lA k0 k1 P1 bA4 R4 V4
    generalize hw6 : w5.alloc (.cells #[.bool s1, .slice a5 l1.length c5] 26) = w6 at bA6 R6 V6 bB6 Q6
    generalize hX1 : w5.heap.size = X1 at bB6
    go_upto_region 10 with fail
    clear hw6 hX1
    obtain ⟨lA, k0, k1⟩ := id bA6
    go_wp2_with fail
    refine (P2 _ R6).mono ?_
    rintro e w7 ⟨a7, c7, rfl, O7, b7⟩
    have V7 := V6.trans (b7.mono V6.size)
    have al : Below w7.heap.size w7 (w7.alloc (.cells #[.bool s2, .slice a7 l2.length c7] 26)) := (Below.refl _ _).alloc (Nat.le_refl _) _
    have bA8 := (bA6.keep b7).keep al
    have R8 := (R6.keep b7).keep al
    have bB8 := (bB6.keep b7).keep al
    have Q8 := (Q6.keep b7).keep al
    have V8 := V7.trans (al.mono V7.size)
    have bC8 := Box.new w7 (.bool s2) (.slice a7 l2.length c7) 26
    have S8 := O7.rd.keep al
    clear O7 b7 al V7 lA k0 k1 P2 bA6 R6 bB6 Q6 V6
    generalize hw8 : w7.alloc (.cells #[.bool s2, .slice a7 l2.length c7] 26) = w8 at bA8 R8 V8 bB8 Q8 bC8 S8
    generalize hX2 : w7.heap.size = X2 at bC8
    go_upto_region 11 with fail
    clear hw8 hX2
    obtain ⟨lA, k0, k1⟩ := id bA8
    go_wp2_with fail
    refine (P3 _ R8).mono ?_
    rintro e w9 ⟨a9, c9, rfl, O9, b9⟩
    have V9 := V8.trans (b9.mono V8.size)
    have al : Below w9.heap.size w9 (w9.alloc (.cells #[.bool s3, .slice a9 l3.length c9] 26)) := (Below.refl _ _).alloc (Nat.le_refl _) _
    have bA10 := (bA8.keep b9).keep al
    have bB10 := (bB8.keep b9).keep al
    have Q10 := (Q8.keep b9).keep al
    have bC10 := (bC8.keep b9).keep al
    have S10 := (S8.keep b9).keep al
    have V10 := V9.trans (al.mono V9.size)
    have bD10 := Box.new w9 (.bool s3) (.slice a9 l3.length c9) 26
    have T10 := O9.rd.keep al
    clear O9 b9 al V9 lA k0 k1 P3 bA8 R8 bB8 Q8 bC8 S8 V8
    generalize hw10 : w9.alloc (.cells #[.bool s3, .slice a9 l3.length c9] 26) = w10 at bA10 V10 bB10 Q10 bC10 S10 bD10 T10
    generalize hX3 : w9.heap.size = X3 at bD10
    go_upto_region 12 with fail
    clear hw10 hX3
    obtain ⟨lB, k0, k1⟩ := id bB10
    obtain ⟨lC, k2, k3⟩ := id bC10
    go_wp2_with fail
    refine (HM _ _ _ Q10 S10).mono ?_
    rintro e w11 ⟨a11, c11, rfl, O11, b11⟩
    have V11 := V10.trans (b11.mono V10.size)
    have al : Below w11.heap.size w11 (w11.alloc (.cells #[.bool s4, .slice a11 l4.length c11] 26)) := (Below.refl _ _).alloc (Nat.le_refl _) _
    have bA12 := (bA10.keep b11).keep al
    have bD12 := (bD10.keep b11).keep al
    have T12 := (T10.keep b11).keep al
    have V12 := V11.trans (al.mono V11.size)
    have bE12 := Box.new w11 (.bool s4) (.slice a11 l4.length c11) 26
    have U12 := O11.rd.keep al
    clear O11 b11 al V11 lB lC k0 k1 k2 k3 HM bA10 bB10 Q10 bC10 S10 bD10 T10 V10
    generalize hw12 : w11.alloc (.cells #[.bool s4, .slice a11 l4.length c11] 26) = w12 at bA12 V12 bD12 T12 bE12 U12
    generalize hX4 : w11.heap.size = X4 at bE12
    go_upto_region 13 with fail
    clear hw12 hX4
    obtain ⟨lA, k0, k1⟩ := id bA12
    obtain ⟨lD, k2, k3⟩ := id bD12
    obtain ⟨lE, k4, k5⟩ := id bE12
    obtain ⟨T1, T2, T3⟩ := HT.out
    by_cases hXL : 0 < XL
    · have hXz : (0 : Int) < (XL : Int) := by omega
      rcases T3 with rfl | rfl
      · obtain ⟨rfl, rfl⟩ := HLO.out hXL rfl
        obtain ⟨rfl, rfl, rfl⟩ := HMU.out rfl rfl
        have HSm := sameBig_any s4 _ _ l4 w12 T12 U12
        go_wp2_with fail
        refine HSm.mono ?_
        rintro e w13 ⟨rfl, b13⟩
        go_wp2
        go_ret
        exact ⟨rfl, V12.trans (b13.mono V12.size)⟩
      · rcases T1 with rfl | rfl
        · rcases T2 with rfl | rfl
          · obtain ⟨rfl, rfl, rfl⟩ := HMU.out rfl rfl
            have HSm := sameBig_any s4 _ _ l4 w12 T12 U12
            go_wp2_with fail
            refine HSm.mono ?_
            rintro e w13 ⟨rfl, b13⟩
            go_wp2
            go_ret
            exact ⟨rfl, V12.trans (b13.mono V12.size)⟩
          · go_wp2
            go_ret
            exact ⟨rfl, V12⟩
        · go_wp2
          go_ret
          exact ⟨rfl, V12⟩
    · have hXz : ¬ (0 : Int) < (XL : Int) := by omega
      rcases T3 with rfl | rfl
      all_goals
        rcases T1 with rfl | rfl
        · rcases T2 with rfl | rfl
          · obtain ⟨rfl, rfl, rfl⟩ := HMU.out rfl rfl
            have HSm := sameBig_any s4 _ _ l4 w12 T12 U12
            go_wp2_with fail
            refine HSm.mono ?_
            rintro e w13 ⟨rfl, b13⟩
            go_wp2
            go_ret
            exact ⟨rfl, V12.trans (b13.mono V12.size)⟩
          · go_wp2
            go_ret
            exact ⟨rfl, V12⟩
        · go_wp2
          go_ret
          exact ⟨rfl, V12⟩
  · obtain ⟨lA, k0, k1⟩ := id bA4
    have hcase : g = false ∨ (g = true ∧ n < 0) ∨ (g = true ∧ ¬ n < 0 ∧ 4611686018427387904 < n) := by
      cases g
      · exact .inl rfl
      · by_cases h1 : n < 0
        · exact .inr (.inl ⟨rfl, h1⟩)
        · exact .inr (.inr ⟨rfl, h1, by
            by_cases h2 : (4611686018427387904 : Int) < n
            · exact h2
            · exact absurd ⟨rfl, by omega, by omega⟩ hmain⟩)
    have H1 := HPow w4 n R4 hn0 hn1
    have HS1 := fun W h => HPowS W n h hn0 hn1
    generalize pwS g p (val xs) n = s1 at H1 HS1
    generalize pwL g (val xs) n = l1 at H1 HS1
    generalize pwC g (val xs) n = c1 at H1 HS1
    have hcc : (c1 == c1) = true := by simp
    clear hmain HPow HPowS
    rcases hcase with rfl | ⟨rfl, h1⟩ | ⟨rfl, h1, h2⟩
    all_goals
      go_wp2_with fail
      refine H1.mono ?_
      rintro e w5 ⟨a5, c5, rfl, O5, b5⟩
      have V5 := V4.trans (b5.mono V4.size)
      have bA5 := bA4.keep b5
      have R5 := R4.keep b5
      have al : Below w5.heap.size w5 (w5.alloc (.cells #[.bool s1, .slice a5 l1.length c5] 26)) := (Below.refl _ _).alloc (Nat.le_refl _) _
      have bA6 := bA5.keep al
      have R6 := R5.keep al
      have V6 := V5.trans (al.mono V5.size)
      clear O5 b5 bA5 R5 al V5 lA k0 k1
      generalize hw6 : w5.alloc (.cells #[.bool s1, .slice a5 l1.length c5] 26) = w6 at bA6 R6 V6
      go_upto_region 7 with fail
      clear hw6
      obtain ⟨lA, k0, k1⟩ := id bA6
      go_wp2_with fail
      refine (HS1 _ R6).mono ?_
      rintro e w7 ⟨a7, c7, rfl, O7, b7⟩
      have V7 := V6.trans (b7.mono V6.size)
      have V8 := V7.alloc V7.size (.cells #[.bool s1, .slice a7 l1.length c7] 26)
      clear O7 b7 lA k0 k1
      go_wp2
      go_ret
      exact ⟨by simp, V8⟩
end Go.Proofs.Ytleobhdcdniccaa
