import Derived.Test.YtgbkniliojpejaaDoorDgP
import Derived.Test.YtgbkniliojpejaaDoorDgD
import Derived.Test.YtgbkniliojpejaaDoorBInt
import Derived.BigQuiet
namespace Go.Proofs.YtgbkniliojpejaaDoor
open Go.RowKit
set_option linter.unusedVariables false
set_option linter.unusedSimpArgs false

theorem below_dD {B : Nat} {a w : World} (h : Below B a w) (n : Nat) : Below B a (w.drewN n) := h.trans ⟨rfl, rfl, rfl, Nat.le_refl _, fun _ _ => rfl⟩
theorem bigD_any (w : World) (a : Option Addr) (n c : Nat) :
    Calls Tryd.prog 4 #[.slice a n c] w fun e w' => e = .returned (.bool (decide ((1048576 : Int) < (n : Int)))) ∧ w' = w := by
  go_enter Tryd.func4, Tryd.ntmps4
  go_wp2
  go_ret
  exact ⟨by simp, rfl⟩

set_option maxRecDepth 100000 in
set_option maxHeartbeats 1000000 in
theorem sameBig_any (p : Bool) (v u : Value) (xs : List Int) (w : World) (hx : Rd w v xs) (hy : Rd w u xs) :
    Calls Tryd.prog 9 #[.agg #[.bool p, v], .agg #[.bool p, u]] w fun e w' => e = .returned (.bool true) ∧ Below w.heap.size w w' := by
  obtain ⟨a1, c1, rfl, hl1, hz1, hn1, hc1⟩ := hx
  obtain ⟨a2, c2, rfl, hl2, hz2, hn2, hc2⟩ := hy
  go_enter Tryd.func9, Tryd.ntmps9
  go_wp2_with fail
  have bA := Box.new w (.bool p) (.slice a1 xs.length c1) 26
  have bW : Below w.heap.size w ((w.alloc (Obj.cells #[.bool p, .slice a1 xs.length c1] 26)).alloc (Obj.cells #[.bool p, .slice a2 xs.length c2] 26)) := ((Below.refl _ w).alloc (Nat.le_refl _) _).alloc (by simp) _
  have bB := Box.new (w.alloc (Obj.cells #[.bool p, .slice a1 xs.length c1] 26)) (.bool p) (.slice a2 xs.length c2) 26
  have bA2 := bA.alloc (Obj.cells #[.bool p, .slice a2 xs.length c2] 26)
  simp only [World.size_alloc] at bB
  generalize ((w.alloc (Obj.cells #[.bool p, .slice a1 xs.length c1] 26)).alloc (Obj.cells #[.bool p, .slice a2 xs.length c2] 26)) = W0 at *
  go_loopw [5] (fun i wr => ∃ k : Nat, k ≤ xs.length ∧ i = .int .i64 k ∧ Below W0.heap.size W0 wr) (fun i _ => xs.length - (RowKit.intOf i).toNat)
  case atStart => exact ⟨0, Nat.zero_le _, rfl, Below.refl _ _⟩
  case round =>
    obtain ⟨k, hk, rfl, hB⟩ := hrel
    obtain ⟨l1, q0, q1⟩ := bA2.keep hB
    obtain ⟨l2, r0, r1⟩ := bB.keep hB
    by_cases hlt : k < xs.length
    · obtain ⟨b1, o1, rfl, hb1, hd1⟩ := hc1 (by omega)
      obtain ⟨b2, o2, rfl, hb2, hd2⟩ := hc2 (by omega)
      have x1 := (hB.cell (p := ⟨b1, o1 + k, none⟩) (by have := bW.size; show b1 < _; omega)).trans ((bW.cell (p := ⟨b1, o1 + k, none⟩) hb1).trans (hd1 k hlt))
      have x2 := (hB.cell (p := ⟨b2, o2 + k, none⟩) (by have := bW.size; show b2 < _; omega)).trans ((bW.cell (p := ⟨b2, o2 + k, none⟩) hb2).trans (hd2 k hlt))
      generalize xs.getD k 0 = z at x1 x2
      clear hd1 hd2 hc1 hc2
      go_wp2_with fail
      go_quiet (fail)
      go_wp2_with fail
      go_roundw
      case rel => exact ⟨k + 1, by omega, by go_num, below_dD hB _⟩
      case measure => simp [RowKit.intOf]; omega
    · obtain rfl : k = xs.length := by omega
      go_wp2
      go_ret
      exact ⟨rfl, bW.trans (hB.mono bW.size)⟩

theorem int_back {x : Int} (h0 : -9223372036854775808 ≤ x) (h1 : x ≤ 9223372036854775807) :
    intV (okB (decide (x < 0)) (lim x.natAbs) && decide ((lim x.natAbs).length ≤ 2)) (decide (x < 0)) (val (lim x.natAbs)) = x ∧
    intB (okB (decide (x < 0)) (lim x.natAbs) && decide ((lim x.natAbs).length ≤ 2)) (decide (x < 0)) (val (lim x.natAbs)) = true := by
  have hl : (lim x.natAbs).length ≤ 2 := lim_length_le (show x.natAbs < 4294967296 ^ 2 by omega)
  have hok : okB (decide (x < 0)) (lim x.natAbs) = true := by
    unfold okB
    split
    · rename_i h
      have hx : x = 0 := by
        have := val_lim x.natAbs
        rw [List.length_eq_zero_iff.mp h] at this
        have h2 : val [] = 0 := rfl
        omega
      subst hx
      rfl
    · rename_i h
      rcases lim_norm x.natAbs with h2 | h2
      · exact absurd h2 h
      · rw [decide_eq_true (by omega), decide_eq_true h2]; rfl
  rw [hok, decide_eq_true hl, val_lim]
  by_cases hx : x < 0
  · rw [decide_eq_true hx]
    rw [Bool.and_true, intV_nf (by omega), intB_nf (by omega)]
    exact ⟨by omega, rfl⟩
  · rw [decide_eq_false hx]
    rw [Bool.and_true, intV_pf (by omega), intB_pf (by omega)]
    exact ⟨by omega, rfl⟩

set_option maxRecDepth 100000 in
set_option maxHeartbeats 2000000 in
theorem law_digits (a : Option Addr) (n c : Nat) (bs : List Int) (w : World) (hn : n ≤ 9223372036854775807) (h : n ≤ 1048576 → Src w a n c bs) :
    Calls Tryd.prog 3 #[.slice a n c] w fun e w' => e = .returned (.bool true) ∧ Below w.heap.size w w' := by
  go_enter Tryd.func3, Tryd.ntmps3
  go_wp2_with fail
  refine (bigD_any w a n c).mono ?_
  rintro e w1 ⟨rfl, rfl⟩
  by_cases hb : (1048576 : Int) < (n : Int)
  · rw [decide_eq_true hb]
    go_wp2
    go_ret
    exact ⟨rfl, Below.refl _ _⟩
  rw [decide_eq_false hb]
  have hs := h (by omega)
  clear h hb hn
  go_wp2_with fail
  refine (drawBigOk_any _ a n c bs hs).mono ?_
  rintro e w2 ⟨p, ad, cp, xs, rfl, hl, hO, hB2⟩
  have hz : Limbs xs := hO.2.2
  have bA : Below w2.heap.size w2 (w2.alloc (.cells #[.bool p, .slice ad xs.length cp] 26)) := (Below.refl _ w2).alloc (Nat.le_refl _) _
  have R3 := hO.rd.keep bA
  have bX := Box.new w2 (.bool p) (.slice ad xs.length cp) 26
  have V3 := hB2.trans (bA.mono hB2.size)
  obtain ⟨XL, hXL⟩ : ∃ XL, xs.length = XL := ⟨_, rfl⟩
  have HXL : Hid (xs.length = XL) := hXL
  rw [hXL] at R3 bX V3 hl
  try rw [hXL]
  clear hXL
  go_wp2_with fail
  generalize hWa : w2.alloc (.cells #[.bool p, .slice ad XL cp] 26) = w3 at *
  clear hWa bA hO
  obtain ⟨D0, hD0⟩ : ∃ D0, w2.heap.size = D0 := ⟨_, rfl⟩
  rw [hD0] at bX
  try rw [hD0]
  have hD0l : w1.heap.size ≤ D0 := by rw [← hD0]; exact hB2.size
  clear hD0 hB2
  go_loopw [4] (fun b wr => ∃ k : Nat, 2 ≤ k ∧ k ≤ 37 ∧ b = .int .i64 k ∧ Below w1.heap.size w1 wr ∧ Box wr D0 (.bool p) (.slice ad XL cp) ∧ Rd wr (.slice ad XL cp) xs) (fun b _ => 37 - (RowKit.intOf b).toNat)
  case atStart => exact ⟨2, by omega, by omega, rfl, V3, bX, R3⟩
  case round =>
    obtain ⟨k, hk2, hk, rfl, hV, hX, hR⟩ := hrel
    clear V3 bX R3
    by_cases hlt : k ≤ 36
    · have hki : (k : Int) ≤ 36 := by omega
      obtain ⟨lx, q0, q1⟩ := id hX
      go_wp2_with fail
      refine (bigText_any p (.slice ad XL cp) xs (k : Int) _ hR (by omega) (by omega)).mono ?_
      rintro e w4 ⟨rfl, hB4⟩
      have hX4 := hX.keep hB4
      have hR4 := hR.keep hB4
      have hV4 := hV.trans (hB4.mono hV.size)
      clear hX hR hV hB4 q0 q1 lx
      generalize hT : btA p xs (k : Int) = T
      have HT : Hid (btA p xs (k : Int) = T) := hT
      clear hT
      go_wp2_with fail
      refine (bigReadI_any ⟨T.toArray⟩ (k : Int) _ (by omega) (by omega)).mono ?_
      rintro e w5 ⟨ra, rc, rfl, hO5, hB5⟩
      have hX5 := hX4.keep hB5
      have hR5 := hR4.keep hB5
      have hV5 := hV4.trans (hB5.mono hV4.size)
      clear hX4 hR4 hV4 hB5
      generalize hA : readAns ⟨T.toArray⟩ (k : Int) = A at *
      have HA : Hid (readAns ⟨T.toArray⟩ (k : Int) = A) := hA
      clear hA
      obtain ⟨RL, hRL⟩ : ∃ RL, (rdL A).length = RL := ⟨_, rfl⟩
      have HRL : Hid ((rdL A).length = RL) := hRL
      rw [hRL] at hO5
      try rw [hRL]
      clear hRL
      have bA6 : Below w5.heap.size w5 (w5.alloc (.cells #[.bool (rdS A), .slice ra RL rc] 26)) := (Below.refl _ w5).alloc (Nat.le_refl _) _
      have hX6 := hX5.keep bA6
      have hR6 := hR5.keep bA6
      have hV6 := hV5.trans (bA6.mono hV5.size)
      have hB6 := Box.new w5 (.bool (rdS A)) (.slice ra RL rc) 26
      have hO6 := hO5.rd.keep bA6
      obtain ⟨lx, q0, q1⟩ := id hX6
      go_wp2_with fail
      generalize hWb : w5.alloc (.cells #[.bool (rdS A), .slice ra RL rc] 26) = w6 at *
      clear hWb bA6 hX5 hR5 hV5 hO5
      refine (bigOkS_any p (.slice ad XL cp) xs _ hR6).mono ?_
      rintro e w7 ⟨rfl, hB7⟩
      have hX7 := hX6.keep hB7
      have hR7 := hR6.keep hB7
      have hV7 := hV6.trans (hB7.mono hV6.size)
      have hB8 := hB6.keep hB7
      have hO7 := hO6.keep hB7
      obtain ⟨D1, hD1⟩ : ∃ D1, w5.heap.size = D1 := ⟨_, rfl⟩
      rw [hD1] at hB8
      try rw [hD1]
      clear hX6 hR6 hV6 hB6 hO6 hB7 lx q0 q1 hD1
      obtain ⟨lx, q0, q1⟩ := id hX7
      obtain ⟨lb, r0, r1⟩ := id hB8
      cases hok : okB p xs
      · obtain ⟨e1, e2⟩ := read_none hok (k : Int)
        obtain rfl : T = [] := by rw [← HT.out]; exact e1
        obtain rfl : A = none := by rw [← HA.out]; exact e2
        clear e1 e2 hok
        go_wp2_with fail
        go_roundw
        case rel => exact ⟨k + 1, by omega, by omega, by go_num, hV7, hX7, hR7⟩
        case measure => simp [RowKit.intOf]; omega
      · obtain ⟨e1, e2, e3⟩ := read_text hz hok k hk2 hlt
        rw [HT.out] at e1 e2 e3
        obtain rfl : A = some (p, val xs) := by rw [← HA.out]; exact e1
        have hrl : rdL (some (p, val xs)) = xs := lim_val hz (okB_nd hok).1
        have hrs : rdS (some (p, val xs)) = p := val_pos hz hok
        rw [hrl] at hO7 HRL
        rw [hrs] at r0 hB8
        obtain rfl : XL = RL := by rw [← HXL.out, ← HRL.out]
        clear e1 hok hrl hrs
        have hTl : ((T.toArray.size : Nat) : Int) ≤ 5000 := by simp; omega
        go_wp2_with fail
        refine (sameBig_any p (.slice ad XL cp) (.slice ra XL rc) xs _ hR7 hO7).mono ?_
        rintro e w8 ⟨rfl, hB9⟩
        have hX9 := hX7.keep hB9
        have hR9 := hR7.keep hB9
        have hV9 := hV7.trans (hB9.mono hV7.size)
        have hTne : ¬ (⟨T.toArray⟩ : ByteArray) = ⟨#[]⟩ := by
          intro e
          have e' : T.toArray = #[] := congrArg ByteArray.data e
          have e4 : T = [] := by simpa using e'
          rw [e4] at e2
          simp at e2
        have hTn : ¬ T = [] := by intro e; rw [e] at e2; simp at e2
        have hTb : (T == []) = false := by simpa using hTn
        have hTr : (T.toArray == #[]) = false := by simpa using hTn
        clear q0 q1 r0 r1
        go_wp2_with fail
        go_roundw
        case rel => exact ⟨k + 1, by omega, by omega, by go_num, hV9, hX9, hR9⟩
        case measure => simp [RowKit.intOf]; omega
    · obtain rfl : k = 37 := by omega
      have hs9 : Src _ a n c bs := hs.keep hV
      go_wp2_with fail
      refine (drawBigOf_any _ a n c bs hs9).mono ?_
      rintro e w4 ⟨x, rfl, hx0, hx1, hB4⟩
      have hV4 := hV.trans (hB4.mono hV.size)
      go_wp2_with fail
      refine (bigOf_any x _ hx0 hx1).mono ?_
      rintro e w5 ⟨ra, rc, rfl, hO5, hB5⟩
      have hV5 := hV4.trans (hB5.mono hV4.size)
      go_wp2_with fail
      refine (bigInt_any (decide (x < 0)) (.slice ra (lim x.natAbs).length rc) (lim x.natAbs) _ hO5.rd).mono ?_
      rintro e w6 ⟨rfl, hB6⟩
      have hV6 := hV5.trans (hB6.mono hV5.size)
      obtain ⟨i1, i2⟩ := int_back hx0 hx1
      rw [i1, i2]
      go_wp2_with fail
      go_ret
      exact ⟨rfl, hV6⟩
end Go.Proofs.YtgbkniliojpejaaDoor
