import Derived.Test.YtdamddfhflhfbaaDoorSlcS
namespace Go.Proofs.YtdamddfhflhfbaaDoor
open Go.RowKit
set_option linter.unusedVariables false
set_option linter.unusedSimpArgs false

theorem upL_succ (a : Int) (k d : Nat) : upL a k (d + 1) = upL a k d ++ (if d % k = 0 then [a + (d : Int)] else []) := by
  unfold upL
  rw [stepsL_succ, List.map_append]
  by_cases h : d % k = 0
  · rw [if_pos h, if_pos h]; rfl
  · rw [if_neg h, if_neg h]; rfl
theorem downL_succ (a : Int) (k d : Nat) : downL a k (d + 1) = downL a k d ++ (if d % k = 0 then [a - (d : Int)] else []) := by
  unfold downL
  rw [stepsL_succ, List.map_append]
  by_cases h : d % k = 0
  · rw [if_pos h, if_pos h]; rfl
  · rw [if_neg h, if_neg h]; rfl
theorem w64 {a : Int} (h0 : -9223372036854775808 ≤ a) (h1 : a ≤ 9223372036854775807) : IntKind.i64.wrap a = a := by
  simp [IntKind.wrap, IntKind.bits, IntKind.signed]; omega
theorem tmod_up (j k : Nat) : Int.tmod (j : Int) (k : Int) = ((j % k : Nat) : Int) := rfl
theorem tmod_down (j k : Nat) : Int.tmod (j : Int) (-(k : Int)) = ((j % k : Nat) : Int) := by rw [Int.tmod_neg]; rfl
set_option maxHeartbeats 2000000 in
set_option maxRecDepth 100000 in
theorem sliceS_up (n : Int) (lh : Bool) (la : Int) (hh : Bool) (ha : Int) (sh : Bool) (sa : Int) (w : World) (hn0 : 0 ≤ n) (hn1 : n ≤ 16384)
    (hl0 : -9223372036854775808 ≤ la) (hl1 : la ≤ 9223372036854775807) (hh0 : -9223372036854775808 ≤ ha) (hh1 : ha ≤ 9223372036854775807) (hs0 : -9223372036854775808 ≤ sa) (hs1 : sa ≤ 9223372036854775807)
    (k : Nat) (hk : (if sh = true then sa else 1) = (k : Int)) (hk0 : 0 < k) :
    Calls Tryd.prog 12 #[.int .i64 n, bnd lh la, bnd hh ha, bnd sh sa] w fun e w' => ∃ ao co, e = .returned (.tuple #[.slice ao (upL (clampA n lh la 0 n 0) k (clampA n hh ha 0 n n - clampA n lh la 0 n 0).toNat).length co, .int .i64 0]) ∧
      Own w' w.heap.size (.slice ao (upL (clampA n lh la 0 n 0) k (clampA n hh ha 0 n n - clampA n lh la 0 n 0).toNat).length co) (upL (clampA n lh la 0 n 0) k (clampA n hh ha 0 n n - clampA n lh la 0 n 0).toNat) ∧ Below w.heap.size w w' := by
  have hC1 := fun W => l3Clamp_any n lh la 0 n 0 W hn0 hn1 hl0 hl1
  have hC2 := fun W => l3Clamp_any n hh ha 0 n n W hn0 hn1 hh0 hh1
  have b1 := clampA_in (n := n) (at_ := la) (low := 0) (high := n) (none := 0) (has := lh) (by omega) (by omega) (by omega)
  have b2 := clampA_in (n := n) (at_ := ha) (low := 0) (high := n) (none := n) (has := hh) (by omega) (by omega) (by omega)
  generalize clampA n lh la 0 n 0 = a at hC1 b1 ⊢
  generalize clampA n hh ha 0 n n = b at hC2 b2 ⊢
  obtain ⟨b11, b12⟩ := b1
  obtain ⟨b21, b22⟩ := b2
  have hn2 : ¬ n < 0 := by omega
  have hn3 : ¬ 16384 < n := by omega
  have hkb : k ≤ 9223372036854775808 := by cases sh <;> simp at hk <;> omega
  cases sh with
  | false =>
    have hk' : k = 1 := by simp at hk; omega
    subst hk'
    clear hk
    have bH := (((Box.new (w.alloc (Obj.cells #[.bool lh, .int .i64 la] 27)) (.bool hh) (.int .i64 ha) 27).alloc (Obj.cells #[.bool false, .int .i64 sa] 27)).alloc (Obj.cells #[] 2))
    have oE := Own.empty (((w.alloc (Obj.cells #[.bool lh, .int .i64 la] 27)).alloc (Obj.cells #[.bool hh, .int .i64 ha] 27)).alloc (Obj.cells #[.bool false, .int .i64 sa] 27))
    have bW : Below w.heap.size w ((((w.alloc (Obj.cells #[.bool lh, .int .i64 la] 27)).alloc (Obj.cells #[.bool hh, .int .i64 ha] 27)).alloc (Obj.cells #[.bool false, .int .i64 sa] 27)).alloc (Obj.cells #[] 2)) := ((((Below.refl _ w).alloc (Nat.le_refl _) _).alloc (by simp) _).alloc (by simp; omega) _).alloc (by simp; omega) _
    simp only [World.size_alloc] at bH oE
    go_enter Tryd.func12, Tryd.ntmps12
    go_wp2_with fail
    refine (hC1 _).mono ?_
    rintro e w1 ⟨rfl, hB1⟩
    obtain ⟨_, q0, q1⟩ := bH.keep hB1
    clear hC1
    go_wp2_with fail
    refine (hC2 _).mono ?_
    rintro e w2 ⟨rfl, hB2⟩
    have hO0 := ((oE.keep hB1).keep hB2).mono (show w.heap.size ≤ w.heap.size + 1 + 1 + 1 by omega)
    have hB0 := (bW.trans (hB1.mono (by have := bW.size; exact this))).trans (hB2.mono (by have := (bW.trans (hB1.mono bW.size)).size; exact this))
    clear hC2 bH oE bW hB1 hB2 q0 q1
    go_wp2
    go_loopw [10, 14] (fun o i wr => ∃ (j : Nat) (ao : Option Addr) (co : Nat), ((j : Int) ≤ b - a ∨ j = 0) ∧ i = .int .i64 (a + (j : Int)) ∧ o = .slice ao (upL a 1 j).length co ∧ Own wr w.heap.size (.slice ao (upL a 1 j).length co) (upL a 1 j) ∧ Below w.heap.size w wr) (fun _ i _ => (b - intOf i).toNat)
    case atStart => exact ⟨0, _, _, .inr rfl, by simp, rfl, hO0, hB0⟩
    case round =>
      obtain ⟨j, ao, co, hj, rfl, rfl, hOw, hBr⟩ := hrel
      have hll := upL_len a 1 j
      by_cases hi : a + (j : Int) < b
      · have hws : IntKind.i64.wrap (a + (j : Int) - a) = (j : Int) := by rw [show (a + (j : Int) - a) = (j : Int) by omega]; exact w64 (by omega) (by omega)
        have htm := tmod_up j 1
        have hw1 := w64 (a := a + (j : Int) + 1) (by omega) (by omega)
        obtain ⟨m, hm⟩ : ∃ m, j % 1 = m := ⟨_, rfl⟩
        rw [hm] at htm
        have hmb : m ≤ j := by rw [← hm]; exact Nat.mod_le _ _
        have hwm := w64 (a := (m : Int)) (by omega) (by omega)
        obtain ⟨z, hz⟩ : ∃ z : Int, a + (j : Int) = z := ⟨_, rfl⟩
        have hz0 : 0 ≤ z := by omega
        have hz1 : z < 4294967296 := by omega
        by_cases hd : m = 0
        · have HU : Hid (upL a 1 j ++ [z] = upL a 1 (j + 1)) := by
            show _ = _
            rw [upL_succ, hm, if_pos hd, hz]
          rw [hz] at hws hw1 hi ⊢
          have hmz : ((m : Int) == 0) = true := by rw [beq_iff_eq]; omega
          have hln : (upL a 1 j ++ [z]).length = (upL a 1 (j + 1)).length := by rw [HU.out]
          have HJ : Hid (z = a + (j : Int)) := hz.symm
          clear hm hd hz
          obtain ⟨X, hX⟩ : ∃ X, upL a 1 j = X := ⟨_, rfl⟩
          rw [hX] at hOw hll HU hln ⊢
          go_wp2_with (at_builtin; refine wpList_append_rd rfl _ _ 24 rfl Tryd.underlying24 w.heap.size _ _ X [z] rfl rfl (hOw.alloc _) (Rd.one wr wr.heap.size rfl 2 hz0 hz1) (by simp; omega) (by have := hBr.size; simp; omega) ?_; intro a1 c1 w1 hO1 hB1)
          have hB2 := (hBr.alloc hBr.size (Obj.cells #[.int .i64 z] 2)).trans hB1
          rw [hln, HU.out] at hO1
          go_roundw
          case rel => exact ⟨j + 1, a1, c1, .inl (by have := HJ.out; omega), by have := HJ.out; first | (congr 1; omega) | (simp; omega), by first | (rw [← hln]; simp) | simp [← hln], hO1, hB2⟩
          case measure => have := HJ.out; first | (simp [intOf]; omega) | (simp [intOf]; done)
        · exact absurd (by omega) hd
      · have hje : Hid (j = (b - a).toNat) := by show _ = _; omega
        go_wp2
        refine bodyPost_ret (v := .tuple #[.slice ao (upL a 1 j).length co, .int .i64 0]) (by simp [results, Tryd.results12, go_sem]) rfl ?_
        rw [← hje.out]
        exact ⟨ao, co, rfl, hOw, hBr⟩
  | true =>
    obtain rfl : sa = (k : Int) := by simpa using hk
    have hkz : ((k : Int) == 0) = false := by rw [beq_eq_false_iff_ne]; omega
    have hkp : (0 : Int) < (k : Int) := by omega
    clear hk
    have bH := (((Box.new (w.alloc (Obj.cells #[.bool lh, .int .i64 la] 27)) (.bool hh) (.int .i64 ha) 27).alloc (Obj.cells #[.bool true, .int .i64 (k : Int)] 27)).alloc (Obj.cells #[] 2))
    have oE := Own.empty (((w.alloc (Obj.cells #[.bool lh, .int .i64 la] 27)).alloc (Obj.cells #[.bool hh, .int .i64 ha] 27)).alloc (Obj.cells #[.bool true, .int .i64 (k : Int)] 27))
    have bW : Below w.heap.size w ((((w.alloc (Obj.cells #[.bool lh, .int .i64 la] 27)).alloc (Obj.cells #[.bool hh, .int .i64 ha] 27)).alloc (Obj.cells #[.bool true, .int .i64 (k : Int)] 27)).alloc (Obj.cells #[] 2)) := ((((Below.refl _ w).alloc (Nat.le_refl _) _).alloc (by simp) _).alloc (by simp; omega) _).alloc (by simp; omega) _
    simp only [World.size_alloc] at bH oE
    go_enter Tryd.func12, Tryd.ntmps12
    go_wp2_with fail
    refine (hC1 _).mono ?_
    rintro e w1 ⟨rfl, hB1⟩
    obtain ⟨_, q0, q1⟩ := bH.keep hB1
    clear hC1
    go_wp2_with fail
    refine (hC2 _).mono ?_
    rintro e w2 ⟨rfl, hB2⟩
    have hO0 := ((oE.keep hB1).keep hB2).mono (show w.heap.size ≤ w.heap.size + 1 + 1 + 1 by omega)
    have hB0 := (bW.trans (hB1.mono (by have := bW.size; exact this))).trans (hB2.mono (by have := (bW.trans (hB1.mono bW.size)).size; exact this))
    clear hC2 bH oE bW hB1 hB2 q0 q1
    go_wp2
    go_loopw [10, 14] (fun o i wr => ∃ (j : Nat) (ao : Option Addr) (co : Nat), ((j : Int) ≤ b - a ∨ j = 0) ∧ i = .int .i64 (a + (j : Int)) ∧ o = .slice ao (upL a k j).length co ∧ Own wr w.heap.size (.slice ao (upL a k j).length co) (upL a k j) ∧ Below w.heap.size w wr) (fun _ i _ => (b - intOf i).toNat)
    case atStart => exact ⟨0, _, _, .inr rfl, by simp, rfl, hO0, hB0⟩
    case round =>
      obtain ⟨j, ao, co, hj, rfl, rfl, hOw, hBr⟩ := hrel
      have hll := upL_len a k j
      by_cases hi : a + (j : Int) < b
      · have hws : IntKind.i64.wrap (a + (j : Int) - a) = (j : Int) := by rw [show (a + (j : Int) - a) = (j : Int) by omega]; exact w64 (by omega) (by omega)
        have htm := tmod_up j k
        have hw1 := w64 (a := a + (j : Int) + 1) (by omega) (by omega)
        obtain ⟨m, hm⟩ : ∃ m, j % k = m := ⟨_, rfl⟩
        rw [hm] at htm
        have hmb : m ≤ j := by rw [← hm]; exact Nat.mod_le _ _
        have hwm := w64 (a := (m : Int)) (by omega) (by omega)
        obtain ⟨z, hz⟩ : ∃ z : Int, a + (j : Int) = z := ⟨_, rfl⟩
        have hz0 : 0 ≤ z := by omega
        have hz1 : z < 4294967296 := by omega
        by_cases hd : m = 0
        · have HU : Hid (upL a k j ++ [z] = upL a k (j + 1)) := by
            show _ = _
            rw [upL_succ, hm, if_pos hd, hz]
          rw [hz] at hws hw1 hi ⊢
          have hmz : ((m : Int) == 0) = true := by rw [beq_iff_eq]; omega
          have hln : (upL a k j ++ [z]).length = (upL a k (j + 1)).length := by rw [HU.out]
          have HJ : Hid (z = a + (j : Int)) := hz.symm
          clear hm hd hz
          obtain ⟨X, hX⟩ : ∃ X, upL a k j = X := ⟨_, rfl⟩
          rw [hX] at hOw hll HU hln ⊢
          go_wp2_with (at_builtin; refine wpList_append_rd rfl _ _ 24 rfl Tryd.underlying24 w.heap.size _ _ X [z] rfl rfl (hOw.alloc _) (Rd.one wr wr.heap.size rfl 2 hz0 hz1) (by simp; omega) (by have := hBr.size; simp; omega) ?_; intro a1 c1 w1 hO1 hB1)
          have hB2 := (hBr.alloc hBr.size (Obj.cells #[.int .i64 z] 2)).trans hB1
          rw [hln, HU.out] at hO1
          go_roundw
          case rel => exact ⟨j + 1, a1, c1, .inl (by have := HJ.out; omega), by have := HJ.out; first | (congr 1; omega) | (simp; omega), by first | (rw [← hln]; simp) | simp [← hln], hO1, hB2⟩
          case measure => have := HJ.out; first | (simp [intOf]; omega) | (simp [intOf]; done)
        · have hU : upL a k (j + 1) = upL a k j := by rw [upL_succ, hm, if_neg hd, List.append_nil]
          have hmz : ((m : Int) == 0) = false := by rw [beq_eq_false_iff_ne]; omega
          rw [hz] at hws hw1 hi ⊢
          have HJ : Hid (z = a + (j : Int)) := hz.symm
          clear hm hd hz
          go_wp2
          go_roundw
          case rel => exact ⟨j + 1, ao, co, .inl (by have := HJ.out; omega), by have := HJ.out; first | (congr 1; omega) | (simp; omega), by rw [hU], by rw [hU]; exact hOw, hBr⟩
          case measure => have := HJ.out; first | (simp [intOf]; omega) | (simp [intOf]; done)
      · have hje : Hid (j = (b - a).toNat) := by show _ = _; omega
        go_wp2
        refine bodyPost_ret (v := .tuple #[.slice ao (upL a k j).length co, .int .i64 0]) (by simp [results, Tryd.results12, go_sem]) rfl ?_
        rw [← hje.out]
        exact ⟨ao, co, rfl, hOw, hBr⟩
set_option maxHeartbeats 2000000 in
set_option maxRecDepth 100000 in
theorem sliceS_down (n : Int) (lh : Bool) (la : Int) (hh : Bool) (ha : Int) (sh : Bool) (sa : Int) (w : World) (hn0 : 0 ≤ n) (hn1 : n ≤ 16384)
    (hl0 : -9223372036854775808 ≤ la) (hl1 : la ≤ 9223372036854775807) (hh0 : -9223372036854775808 ≤ ha) (hh1 : ha ≤ 9223372036854775807) (hs0 : -9223372036854775808 ≤ sa) (hs1 : sa ≤ 9223372036854775807)
    (k : Nat) (hk : (if sh = true then sa else 1) = -(k : Int)) (hk0 : 0 < k) :
    Calls Tryd.prog 12 #[.int .i64 n, bnd lh la, bnd hh ha, bnd sh sa] w fun e w' => ∃ ao co, e = .returned (.tuple #[.slice ao (downL (clampA n lh la (-1) (n - 1) (n - 1)) k (clampA n lh la (-1) (n - 1) (n - 1) - clampA n hh ha (-1) (n - 1) (-1)).toNat).length co, .int .i64 0]) ∧
      Own w' w.heap.size (.slice ao (downL (clampA n lh la (-1) (n - 1) (n - 1)) k (clampA n lh la (-1) (n - 1) (n - 1) - clampA n hh ha (-1) (n - 1) (-1)).toNat).length co) (downL (clampA n lh la (-1) (n - 1) (n - 1)) k (clampA n lh la (-1) (n - 1) (n - 1) - clampA n hh ha (-1) (n - 1) (-1)).toNat) ∧ Below w.heap.size w w' := by
  have hC1 := fun W => l3Clamp_any n lh la (-1) (n - 1) (n - 1) W hn0 hn1 hl0 hl1
  have hC2 := fun W => l3Clamp_any n hh ha (-1) (n - 1) (-1) W hn0 hn1 hh0 hh1
  have b1 := clampA_in (n := n) (at_ := la) (low := (-1)) (high := (n - 1)) (none := (n - 1)) (has := lh) (by omega) (by omega) (by omega)
  have b2 := clampA_in (n := n) (at_ := ha) (low := (-1)) (high := (n - 1)) (none := (-1)) (has := hh) (by omega) (by omega) (by omega)
  generalize clampA n lh la (-1) (n - 1) (n - 1) = a at hC1 b1 ⊢
  generalize clampA n hh ha (-1) (n - 1) (-1) = b at hC2 b2 ⊢
  obtain ⟨b11, b12⟩ := b1
  obtain ⟨b21, b22⟩ := b2
  have hn2 : ¬ n < 0 := by omega
  have hn3 : ¬ 16384 < n := by omega
  have hkb : k ≤ 9223372036854775808 := by cases sh <;> simp at hk <;> omega
  have hwn := w64 (a := n - 1) (by omega) (by omega)
  cases sh with
  | false => simp at hk; omega
  | true =>
    obtain rfl : sa = -(k : Int) := by simpa using hk
    have hkz : (-(k : Int) == 0) = false := by rw [beq_eq_false_iff_ne]; omega
    have hkp : ¬ (0 : Int) < -(k : Int) := by omega
    clear hk
    have bH := (((Box.new (w.alloc (Obj.cells #[.bool lh, .int .i64 la] 27)) (.bool hh) (.int .i64 ha) 27).alloc (Obj.cells #[.bool true, .int .i64 (-(k : Int))] 27)).alloc (Obj.cells #[] 2))
    have oE := Own.empty (((w.alloc (Obj.cells #[.bool lh, .int .i64 la] 27)).alloc (Obj.cells #[.bool hh, .int .i64 ha] 27)).alloc (Obj.cells #[.bool true, .int .i64 (-(k : Int))] 27))
    have bW : Below w.heap.size w ((((w.alloc (Obj.cells #[.bool lh, .int .i64 la] 27)).alloc (Obj.cells #[.bool hh, .int .i64 ha] 27)).alloc (Obj.cells #[.bool true, .int .i64 (-(k : Int))] 27)).alloc (Obj.cells #[] 2)) := ((((Below.refl _ w).alloc (Nat.le_refl _) _).alloc (by simp) _).alloc (by simp; omega) _).alloc (by simp; omega) _
    simp only [World.size_alloc] at bH oE
    go_enter Tryd.func12, Tryd.ntmps12
    go_wp2_with fail
    refine (hC1 _).mono ?_
    rintro e w1 ⟨rfl, hB1⟩
    obtain ⟨_, q0, q1⟩ := bH.keep hB1
    clear hC1
    go_wp2_with fail
    refine (hC2 _).mono ?_
    rintro e w2 ⟨rfl, hB2⟩
    have hO0 := ((oE.keep hB1).keep hB2).mono (show w.heap.size ≤ w.heap.size + 1 + 1 + 1 by omega)
    have hB0 := (bW.trans (hB1.mono (by have := bW.size; exact this))).trans (hB2.mono (by have := (bW.trans (hB1.mono bW.size)).size; exact this))
    clear hC2 bH oE bW hB1 hB2 q0 q1
    go_wp2
    go_loopw [10, 17] (fun o i wr => ∃ (j : Nat) (ao : Option Addr) (co : Nat), ((j : Int) ≤ a - b ∨ j = 0) ∧ i = .int .i64 (a - (j : Int)) ∧ o = .slice ao (downL a k j).length co ∧ Own wr w.heap.size (.slice ao (downL a k j).length co) (downL a k j) ∧ Below w.heap.size w wr) (fun _ i _ => (intOf i - b).toNat)
    case atStart => exact ⟨0, _, _, .inr rfl, by simp, rfl, hO0, hB0⟩
    case round =>
      obtain ⟨j, ao, co, hj, rfl, rfl, hOw, hBr⟩ := hrel
      have hll := downL_len a k j
      by_cases hi : b < a - (j : Int)
      · have hws : IntKind.i64.wrap (a - (a - (j : Int))) = (j : Int) := by rw [show (a - (a - (j : Int))) = (j : Int) by omega]; exact w64 (by omega) (by omega)
        have htm := tmod_down j k
        have hw1 := w64 (a := a - (j : Int) - 1) (by omega) (by omega)
        obtain ⟨m, hm⟩ : ∃ m, j % k = m := ⟨_, rfl⟩
        rw [hm] at htm
        have hmb : m ≤ j := by rw [← hm]; exact Nat.mod_le _ _
        have hwm := w64 (a := (m : Int)) (by omega) (by omega)
        obtain ⟨z, hz⟩ : ∃ z : Int, a - (j : Int) = z := ⟨_, rfl⟩
        have hz0 : 0 ≤ z := by omega
        have hz1 : z < 4294967296 := by omega
        by_cases hd : m = 0
        · have HU : Hid (downL a k j ++ [z] = downL a k (j + 1)) := by
            show _ = _
            rw [downL_succ, hm, if_pos hd, hz]
          rw [hz] at hws hw1 hi ⊢
          have hmz : ((m : Int) == 0) = true := by rw [beq_iff_eq]; omega
          have hln : (downL a k j ++ [z]).length = (downL a k (j + 1)).length := by rw [HU.out]
          have HJ : Hid (z = a - (j : Int)) := hz.symm
          clear hm hd hz
          obtain ⟨X, hX⟩ : ∃ X, downL a k j = X := ⟨_, rfl⟩
          rw [hX] at hOw hll HU hln ⊢
          go_wp2_with (at_builtin; refine wpList_append_rd rfl _ _ 24 rfl Tryd.underlying24 w.heap.size _ _ X [z] rfl rfl (hOw.alloc _) (Rd.one wr wr.heap.size rfl 2 hz0 hz1) (by simp; omega) (by have := hBr.size; simp; omega) ?_; intro a1 c1 w1 hO1 hB1)
          have hB2 := (hBr.alloc hBr.size (Obj.cells #[.int .i64 z] 2)).trans hB1
          rw [hln, HU.out] at hO1
          go_roundw
          case rel => exact ⟨j + 1, a1, c1, .inl (by have := HJ.out; omega), by have := HJ.out; first | (congr 1; omega) | (simp; omega), by first | (rw [← hln]; simp) | simp [← hln], hO1, hB2⟩
          case measure => have := HJ.out; first | (simp [intOf]; omega) | (simp [intOf]; done)
        · have hU : downL a k (j + 1) = downL a k j := by rw [downL_succ, hm, if_neg hd, List.append_nil]
          have hmz : ((m : Int) == 0) = false := by rw [beq_eq_false_iff_ne]; omega
          rw [hz] at hws hw1 hi ⊢
          have HJ : Hid (z = a - (j : Int)) := hz.symm
          clear hm hd hz
          go_wp2
          go_roundw
          case rel => exact ⟨j + 1, ao, co, .inl (by have := HJ.out; omega), by have := HJ.out; first | (congr 1; omega) | (simp; omega), by rw [hU], by rw [hU]; exact hOw, hBr⟩
          case measure => have := HJ.out; first | (simp [intOf]; omega) | (simp [intOf]; done)
      · have hje : Hid (j = (a - b).toNat) := by show _ = _; omega
        go_wp2
        refine bodyPost_ret (v := .tuple #[.slice ao (downL a k j).length co, .int .i64 0]) (by simp [results, Tryd.results12, go_sem]) rfl ?_
        rw [← hje.out]
        exact ⟨ao, co, rfl, hOw, hBr⟩
end Go.Proofs.YtdamddfhflhfbaaDoor
