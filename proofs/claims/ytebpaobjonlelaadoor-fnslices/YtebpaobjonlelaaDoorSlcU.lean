import Derived.Test.YtebpaobjonlelaaDoorSlcI
import Derived.Test.YtebpaobjonlelaaDoorSlcT
namespace Go.Proofs.YtebpaobjonlelaaDoor
open Go.RowKit
set_option linter.unusedVariables false
set_option linter.unusedSimpArgs false

theorem upL_next (a : Int) (k t : Nat) (hk : 0 < k) (ht : t % k = 0) : upL a k t ++ [a + (t : Int)] = upL a k (t + k) := by
  unfold upL
  rw [stepsL_next k t hk ht, List.map_append]; rfl
theorem downL_next (a : Int) (k t : Nat) (hk : 0 < k) (ht : t % k = 0) : downL a k t ++ [a - (t : Int)] = downL a k (t + k) := by
  unfold downL
  rw [stepsL_next k t hk ht, List.map_append]; rfl
theorem upL_end (a : Int) (k t d : Nat) (hk : 0 < k) (ht : t % k = 0) (h1 : d ≤ t) (h2 : t < d + k) : upL a k t = upL a k d := by
  unfold upL; rw [stepsL_end k t d hk ht h1 h2]
theorem downL_end (a : Int) (k t d : Nat) (hk : 0 < k) (ht : t % k = 0) (h1 : d ≤ t) (h2 : t < d + k) : downL a k t = downL a k d := by
  unfold downL; rw [stepsL_end k t d hk ht h1 h2]
theorem upL_ge (a : Int) (k t d : Nat) (hk : 0 < k) (ht : t % k = 0) (h : t < d + k) : (upL a k t).length ≤ d := by
  by_cases h1 : d ≤ t
  · rw [upL_end a k t d hk ht h1 h]; exact upL_len a k d
  · exact Nat.le_trans (upL_len a k t) (by omega)
theorem downL_ge (a : Int) (k t d : Nat) (hk : 0 < k) (ht : t % k = 0) (h : t < d + k) : (downL a k t).length ≤ d := by
  by_cases h1 : d ≤ t
  · rw [downL_end a k t d hk ht h1 h]; exact downL_len a k d
  · exact Nat.le_trans (downL_len a k t) (by omega)
set_option maxHeartbeats 2000000 in
set_option maxRecDepth 100000 in
theorem placesI_up (n : Int) (lh : Bool) (la : Int) (hh : Bool) (ha : Int) (sh : Bool) (sa : Int) (w : World) (hn0 : 0 ≤ n) (hn1 : n ≤ 16384)
    (hl0 : -9223372036854775808 ≤ la) (hl1 : la ≤ 9223372036854775807) (hh0 : -9223372036854775808 ≤ ha) (hh1 : ha ≤ 9223372036854775807)
    (k : Nat) (hk : (if sh = true then min (max sa (-16384)) 16384 else 1) = (k : Int)) (hk0 : 0 < k) :
    Calls Tryd.prog 16 #[.int .i64 n, bnd lh la, bnd hh ha, bnd sh sa] w fun e w' => ∃ ao co, e = .returned (.tuple #[.slice ao (upL (clampA n lh la 0 n 0) k (clampA n hh ha 0 n n - clampA n lh la 0 n 0).toNat).length co, .nilIface]) ∧
      Own w' w.heap.size (.slice ao (upL (clampA n lh la 0 n 0) k (clampA n hh ha 0 n n - clampA n lh la 0 n 0).toNat).length co) (upL (clampA n lh la 0 n 0) k (clampA n hh ha 0 n n - clampA n lh la 0 n 0).toNat) ∧ Below w.heap.size w w' := by
  have hC1 := fun W => clipped_any n lh la 0 n 0 W hn0 hn1 hl0 hl1 (by omega)
  have hC2 := fun W => clipped_any n hh ha 0 n n W hn0 hn1 hh0 hh1 (by omega)
  have b1 := clampA_in (n := n) (at_ := la) (low := 0) (high := n) (none := 0) (has := lh) (by omega) (by omega) (by omega)
  have b2 := clampA_in (n := n) (at_ := ha) (low := 0) (high := n) (none := n) (has := hh) (by omega) (by omega) (by omega)
  generalize clampA n lh la 0 n 0 = a at hC1 b1 ⊢
  generalize clampA n hh ha 0 n n = b at hC2 b2 ⊢
  obtain ⟨b11, b12⟩ := b1
  obtain ⟨b21, b22⟩ := b2
  have hn2 : ¬ n < 0 := by omega
  have hn3 : ¬ 16384 < n := by omega
  have hkb : k ≤ 16384 := by cases sh <;> simp at hk <;> omega
  cases sh with
  | false =>
    have hk' : k = 1 := by simp at hk; omega
    subst hk'
    clear hk
    have bL := (((Box.new w (.bool lh) (.int .i64 la) 28).alloc (Obj.cells #[.bool hh, .int .i64 ha] 28)).alloc (Obj.cells #[.bool false, .int .i64 sa] 28))
    have bW : Below w.heap.size w (((w.alloc (Obj.cells #[.bool lh, .int .i64 la] 28)).alloc (Obj.cells #[.bool hh, .int .i64 ha] 28)).alloc (Obj.cells #[.bool false, .int .i64 sa] 28)) := (((Below.refl _ w).alloc (Nat.le_refl _) _).alloc (by simp) _).alloc (by simp; omega) _
    go_enter Tryd.func16, Tryd.ntmps16
    go_wp2_with fail
    refine (hC2 _).mono ?_
    rintro e w1 ⟨rfl, hB1⟩
    obtain ⟨_, q0, q1⟩ := bL.keep hB1
    clear hC2
    go_wp2_with fail
    refine (hC1 _).mono ?_
    rintro e w2 ⟨rfl, hB2⟩
    have hB0 := (bW.trans (hB1.mono (by have := bW.size; exact this))).trans (hB2.mono (by have := (bW.trans (hB1.mono bW.size)).size; exact this))
    clear hC1 bL bW hB1 hB2 q0 q1
    go_wp2
    obtain ⟨d, hd⟩ : ∃ d, (b - a).toNat = d := ⟨_, rfl⟩
    have HD : Hid ((b - a).toNat = d) := hd
    have hdb : d ≤ 16385 := by omega
    go_loopw [11, 13] (fun o i wr => ∃ (t : Nat) (ao : Option Addr) (co : Nat), t % 1 = 0 ∧ t < d + 1 ∧ i = .int .i64 (a + (t : Int)) ∧ o = .slice ao (upL a 1 t).length co ∧ Own wr w.heap.size (.slice ao (upL a 1 t).length co) (upL a 1 t) ∧ Below w.heap.size w wr) (fun _ i _ => (b - intOf i).toNat)
    case atStart => exact ⟨0, _, _, Nat.zero_mod 1, by omega, by simp, rfl, Own.nil _ _, hB0⟩
    case round =>
      obtain ⟨t, ao, co, htk, htd, rfl, rfl, hOw, hBr⟩ := hrel
      have hll := upL_ge a 1 t d hk0 htk htd
      have HT : Hid (t % 1 = 0) := htk
      clear htk
      by_cases hi : a + (t : Int) < b
      · obtain ⟨z, hz⟩ : ∃ z : Int, a + (t : Int) = z := ⟨_, rfl⟩
        have hz0 : 0 ≤ z := by omega
        have hz1 : z < 4294967296 := by omega
        have hw1 := w64 (a := z + (1 : Int)) (by omega) (by omega)
        have HU : Hid (upL a 1 t ++ [z] = upL a 1 (t + 1)) := by
          show _ = _
          rw [← hz]; exact upL_next a 1 t hk0 HT.out
        have HT2 : Hid ((t + 1) % 1 = 0) := by show _ = _; rw [Nat.add_mod_right]; exact HT.out
        rw [hz] at hi ⊢
        have hln : (upL a 1 t ++ [z]).length = (upL a 1 (t + 1)).length := by rw [HU.out]
        have HJ : Hid (z = a + (t : Int)) := hz.symm
        clear hz hd
        obtain ⟨X, hX⟩ : ∃ X, upL a 1 t = X := ⟨_, rfl⟩
        rw [hX] at hOw hll HU hln ⊢
        go_wp2_with (at_builtin; refine wpList_append_rd rfl _ _ 33 rfl Tryd.underlying33 w.heap.size _ _ X [z] rfl rfl (hOw.alloc _) (Rd.one wr wr.heap.size rfl 2 hz0 hz1) (by simp; omega) (by have := hBr.size; simp; omega) ?_; intro a1 c1 w1 hO1 hB1)
        have hB2 := (hBr.alloc hBr.size (Obj.cells #[.int .i64 z] 2)).trans hB1
        rw [hln, HU.out] at hO1
        go_roundw
        case rel => exact ⟨t + 1, a1, c1, HT2.out, by have := HJ.out; have := HD.out; omega, by have := HJ.out; first | (congr 1; omega) | (simp; omega), by first | (rw [← hln]; simp) | simp [← hln], hO1, hB2⟩
        case measure => have := HJ.out; first | (simp [intOf]; omega) | (simp [intOf]; done)
      · have hje : Hid (upL a 1 t = upL a 1 (b - a).toNat) := by show _ = _; exact upL_end a 1 t _ hk0 HT.out (by omega) (by omega)
        clear hd
        go_wp2
        refine bodyPost_ret (v := .tuple #[.slice ao (upL a 1 t).length co, .nilIface]) (by simp [results, Tryd.results16, go_sem]) rfl ?_
        rw [← hje.out]
        exact ⟨ao, co, rfl, hOw, hBr⟩
  | true =>
    have hkm : min (max sa (-16384)) 16384 = (k : Int) := by simpa using hk
    have hkz : ((k : Int) == 0) = false := by rw [beq_eq_false_iff_ne]; omega
    have hkp : (0 : Int) < (k : Int) := by omega
    clear hk
    have bL := (((Box.new w (.bool lh) (.int .i64 la) 28).alloc (Obj.cells #[.bool hh, .int .i64 ha] 28)).alloc (Obj.cells #[.bool true, .int .i64 sa] 28))
    have bW : Below w.heap.size w (((w.alloc (Obj.cells #[.bool lh, .int .i64 la] 28)).alloc (Obj.cells #[.bool hh, .int .i64 ha] 28)).alloc (Obj.cells #[.bool true, .int .i64 sa] 28)) := (((Below.refl _ w).alloc (Nat.le_refl _) _).alloc (by simp) _).alloc (by simp; omega) _
    go_enter Tryd.func16, Tryd.ntmps16
    go_wp2_with fail
    refine (hC2 _).mono ?_
    rintro e w1 ⟨rfl, hB1⟩
    obtain ⟨_, q0, q1⟩ := bL.keep hB1
    clear hC2
    go_wp2_with fail
    refine (hC1 _).mono ?_
    rintro e w2 ⟨rfl, hB2⟩
    have hB0 := (bW.trans (hB1.mono (by have := bW.size; exact this))).trans (hB2.mono (by have := (bW.trans (hB1.mono bW.size)).size; exact this))
    clear hC1 bL bW hB1 hB2 q0 q1
    go_wp2
    obtain ⟨d, hd⟩ : ∃ d, (b - a).toNat = d := ⟨_, rfl⟩
    have HD : Hid ((b - a).toNat = d) := hd
    have hdb : d ≤ 16385 := by omega
    go_loopw [11, 13] (fun o i wr => ∃ (t : Nat) (ao : Option Addr) (co : Nat), t % k = 0 ∧ t < d + k ∧ i = .int .i64 (a + (t : Int)) ∧ o = .slice ao (upL a k t).length co ∧ Own wr w.heap.size (.slice ao (upL a k t).length co) (upL a k t) ∧ Below w.heap.size w wr) (fun _ i _ => (b - intOf i).toNat)
    case atStart => exact ⟨0, _, _, Nat.zero_mod k, by omega, by simp, rfl, Own.nil _ _, hB0⟩
    case round =>
      obtain ⟨t, ao, co, htk, htd, rfl, rfl, hOw, hBr⟩ := hrel
      have hll := upL_ge a k t d hk0 htk htd
      have HT : Hid (t % k = 0) := htk
      clear htk
      by_cases hi : a + (t : Int) < b
      · obtain ⟨z, hz⟩ : ∃ z : Int, a + (t : Int) = z := ⟨_, rfl⟩
        have hz0 : 0 ≤ z := by omega
        have hz1 : z < 4294967296 := by omega
        have hw1 := w64 (a := z + (k : Int)) (by omega) (by omega)
        have HU : Hid (upL a k t ++ [z] = upL a k (t + k)) := by
          show _ = _
          rw [← hz]; exact upL_next a k t hk0 HT.out
        have HT2 : Hid ((t + k) % k = 0) := by show _ = _; rw [Nat.add_mod_right]; exact HT.out
        rw [hz] at hi ⊢
        have hln : (upL a k t ++ [z]).length = (upL a k (t + k)).length := by rw [HU.out]
        have HJ : Hid (z = a + (t : Int)) := hz.symm
        clear hz hd
        obtain ⟨X, hX⟩ : ∃ X, upL a k t = X := ⟨_, rfl⟩
        rw [hX] at hOw hll HU hln ⊢
        go_wp2_with (at_builtin; refine wpList_append_rd rfl _ _ 33 rfl Tryd.underlying33 w.heap.size _ _ X [z] rfl rfl (hOw.alloc _) (Rd.one wr wr.heap.size rfl 2 hz0 hz1) (by simp; omega) (by have := hBr.size; simp; omega) ?_; intro a1 c1 w1 hO1 hB1)
        have hB2 := (hBr.alloc hBr.size (Obj.cells #[.int .i64 z] 2)).trans hB1
        rw [hln, HU.out] at hO1
        go_roundw
        case rel => exact ⟨t + k, a1, c1, HT2.out, by have := HJ.out; have := HD.out; omega, by have := HJ.out; first | (congr 1; omega) | (simp; omega), by first | (rw [← hln]; simp) | simp [← hln], hO1, hB2⟩
        case measure => have := HJ.out; first | (simp [intOf]; omega) | (simp [intOf]; done)
      · have hje : Hid (upL a k t = upL a k (b - a).toNat) := by show _ = _; exact upL_end a k t _ hk0 HT.out (by omega) (by omega)
        clear hd
        go_wp2
        refine bodyPost_ret (v := .tuple #[.slice ao (upL a k t).length co, .nilIface]) (by simp [results, Tryd.results16, go_sem]) rfl ?_
        rw [← hje.out]
        exact ⟨ao, co, rfl, hOw, hBr⟩
set_option maxHeartbeats 2000000 in
set_option maxRecDepth 100000 in
theorem placesI_down (n : Int) (lh : Bool) (la : Int) (hh : Bool) (ha : Int) (sh : Bool) (sa : Int) (w : World) (hn0 : 0 ≤ n) (hn1 : n ≤ 16384)
    (hl0 : -9223372036854775808 ≤ la) (hl1 : la ≤ 9223372036854775807) (hh0 : -9223372036854775808 ≤ ha) (hh1 : ha ≤ 9223372036854775807)
    (k : Nat) (hk : (if sh = true then min (max sa (-16384)) 16384 else 1) = -(k : Int)) (hk0 : 0 < k) :
    Calls Tryd.prog 16 #[.int .i64 n, bnd lh la, bnd hh ha, bnd sh sa] w fun e w' => ∃ ao co, e = .returned (.tuple #[.slice ao (downL (clampA n lh la (-1) (n - 1) (n - 1)) k (clampA n lh la (-1) (n - 1) (n - 1) - clampA n hh ha (-1) (n - 1) (-1)).toNat).length co, .nilIface]) ∧
      Own w' w.heap.size (.slice ao (downL (clampA n lh la (-1) (n - 1) (n - 1)) k (clampA n lh la (-1) (n - 1) (n - 1) - clampA n hh ha (-1) (n - 1) (-1)).toNat).length co) (downL (clampA n lh la (-1) (n - 1) (n - 1)) k (clampA n lh la (-1) (n - 1) (n - 1) - clampA n hh ha (-1) (n - 1) (-1)).toNat) ∧ Below w.heap.size w w' := by
  have hC1 := fun W => clipped_any n lh la (-1) (n - 1) (n - 1) W hn0 hn1 hl0 hl1 (by omega)
  have hC2 := fun W => clipped_any n hh ha (-1) (n - 1) (-1) W hn0 hn1 hh0 hh1 (by omega)
  have b1 := clampA_in (n := n) (at_ := la) (low := (-1)) (high := (n - 1)) (none := (n - 1)) (has := lh) (by omega) (by omega) (by omega)
  have b2 := clampA_in (n := n) (at_ := ha) (low := (-1)) (high := (n - 1)) (none := (-1)) (has := hh) (by omega) (by omega) (by omega)
  generalize clampA n lh la (-1) (n - 1) (n - 1) = a at hC1 b1 ⊢
  generalize clampA n hh ha (-1) (n - 1) (-1) = b at hC2 b2 ⊢
  obtain ⟨b11, b12⟩ := b1
  obtain ⟨b21, b22⟩ := b2
  have hn2 : ¬ n < 0 := by omega
  have hn3 : ¬ 16384 < n := by omega
  have hkb : k ≤ 16384 := by cases sh <;> simp at hk <;> omega
  have hwn := w64 (a := n - 1) (by omega) (by omega)
  cases sh with
  | false => simp at hk; omega
  | true =>
    have hkm : min (max sa (-16384)) 16384 = -(k : Int) := by simpa using hk
    have hkz : (-(k : Int) == 0) = false := by rw [beq_eq_false_iff_ne]; omega
    have hkp : ¬ (0 : Int) < -(k : Int) := by omega
    clear hk
    have bL := (((Box.new w (.bool lh) (.int .i64 la) 28).alloc (Obj.cells #[.bool hh, .int .i64 ha] 28)).alloc (Obj.cells #[.bool true, .int .i64 sa] 28))
    have bW : Below w.heap.size w (((w.alloc (Obj.cells #[.bool lh, .int .i64 la] 28)).alloc (Obj.cells #[.bool hh, .int .i64 ha] 28)).alloc (Obj.cells #[.bool true, .int .i64 sa] 28)) := (((Below.refl _ w).alloc (Nat.le_refl _) _).alloc (by simp) _).alloc (by simp; omega) _
    go_enter Tryd.func16, Tryd.ntmps16
    go_wp2_with fail
    refine (hC2 _).mono ?_
    rintro e w1 ⟨rfl, hB1⟩
    obtain ⟨_, q0, q1⟩ := bL.keep hB1
    clear hC2
    go_wp2_with fail
    refine (hC1 _).mono ?_
    rintro e w2 ⟨rfl, hB2⟩
    have hB0 := (bW.trans (hB1.mono (by have := bW.size; exact this))).trans (hB2.mono (by have := (bW.trans (hB1.mono bW.size)).size; exact this))
    clear hC1 bL bW hB1 hB2 q0 q1
    go_wp2
    obtain ⟨d, hd⟩ : ∃ d, (a - b).toNat = d := ⟨_, rfl⟩
    have HD : Hid ((a - b).toNat = d) := hd
    have hdb : d ≤ 16385 := by omega
    go_loopw [11, 15] (fun o i wr => ∃ (t : Nat) (ao : Option Addr) (co : Nat), t % k = 0 ∧ t < d + k ∧ i = .int .i64 (a - (t : Int)) ∧ o = .slice ao (downL a k t).length co ∧ Own wr w.heap.size (.slice ao (downL a k t).length co) (downL a k t) ∧ Below w.heap.size w wr) (fun _ i _ => (intOf i - b).toNat)
    case atStart => exact ⟨0, _, _, Nat.zero_mod k, by omega, by simp, rfl, Own.nil _ _, hB0⟩
    case round =>
      obtain ⟨t, ao, co, htk, htd, rfl, rfl, hOw, hBr⟩ := hrel
      have hll := downL_ge a k t d hk0 htk htd
      have HT : Hid (t % k = 0) := htk
      clear htk
      by_cases hi : b < a - (t : Int)
      · obtain ⟨z, hz⟩ : ∃ z : Int, a - (t : Int) = z := ⟨_, rfl⟩
        have hz0 : 0 ≤ z := by omega
        have hz1 : z < 4294967296 := by omega
        have hw1 := w64 (a := z + -(k : Int)) (by omega) (by omega)
        have HU : Hid (downL a k t ++ [z] = downL a k (t + k)) := by
          show _ = _
          rw [← hz]; exact downL_next a k t hk0 HT.out
        have HT2 : Hid ((t + k) % k = 0) := by show _ = _; rw [Nat.add_mod_right]; exact HT.out
        rw [hz] at hi ⊢
        have hln : (downL a k t ++ [z]).length = (downL a k (t + k)).length := by rw [HU.out]
        have HJ : Hid (z = a - (t : Int)) := hz.symm
        clear hz hd
        obtain ⟨X, hX⟩ : ∃ X, downL a k t = X := ⟨_, rfl⟩
        rw [hX] at hOw hll HU hln ⊢
        go_wp2_with (at_builtin; refine wpList_append_rd rfl _ _ 33 rfl Tryd.underlying33 w.heap.size _ _ X [z] rfl rfl (hOw.alloc _) (Rd.one wr wr.heap.size rfl 2 hz0 hz1) (by simp; omega) (by have := hBr.size; simp; omega) ?_; intro a1 c1 w1 hO1 hB1)
        have hB2 := (hBr.alloc hBr.size (Obj.cells #[.int .i64 z] 2)).trans hB1
        rw [hln, HU.out] at hO1
        go_roundw
        case rel => exact ⟨t + k, a1, c1, HT2.out, by have := HJ.out; have := HD.out; omega, by have := HJ.out; first | (congr 1; omega) | (simp; omega), by first | (rw [← hln]; simp) | simp [← hln], hO1, hB2⟩
        case measure => have := HJ.out; first | (simp [intOf]; omega) | (simp [intOf]; done)
      · have hje : Hid (downL a k t = downL a k (a - b).toNat) := by show _ = _; exact downL_end a k t _ hk0 HT.out (by omega) (by omega)
        clear hd
        go_wp2
        refine bodyPost_ret (v := .tuple #[.slice ao (downL a k t).length co, .nilIface]) (by simp [results, Tryd.results16, go_sem]) rfl ?_
        rw [← hje.out]
        exact ⟨ao, co, rfl, hOw, hBr⟩
end Go.Proofs.YtebpaobjonlelaaDoor
