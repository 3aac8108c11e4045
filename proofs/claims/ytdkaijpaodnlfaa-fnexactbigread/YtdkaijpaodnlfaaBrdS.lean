import Derived.Test.YtdkaijpaodnlfaaBrdM
import Derived.Deep.RegionHeld3
namespace Go.Proofs.Ytdkaijpaodnlfaa
open Go.RowKit
set_option linter.unusedVariables false
set_option linter.unusedSimpArgs false

theorem get_atR (s : ByteArray) (k : Nat) (h : k < s.size) : s[k] = s.data.toList[k]'(by simpa using h) := by
  show s.data[k] = _
  simp
/-- The result's box, as it was made. -/
structure Rbx (w : World) (L : Nat) : Prop where
  lt : L < w.heap.size
  c0 : w.cell? ⟨L, 0, none⟩ = some (.bool false)
  c1 : w.cell? ⟨L, 1, none⟩ = some (.slice none 0 0)
  f0 : w.frozen? ⟨L, 0, none⟩ = false
  f1 : w.frozen? ⟨L, 1, none⟩ = false
theorem Rbx.new (w : World) : Rbx (w.alloc (Obj.cells #[.bool false, .slice none 0 0] 24)) w.heap.size :=
  ⟨by simp, by rw [World.cell?_alloc_at _ _ w.heap.size 0 rfl]; rfl, by rw [World.cell?_alloc_at _ _ w.heap.size 1 rfl]; rfl, World.frozen?_alloc_at _ _ _ _ (by simp), World.frozen?_alloc_at _ _ _ _ (by simp)⟩
theorem Rbx.at {w w' : World} {L B : Nat} (h : Rbx w L) (hb : Below B w w') (hL : L < B) : Rbx w' L :=
  ⟨Nat.lt_of_lt_of_le h.lt hb.size, (hb.cell (p := ⟨L, 0, none⟩) hL).trans h.c0, (hb.cell (p := ⟨L, 1, none⟩) hL).trans h.c1, (hb.frozen (p := ⟨L, 0, none⟩) hL).trans h.f0, (hb.frozen (p := ⟨L, 1, none⟩) hL).trans h.f1⟩
theorem bsz {w W : World} {o : Obj} (h : Below (w.heap.size + 1) (w.alloc o) W) : w.heap.size + 1 ≤ W.heap.size := by have := h.size; simpa using this
theorem lim_mul {N b : Nat} (h : (lim N).length ≤ 128) (hb : b ≤ 36) : (lim (N * b)).length ≤ 129 := by
  have h1 : N < 4294967296 ^ 128 := Nat.lt_of_not_le (fun h2 => by have := lim_length_gt h2; omega)
  refine lim_length_le ?_
  rw [Nat.pow_succ]
  exact Nat.lt_of_le_of_lt (Nat.mul_le_mul_left N (show b ≤ 4294967296 by omega)) (Nat.mul_lt_mul_of_pos_right h1 (by decide))
theorem rd_none (W : World) (B : Nat) (w : World) (h : Below B w W) : ∃ a c, Ending.returned (.tuple #[.agg #[.bool false, .slice none 0 0], .bool false]) = .returned (.tuple #[.agg #[.bool (rdS none), .slice a (rdL none).length c], .bool (none : Option (Bool × Nat)).isSome]) ∧ Own W B (.slice a (rdL none).length c) (rdL none) ∧ Below B w W := ⟨none, 0, rfl, Own.nil _ _, h⟩

set_option maxHeartbeats 2000000 in
set_option maxRecDepth 100000 in
theorem bigReadS_0 (s : ByteArray) (b : Nat) (w : World) (hs : s.size ≤ 5000) (hb0 : 2 ≤ b) (hb1 : b ≤ 36) (h0 : 0 < s.size) (hx : ¬ s.data.toList.head? = some 45) :
    Calls Try.prog 4 #[.string s, .int .i64 (b : Int)] w fun e w' => ∃ a c, e = .returned (.tuple #[.agg #[.bool (rdS (readAns s b)), .slice a (rdL (readAns s b)).length c], .bool (readAns s b).isSome]) ∧
      Own w' w.heap.size (.slice a (rdL (readAns s b)).length c) (rdL (readAns s b)) ∧ Below w.heap.size w w' := by
  have g1 : ¬ (b : Int) < 2 := by omega
  have g2 : ¬ (36 : Int) < (b : Int) := by omega
  have g3 : ¬ (5000 : Int) < (s.size : Int) := by omega
  have g4 : (0 : Int) < (s.size : Int) := by omega
  have g6 : (0 : Int) < (s.size : Int) := by omega
  have gh : s.data.toList.head? = some (s[0]'(by omega)) := by
    rw [get_atR s 0 (by omega), List.head?_eq_getElem?, List.getElem?_eq_getElem]
  have hA : readAns s b = (rdD b (s.data.toList.drop 0)).map (false, ·) := by
    unfold readAns
    rw [if_neg (by omega), if_neg hx]; rw [List.drop_zero]; rfl
  rw [gh] at hx
  obtain ⟨x0, hx0⟩ : ∃ x0, s[0]'(by omega) = x0 := ⟨_, rfl⟩
  rw [hx0] at hx
  have g5 : ((x0.toNat : Int) == 45) = false := by simp; intro h; exact hx (by congr 1; apply UInt8.toNat_inj.1; show x0.toNat = 45; omega)
  rw [hA]
  clear hA gh hx
  generalize hD : s.data.toList.drop 0 = D
  have hDl : D.length = s.size - 0 := by rw [← hD]; simp
  have hDk : ∀ k (h : k < s.size) (h1 : 0 ≤ k) (h2 : k - 0 < D.length), D[k - 0] = s[k]'h := by
    intro k h h1 h2
    subst hD
    rw [get_atR s k h]
    simp only [List.getElem_drop]
    congr 1
    omega
  clear hD
  generalize hR : rdD b D = R
  have hdg := fun x W => l1Digit_any x W
  have hMul := fun v u xs ys W => mulMag_any v u xs ys W
  have hAdd := fun v u xs ys W => addMag_any v u xs ys W
  have hTr := fun v zs W => trimS_any v zs W
  have b0 := Rbx.new w
  go_enter Try.func4, Try.ntmps4
  go_wp2
  go_loopw [7, 8] (fun i mv wr => ∃ (k : Nat) (a : Option Addr) (c : Nat), 0 ≤ k ∧ k ≤ s.size ∧ i = .int .i64 k ∧ mv = .slice a (lim (dval b (D.take (k - 0)))).length c ∧ (lim (dval b (D.take (k - 0)))).length ≤ 128 ∧ goodD b (D.take (k - 0)) = true ∧ Own wr (w.heap.size + 1) mv (lim (dval b (D.take (k - 0)))) ∧ Below (w.heap.size + 1) (w.alloc (Obj.cells #[.bool false, .slice none 0 0] 24)) wr) (fun i _ _ => s.size - (intOf i).toNat)
  case atStart =>
    have e0 : dval b (D.take (0 - 0)) = 0 := by simp [dval]
    have oe := (Own.empty (w.alloc (Obj.cells #[.bool false, .slice none 0 0] 24)))
    simp only [World.size_alloc] at oe
    exact ⟨0, _, _, Nat.le_refl _, by omega, rfl, by rw [e0, lim_zero]; rfl, by rw [e0, lim_zero]; simp, by simp [goodD], by rw [e0, lim_zero]; exact oe, (Below.refl _ _).alloc (by simp) _⟩
  case round =>
    obtain ⟨k, a, c, hk0, hk, rfl, rfl, hl, hg, hO, hB⟩ := hrel
    by_cases hlt : k < s.size
    · obtain ⟨x, hxk⟩ : ∃ x, s[k]'hlt = x := ⟨_, rfl⟩
      have hltz : (k : Int) < (s.size : Int) := by omega
      go_wp2_with fail
      refine (hdg x _).mono ?_
      rintro e w1 ⟨rfl, rfl⟩
      have hkD : k - 0 < D.length := by omega
      have hDx := (hDk k hlt hk0 hkD).trans hxk
      by_cases hd : b ≤ digN x
      · have hdz : (b : Int) ≤ (digN x : Int) := by omega
        obtain rfl : R = none := hR.symm.trans (rdD_bad (goodD_bad hkD (by rw [hDx]; exact hd)))
        have hBw := ((Below.refl w.heap.size w).alloc (Nat.le_refl _) (Obj.cells #[.bool false, .slice none 0 0] 24)).trans (hB.mono (Nat.le_succ _))
        obtain ⟨lb, k0, k1, f0, f1⟩ := b0.at hB (Nat.lt_succ_self _)
        go_wp2
        refine bodyPost_ret (v := .tuple #[.agg #[.bool false, .slice none 0 0], .bool false]) (by simp [results, Try.results4, go_sem, k0, k1, lb, f0, f1]) rfl (rd_none _ _ _ ((hBw.setCell (Nat.le_refl _) _).setCell (Nat.le_refl _) _))
      · have hdz : ¬ (b : Int) ≤ (digN x : Int) := by omega
        have HT : Hid (D.take (k + 1 - 0) = D.take (k - 0) ++ [x]) := by
          show _ = _
          rw [show k + 1 - 0 = (k - 0) + 1 by omega, List.take_succ_eq_append_getElem hkD, hDx]
        have HG : Hid (goodD b (D.take (k + 1 - 0)) = true) := by
          show _ = _
          rw [HT.out, goodD_snoc, hg, decide_eq_true (show digN x < b by omega)]; rfl
        have HV : Hid (dval b (D.take (k + 1 - 0)) = dval b (D.take (k - 0)) * b + digN x) := by
          show _ = _
          rw [HT.out, dval_snoc]
        generalize hN : dval b (D.take (k - 0)) = N at hl hO HV
        have o1 := hO.alloc (Obj.cells #[.int .u32 (b : Int)] 32)
        have ob := Own.lit1 w1 w1.heap.size rfl (x := (b : Int)) (by omega) (by omega)
        have hB1 := hB.alloc (by have := hB.size; simpa using this) (Obj.cells #[.int .u32 (b : Int)] 32)
        have hM1 := mulMag_any _ _ _ _ _ o1.rd ob.rd (by omega) (by simp)
        have vb : val [(b : Int)] = b := by simp [val]
        rw [val_lim, vb] at hM1
        have hl1 := lim_mul hl hb1
        simp only [hN]
        go_wp2_with fail
        refine hM1.mono ?_
        rintro e w2 ⟨a2, c2, rfl, o2, hB2⟩
        have hC2 := hB1.trans (hB2.mono (bsz hB1))
        clear hM1 o1 ob hB1 hB2 hO
        have o3 := o2.alloc (Obj.cells #[.int .u32 (digN x : Int)] 32)
        have od := Own.lit1 w2 w2.heap.size rfl (x := (digN x : Int)) (by omega) (by omega)
        have hC3 := hC2.alloc (bsz hC2) (Obj.cells #[.int .u32 (digN x : Int)] 32)
        have hT1 := trimS_any _ _ _ od.rd
        have vd : val [(digN x : Int)] = digN x := by simp [val]
        rw [vd] at hT1
        go_wp2_with fail
        refine hT1.mono ?_
        rintro e w3 ⟨a3, c3, rfl, o4, hB3⟩
        have hC4 := hC3.trans (hB3.mono (bsz hC3))
        have hl2 : (lim (digN x)).length ≤ 1 := lim_length_le (by omega)
        have hA1 := addMag_any _ _ _ _ _ (o3.keep hB3).rd o4.rd (by omega) (by omega)
        rw [val_lim, val_lim] at hA1
        clear hT1 hC3 od o2 hC2
        go_wp2_with fail
        refine hA1.mono ?_
        rintro e w4 ⟨a4, c4, rfl, o5, hB4⟩
        have hC5 := hC4.trans (hB4.mono (bsz hC4))
        replace o5 := o5.mono (show w.heap.size + 1 ≤ _ from bsz hC4)
        clear hA1 o3 o4 hB3 hB4 hC4
        rw [← HV.out] at o5 ⊢
        by_cases hl3 : (lim (dval b (D.take (k + 1 - 0)))).length ≤ 128
        · have hl3z : ¬ (128 : Int) < ((lim (dval b (D.take (k + 1 - 0)))).length : Int) := by omega
          have hwk := wrap_idR (a := (k : Int) + 1) (by omega) (by omega)
          generalize hL : lim (dval b (D.take (k + 1 - 0))) = L at hl3 hl3z o5 ⊢
          go_wp2
          go_roundw
          case rel => exact ⟨k + 1, a4, c4, by omega, by omega, by go_num, by rw [hL], by rw [hL]; exact hl3, HG.out, by rw [hL]; exact o5, hC5⟩
          case measure => simp [intOf]; omega
        · have hl3z : (128 : Int) < ((lim (dval b (D.take (k + 1 - 0)))).length : Int) := by omega
          obtain rfl : R = none := hR.symm.trans (rdD_big (k + 1 - 0) (by omega) (by omega))
          have hBw := ((Below.refl w.heap.size w).alloc (Nat.le_refl _) (Obj.cells #[.bool false, .slice none 0 0] 24)).trans (hC5.mono (Nat.le_succ _))
          obtain ⟨lb, k0, k1, f0, f1⟩ := b0.at hC5 (Nat.lt_succ_self _)
          have hwk := wrap_idR (a := (k : Int) + 1) (by omega) (by omega)
          generalize hL : lim (dval b (D.take (k + 1 - 0))) = L at hl3 hl3z o5 ⊢
          go_wp2
          clear hC5 hdz hd hg hB hR o5 hl HT HG HV hN
          go_loopw [10] (fun j wr => ∃ q : Nat, k + 1 ≤ q ∧ q ≤ s.size ∧ j = .int .i64 q ∧ wr = w4) (fun j _ => s.size - (intOf j).toNat)
          case atStart => exact ⟨k + 1, by omega, by omega, by go_num, rfl⟩
          case round =>
            obtain ⟨q, hq0, hq, rfl, rfl⟩ := hrel
            by_cases hqs : q < s.size
            · obtain ⟨y, hyq⟩ : ∃ y, s[q]'hqs = y := ⟨_, rfl⟩
              have hqz : (q : Int) < (s.size : Int) := by omega
              have hwq := wrap_idR (a := (q : Int) + 1) (by omega) (by omega)
              go_wp2_with fail
              refine (hdg y _).mono ?_
              rintro e w5 ⟨rfl, rfl⟩
              by_cases hd5 : (b : Int) ≤ (digN y : Int)
              · go_wp2
                refine bodyPost_ret (v := .tuple #[.agg #[.bool false, .slice none 0 0], .bool false]) (by simp [results, Try.results4, go_sem, k0, k1, lb, f0, f1]) rfl (rd_none _ _ _ ((hBw.setCell (Nat.le_refl _) _).setCell (Nat.le_refl _) _))
              · go_wp2
                go_roundw
                case rel => exact ⟨q + 1, by omega, by omega, by go_num, trivial⟩
                case measure => simp [intOf]; omega
            · have hqz : ¬ (q : Int) < (s.size : Int) := by omega
              go_wp2
              refine bodyPost_ret (v := .tuple #[.agg #[.bool false, .slice none 0 0], .bool false]) (by simp [results, Try.results4, go_sem, k0, k1, lb, f0, f1]) rfl (rd_none _ _ _ ((hBw.setCell (Nat.le_refl _) _).setCell (Nat.le_refl _) _))
    · obtain rfl : k = s.size := by omega
      have hDt : D.take (s.size - 0) = D := List.take_of_length_le (by omega)
      have hDne : D ≠ [] := fun h => by rw [h] at hDl; simp at hDl; omega
      rw [hDt] at hl hg hO ⊢
      obtain ⟨N, hN⟩ : ∃ N, dval b D = N := ⟨_, rfl⟩
      rw [hN] at hl hO ⊢
      obtain rfl : R = some N := by rw [← hR]; unfold rdD; rw [if_neg hDne, if_pos hg, hN, if_pos hl]
      have hBw := ((Below.refl w.heap.size w).alloc (Nat.le_refl _) (Obj.cells #[.bool false, .slice none 0 0] 24)).trans (hB.mono (Nat.le_succ _))
      have hL1 := l1Big_lim false _ _ _ hO.rd
      have hbs := bsz hB
      go_wp2_with fail
      refine hL1.mono ?_
      rintro e w6 ⟨a6, c6, rfl, o6, hB6⟩
      have hBz := hBw.trans (hB6.mono (by omega))
      obtain ⟨lb, k0, k1, f0, f1⟩ := b0.at (hB.trans (hB6.mono hbs)) (Nat.lt_succ_self _)
      have o7 := ((o6.setBelow (a := ⟨w.heap.size, 0, none⟩) (show w.heap.size < _ by omega) (.bool (nz false N))).setBelow (a := ⟨w.heap.size, 1, none⟩) (show w.heap.size < _ by omega) (.slice a6 (lim N).length c6)).mono (show w.heap.size ≤ _ by omega)
      go_wp2
      refine bodyPost_ret (v := .tuple #[.agg #[.bool (nz false N), .slice a6 (lim N).length c6], .bool true]) (by simp [results, Try.results4, go_sem, k0, k1, lb, f0, f1]) rfl ⟨a6, c6, rfl, o7, (hBz.setCell (Nat.le_refl _) _).setCell (Nat.le_refl _) _⟩

set_option maxHeartbeats 2000000 in
set_option maxRecDepth 100000 in
theorem bigReadS_1 (s : ByteArray) (b : Nat) (w : World) (hs : s.size ≤ 5000) (hb0 : 2 ≤ b) (hb1 : b ≤ 36) (h0 : 1 < s.size) (hx : s.data.toList.head? = some 45) :
    Calls Try.prog 4 #[.string s, .int .i64 (b : Int)] w fun e w' => ∃ a c, e = .returned (.tuple #[.agg #[.bool (rdS (readAns s b)), .slice a (rdL (readAns s b)).length c], .bool (readAns s b).isSome]) ∧
      Own w' w.heap.size (.slice a (rdL (readAns s b)).length c) (rdL (readAns s b)) ∧ Below w.heap.size w w' := by
  have g1 : ¬ (b : Int) < 2 := by omega
  have g2 : ¬ (36 : Int) < (b : Int) := by omega
  have g3 : ¬ (5000 : Int) < (s.size : Int) := by omega
  have g4 : (0 : Int) < (s.size : Int) := by omega
  have g6 : (1 : Int) < (s.size : Int) := by omega
  have gh : s.data.toList.head? = some (s[0]'(by omega)) := by
    rw [get_atR s 0 (by omega), List.head?_eq_getElem?, List.getElem?_eq_getElem]
  have hA : readAns s b = (rdD b (s.data.toList.drop 1)).map (true, ·) := by
    unfold readAns
    rw [if_neg (by omega), if_pos hx];  rfl
  rw [gh] at hx
  obtain ⟨x0, hx0⟩ : ∃ x0, s[0]'(by omega) = x0 := ⟨_, rfl⟩
  rw [hx0] at hx
  obtain rfl : x0 = 45 := by simpa using hx
  rw [hA]
  clear hA gh hx
  generalize hD : s.data.toList.drop 1 = D
  have hDl : D.length = s.size - 1 := by rw [← hD]; simp
  have hDk : ∀ k (h : k < s.size) (h1 : 1 ≤ k) (h2 : k - 1 < D.length), D[k - 1] = s[k]'h := by
    intro k h h1 h2
    subst hD
    rw [get_atR s k h]
    simp only [List.getElem_drop]
    congr 1
    omega
  clear hD
  generalize hR : rdD b D = R
  have hdg := fun x W => l1Digit_any x W
  have hMul := fun v u xs ys W => mulMag_any v u xs ys W
  have hAdd := fun v u xs ys W => addMag_any v u xs ys W
  have hTr := fun v zs W => trimS_any v zs W
  have b0 := Rbx.new w
  go_enter Try.func4, Try.ntmps4
  go_wp2
  go_loopw [7, 8] (fun i mv wr => ∃ (k : Nat) (a : Option Addr) (c : Nat), 1 ≤ k ∧ k ≤ s.size ∧ i = .int .i64 k ∧ mv = .slice a (lim (dval b (D.take (k - 1)))).length c ∧ (lim (dval b (D.take (k - 1)))).length ≤ 128 ∧ goodD b (D.take (k - 1)) = true ∧ Own wr (w.heap.size + 1) mv (lim (dval b (D.take (k - 1)))) ∧ Below (w.heap.size + 1) (w.alloc (Obj.cells #[.bool false, .slice none 0 0] 24)) wr) (fun i _ _ => s.size - (intOf i).toNat)
  case atStart =>
    have e0 : dval b (D.take (1 - 1)) = 0 := by simp [dval]
    have oe := (Own.empty (w.alloc (Obj.cells #[.bool false, .slice none 0 0] 24)))
    simp only [World.size_alloc] at oe
    exact ⟨1, _, _, Nat.le_refl _, by omega, rfl, by rw [e0, lim_zero]; rfl, by rw [e0, lim_zero]; simp, by simp [goodD], by rw [e0, lim_zero]; exact oe, (Below.refl _ _).alloc (by simp) _⟩
  case round =>
    obtain ⟨k, a, c, hk0, hk, rfl, rfl, hl, hg, hO, hB⟩ := hrel
    by_cases hlt : k < s.size
    · obtain ⟨x, hxk⟩ : ∃ x, s[k]'hlt = x := ⟨_, rfl⟩
      have hltz : (k : Int) < (s.size : Int) := by omega
      go_wp2_with fail
      refine (hdg x _).mono ?_
      rintro e w1 ⟨rfl, rfl⟩
      have hkD : k - 1 < D.length := by omega
      have hDx := (hDk k hlt hk0 hkD).trans hxk
      by_cases hd : b ≤ digN x
      · have hdz : (b : Int) ≤ (digN x : Int) := by omega
        obtain rfl : R = none := hR.symm.trans (rdD_bad (goodD_bad hkD (by rw [hDx]; exact hd)))
        have hBw := ((Below.refl w.heap.size w).alloc (Nat.le_refl _) (Obj.cells #[.bool false, .slice none 0 0] 24)).trans (hB.mono (Nat.le_succ _))
        obtain ⟨lb, k0, k1, f0, f1⟩ := b0.at hB (Nat.lt_succ_self _)
        go_wp2
        refine bodyPost_ret (v := .tuple #[.agg #[.bool false, .slice none 0 0], .bool false]) (by simp [results, Try.results4, go_sem, k0, k1, lb, f0, f1]) rfl (rd_none _ _ _ ((hBw.setCell (Nat.le_refl _) _).setCell (Nat.le_refl _) _))
      · have hdz : ¬ (b : Int) ≤ (digN x : Int) := by omega
        have HT : Hid (D.take (k + 1 - 1) = D.take (k - 1) ++ [x]) := by
          show _ = _
          rw [show k + 1 - 1 = (k - 1) + 1 by omega, List.take_succ_eq_append_getElem hkD, hDx]
        have HG : Hid (goodD b (D.take (k + 1 - 1)) = true) := by
          show _ = _
          rw [HT.out, goodD_snoc, hg, decide_eq_true (show digN x < b by omega)]; rfl
        have HV : Hid (dval b (D.take (k + 1 - 1)) = dval b (D.take (k - 1)) * b + digN x) := by
          show _ = _
          rw [HT.out, dval_snoc]
        generalize hN : dval b (D.take (k - 1)) = N at hl hO HV
        have o1 := hO.alloc (Obj.cells #[.int .u32 (b : Int)] 32)
        have ob := Own.lit1 w1 w1.heap.size rfl (x := (b : Int)) (by omega) (by omega)
        have hB1 := hB.alloc (by have := hB.size; simpa using this) (Obj.cells #[.int .u32 (b : Int)] 32)
        have hM1 := mulMag_any _ _ _ _ _ o1.rd ob.rd (by omega) (by simp)
        have vb : val [(b : Int)] = b := by simp [val]
        rw [val_lim, vb] at hM1
        have hl1 := lim_mul hl hb1
        simp only [hN]
        go_wp2_with fail
        refine hM1.mono ?_
        rintro e w2 ⟨a2, c2, rfl, o2, hB2⟩
        have hC2 := hB1.trans (hB2.mono (bsz hB1))
        clear hM1 o1 ob hB1 hB2 hO
        have o3 := o2.alloc (Obj.cells #[.int .u32 (digN x : Int)] 32)
        have od := Own.lit1 w2 w2.heap.size rfl (x := (digN x : Int)) (by omega) (by omega)
        have hC3 := hC2.alloc (bsz hC2) (Obj.cells #[.int .u32 (digN x : Int)] 32)
        have hT1 := trimS_any _ _ _ od.rd
        have vd : val [(digN x : Int)] = digN x := by simp [val]
        rw [vd] at hT1
        go_wp2_with fail
        refine hT1.mono ?_
        rintro e w3 ⟨a3, c3, rfl, o4, hB3⟩
        have hC4 := hC3.trans (hB3.mono (bsz hC3))
        have hl2 : (lim (digN x)).length ≤ 1 := lim_length_le (by omega)
        have hA1 := addMag_any _ _ _ _ _ (o3.keep hB3).rd o4.rd (by omega) (by omega)
        rw [val_lim, val_lim] at hA1
        clear hT1 hC3 od o2 hC2
        go_wp2_with fail
        refine hA1.mono ?_
        rintro e w4 ⟨a4, c4, rfl, o5, hB4⟩
        have hC5 := hC4.trans (hB4.mono (bsz hC4))
        replace o5 := o5.mono (show w.heap.size + 1 ≤ _ from bsz hC4)
        clear hA1 o3 o4 hB3 hB4 hC4
        rw [← HV.out] at o5 ⊢
        by_cases hl3 : (lim (dval b (D.take (k + 1 - 1)))).length ≤ 128
        · have hl3z : ¬ (128 : Int) < ((lim (dval b (D.take (k + 1 - 1)))).length : Int) := by omega
          have hwk := wrap_idR (a := (k : Int) + 1) (by omega) (by omega)
          generalize hL : lim (dval b (D.take (k + 1 - 1))) = L at hl3 hl3z o5 ⊢
          go_wp2
          go_roundw
          case rel => exact ⟨k + 1, a4, c4, by omega, by omega, by go_num, by rw [hL], by rw [hL]; exact hl3, HG.out, by rw [hL]; exact o5, hC5⟩
          case measure => simp [intOf]; omega
        · have hl3z : (128 : Int) < ((lim (dval b (D.take (k + 1 - 1)))).length : Int) := by omega
          obtain rfl : R = none := hR.symm.trans (rdD_big (k + 1 - 1) (by omega) (by omega))
          have hBw := ((Below.refl w.heap.size w).alloc (Nat.le_refl _) (Obj.cells #[.bool false, .slice none 0 0] 24)).trans (hC5.mono (Nat.le_succ _))
          obtain ⟨lb, k0, k1, f0, f1⟩ := b0.at hC5 (Nat.lt_succ_self _)
          have hwk := wrap_idR (a := (k : Int) + 1) (by omega) (by omega)
          generalize hL : lim (dval b (D.take (k + 1 - 1))) = L at hl3 hl3z o5 ⊢
          go_wp2
          clear hC5 hdz hd hg hB hR o5 hl HT HG HV hN
          go_loopw [10] (fun j wr => ∃ q : Nat, k + 1 ≤ q ∧ q ≤ s.size ∧ j = .int .i64 q ∧ wr = w4) (fun j _ => s.size - (intOf j).toNat)
          case atStart => exact ⟨k + 1, by omega, by omega, by go_num, rfl⟩
          case round =>
            obtain ⟨q, hq0, hq, rfl, rfl⟩ := hrel
            by_cases hqs : q < s.size
            · obtain ⟨y, hyq⟩ : ∃ y, s[q]'hqs = y := ⟨_, rfl⟩
              have hqz : (q : Int) < (s.size : Int) := by omega
              have hwq := wrap_idR (a := (q : Int) + 1) (by omega) (by omega)
              go_wp2_with fail
              refine (hdg y _).mono ?_
              rintro e w5 ⟨rfl, rfl⟩
              by_cases hd5 : (b : Int) ≤ (digN y : Int)
              · go_wp2
                refine bodyPost_ret (v := .tuple #[.agg #[.bool false, .slice none 0 0], .bool false]) (by simp [results, Try.results4, go_sem, k0, k1, lb, f0, f1]) rfl (rd_none _ _ _ ((hBw.setCell (Nat.le_refl _) _).setCell (Nat.le_refl _) _))
              · go_wp2
                go_roundw
                case rel => exact ⟨q + 1, by omega, by omega, by go_num, trivial⟩
                case measure => simp [intOf]; omega
            · have hqz : ¬ (q : Int) < (s.size : Int) := by omega
              go_wp2
              refine bodyPost_ret (v := .tuple #[.agg #[.bool false, .slice none 0 0], .bool false]) (by simp [results, Try.results4, go_sem, k0, k1, lb, f0, f1]) rfl (rd_none _ _ _ ((hBw.setCell (Nat.le_refl _) _).setCell (Nat.le_refl _) _))
    · obtain rfl : k = s.size := by omega
      have hDt : D.take (s.size - 1) = D := List.take_of_length_le (by omega)
      have hDne : D ≠ [] := fun h => by rw [h] at hDl; simp at hDl; omega
      rw [hDt] at hl hg hO ⊢
      obtain ⟨N, hN⟩ : ∃ N, dval b D = N := ⟨_, rfl⟩
      rw [hN] at hl hO ⊢
      obtain rfl : R = some N := by rw [← hR]; unfold rdD; rw [if_neg hDne, if_pos hg, hN, if_pos hl]
      have hBw := ((Below.refl w.heap.size w).alloc (Nat.le_refl _) (Obj.cells #[.bool false, .slice none 0 0] 24)).trans (hB.mono (Nat.le_succ _))
      have hL1 := l1Big_lim true _ _ _ hO.rd
      have hbs := bsz hB
      go_wp2_with fail
      refine hL1.mono ?_
      rintro e w6 ⟨a6, c6, rfl, o6, hB6⟩
      have hBz := hBw.trans (hB6.mono (by omega))
      obtain ⟨lb, k0, k1, f0, f1⟩ := b0.at (hB.trans (hB6.mono hbs)) (Nat.lt_succ_self _)
      have o7 := ((o6.setBelow (a := ⟨w.heap.size, 0, none⟩) (show w.heap.size < _ by omega) (.bool (nz true N))).setBelow (a := ⟨w.heap.size, 1, none⟩) (show w.heap.size < _ by omega) (.slice a6 (lim N).length c6)).mono (show w.heap.size ≤ _ by omega)
      go_wp2
      refine bodyPost_ret (v := .tuple #[.agg #[.bool (nz true N), .slice a6 (lim N).length c6], .bool true]) (by simp [results, Try.results4, go_sem, k0, k1, lb, f0, f1]) rfl ⟨a6, c6, rfl, o7, (hBz.setCell (Nat.le_refl _) _).setCell (Nat.le_refl _) _⟩
end Go.Proofs.Ytdkaijpaodnlfaa
