import Derived.Test.YtfcoffllelgakaaDoorBitM
namespace Go.Proofs.YtfcoffllelgakaaDoor
open Go.RowKit
set_option linter.unusedVariables false
set_option linter.unusedSimpArgs false

theorem lim_len2 {r B k : Nat} (h : r < 2 * B) (hB : B < 4294967296 ^ k) : (lim r).length ≤ k + 1 := by
  refine lim_length_le (Nat.lt_of_lt_of_le h ?_)
  rw [Nat.pow_succ, Nat.mul_comm]
  exact Nat.mul_le_mul (Nat.le_of_lt hB) (by decide)

set_option maxHeartbeats 2000000 in
set_option maxRecDepth 100000 in
theorem divMag_any (v u : Value) (xs ys : List Int) (w : World) (hx : Rd w v xs) (hy : Rd w u ys) (nx : Norm xs) (ny : Norm ys) (hlx : xs.length ≤ 1000000) (hly : ys.length ≤ 1000000) (hpos : 0 < val ys) :
    Calls Tryd.prog 54 #[v, u] w fun e w' => ∃ a c a' c', e = .returned (.tuple #[.slice a (lim (val xs / val ys)).length c, .slice a' (lim (val xs % val ys)).length c']) ∧ Own w' w.heap.size (.slice a (lim (val xs / val ys)).length c) (lim (val xs / val ys)) ∧ Own w' w.heap.size (.slice a' (lim (val xs % val ys)).length c') (lim (val xs % val ys)) ∧ Below w.heap.size w w' := by
  have hx' := hx
  have hy' := hy
  obtain ⟨a, cap, rfl, _, hzx, hnx, hcx⟩ := hx
  obtain ⟨a', cap', rfl, _, hzy, hny, hcy⟩ := hy
  clear hnx hny hcx hcy
  have hyl : val ys < 4294967296 ^ ys.length := val_lt hzy
  obtain ⟨N, hN⟩ : ∃ N : Nat, bitsN xs = (N : Int) ∧ val xs < 2 ^ N ∧ N ≤ 32 * xs.length := by
    by_cases h0 : xs.length = 0
    · refine ⟨0, by unfold bitsN; rw [if_pos h0]; rfl, ?_, by omega⟩
      rw [List.eq_nil_of_length_eq_zero h0]; simp [val]
    · refine ⟨(bitsN xs).toNat, ?_, (bits_val hzx nx h0).2, ?_⟩
      · unfold bitsN; rw [if_neg h0]; omega
      · have hb := bitLen_32 (xs.getD (xs.length - 1) 0).toNat (by have := hzx.get (xs.length - 1); omega)
        unfold bitsN; rw [if_neg h0]; omega
  obtain ⟨hN1, hN2, hN3⟩ := hN
  have hBits := fun W h => bitsMag_any (.slice a xs.length cap) xs W h
  rw [hN1] at hBits
  have hBit := fun (i : Nat) W h (hi : i ≤ 1099511627776) => bitMag_any (.slice a xs.length cap) xs i W h hi
  have hT := fun W v L (hr : Rd W v L) (he : val L = val xs / val ys) => he ▸ trimS_any v L W hr
  have hShl := fun (r : Nat) (W : World) (v : Value) (h : Rd W v (lim r)) (hr : r < val ys) => shlMag_any v (lim r) 1 W h (Nat.le_trans (lim_len2 (k := ys.length) (by omega) hyl) (by omega)) (by decide)
  simp only [val_lim, Nat.pow_one] at hShl
  have hAdd := fun (r : Nat) (W : World) (v u : Value) (h : Rd W v (lim r)) (h1 : Rd W u [1]) (hr : r < 2 * val ys) => addMag_any v u (lim r) [1] W h h1 (Nat.le_trans (lim_len2 (k := ys.length) hr hyl) (by omega)) (by simp)
  have e1 : val [1] = 1 := by simp [val]
  simp only [val_lim, e1] at hAdd
  have hCmp := fun (r : Nat) (W : World) (v : Value) (h : Rd W v (lim r)) (h1 : Rd W (.slice a' ys.length cap') ys) => cmpS_any v (.slice a' ys.length cap') (lim r) ys W h h1 (lim_norm _) ny
  simp only [val_lim] at hCmp
  have hSub := fun (r : Nat) (W : World) (v : Value) (h : Rd W v (lim r)) (h1 : Rd W (.slice a' ys.length cap') ys) (hr : r < 2 * val ys) (hle : val ys ≤ r) => subMag_any v (.slice a' ys.length cap') (lim r) ys W h h1 (Nat.le_trans (lim_len2 (k := ys.length) hr hyl) (by omega)) (len_le_of (lim_limbs _) hzy ny (by rw [val_lim]; exact hle)) (by rw [val_lim]; exact hle)
  simp only [val_lim] at hSub
  obtain ⟨A, hA⟩ : ∃ A, A = val xs := ⟨_, rfl⟩
  obtain ⟨B, hB⟩ : ∃ B, B = val ys := ⟨_, rfl⟩
  simp only [← hA, ← hB] at *
  generalize hLQ : lim (A / B) = LQ at hT ⊢
  generalize hLR : lim (A % B) = LR
  have HLR : Hid (lim (A % B) = LR) := hLR
  clear hLQ hLR hA hB e1
  obtain ⟨i0, hi, hz0, hz1, hz2⟩ := info_parts Tryd.info48
  go_enter Tryd.func54, Tryd.ntmps54
  go_wp2_with (at_make; refine wpList_make_full _ rfl _ _ 22 rfl w.heap.size 48 i0 (.int .u32 0) 1 Tryd.underlying22 hi hz0 hz1 .i64 .i64 _ _ xs.length rfl rfl rfl rfl (by rw [hz2]; omega) (by unfold maxLen; omega) (Nat.le_refl _) ?_; intro w1 hown hgrow)
  have hO : Own w1 w.heap.size _ (List.replicate xs.length 0) := Own.made (by omega) hown
  have hW1 : Below w.heap.size w w1 := (Below.refl _ _).grown hgrow (Nat.le_refl _) (by intro k h; cases h)
  have hlt1 : w.heap.size < w1.heap.size := (hO.lt w.heap.size rfl).2
  clear hown hgrow hi hz0 hz1 hz2
  refine (hBits _ ((hx'.keep hW1).alloc _)).mono ?_
  rintro e w2 ⟨rfl, rfl⟩
  clear hBits
  have hW2 := hW1.alloc hW1.size (Obj.cells #[] 48)
  replace hO := hO.alloc (Obj.cells #[] 48)
  have hE := Own.empty w1
  go_wp2
  go_loopw [7, 8] (fun r i wr => ∃ (j : Nat) (O : List Int) (a1 : Option Addr) (c1 : Nat), j ≤ N ∧ i = .int .i64 ((j : Int) - 1) ∧ r = .slice a1 (lim (A / 2 ^ j % B)).length c1 ∧ Own wr w1.heap.size (.slice a1 (lim (A / 2 ^ j % B)).length c1) (lim (A / 2 ^ j % B)) ∧ Own wr w.heap.size (.slice (some ⟨w.heap.size, 0, none⟩) xs.length xs.length) O ∧ O.length = xs.length ∧ val O = A / 2 ^ j / B * 2 ^ j ∧ Below w.heap.size w wr ∧ w1.heap.size ≤ wr.heap.size)
    (fun _ i _ => (intOf i + 1).toNat)
  case atStart =>
    have e0 : A / 2 ^ N = 0 := Nat.div_eq_of_lt hN2
    refine ⟨N, _, some ⟨w1.heap.size, 0, none⟩, 0, Nat.le_refl _, by go_num, ?_, ?_, hO, by simp, ?_, hW2, by simp⟩
    · rw [e0, Nat.zero_mod, lim_zero]; rfl
    · rw [e0, Nat.zero_mod, lim_zero]; exact hE
    · rw [e0, Nat.zero_div, Nat.zero_mul]; exact val_zero_of (by intro j; simp [List.getD, List.getElem?_replicate]; split <;> rfl)
  case round =>
    obtain ⟨j, O, a1, c1, hj, rfl, rfl, hRw, hOw, hOl, hV, hBr, hsz⟩ := hrel
    clear hO hE hW1 hW2
    by_cases hj0 : j = 0
    · subst hj0
      rw [Nat.pow_zero, Nat.div_one] at hV hRw ⊢
      rw [Nat.mul_one] at hV
      rw [HLR.out] at hRw ⊢
      clear hShl hAdd hCmp hSub hBit
      go_wp2_with fail
      refine (hT _ _ _ (by rw [← hOl]; rw [← hOl] at hOw; exact hOw.rd) hV).mono ?_
      rintro e w3 ⟨a3, c3, rfl, hO3, hB3⟩
      clear hT
      go_wp2
      refine bodyPost_ret (v := .tuple #[.slice a3 LQ.length c3, .slice a1 LR.length c1]) (by simp [results, Tryd.results54, go_sem]) rfl ?_
      exact ⟨a3, c3, a1, c1, rfl, hO3.mono hBr.size, (hRw.keep hB3).mono (Nat.le_of_lt hlt1), hBr.trans (hB3.mono hBr.size)⟩
    · obtain ⟨i, rfl⟩ : ∃ i, j = i + 1 := ⟨j - 1, by omega⟩
      have hij : (((i + 1 : Nat) : Int) - 1) = (i : Int) := by omega
      rw [hij]
      clear hT HLR
      have hst := half_step A i
      have hb1 : A / 2 ^ i % 2 ≤ 1 := by omega
      have hds := div_step (A / 2 ^ (i + 1)) B (A / 2 ^ i % 2) hpos hb1
      rw [← hst] at hds
      have hrB : A / 2 ^ (i + 1) % B < B := Nat.mod_lt _ hpos
      have hBit := hBit i
      have hiN : i / 32 < O.length := by omega
      have hlay := lay_bit hOw.2.2 i _ hiN hV
      generalize A / 2 ^ (i + 1) / B = QQ at hds hV hlay
      have hpw : QQ * 2 ^ (i + 1) = 2 * QQ * 2 ^ i := by rw [Nat.pow_succ, Nat.mul_comm (2 ^ i) 2, ← Nat.mul_assoc, Nat.mul_comm QQ 2]
      rw [hpw] at hV
      generalize A / 2 ^ (i + 1) % B = r at *
      clear hst hpw
      have hBit0 := hBit
      by_cases hbit : A / 2 ^ i % 2 = 1
      · by_cases hge : B ≤ 2 * r + A / 2 ^ i % 2
        · have hd1 := hds.1
          have hd2 := hds.2
          rw [if_pos hge] at hd1 hd2
          rw [hbit] at hBit hd1 hge
          have er : 2 * r + 1 = r * 2 + 1 := by omega
          rw [er] at hd1 hge
          have HD1 : Hid _ := hd1
          have HD2 : Hid _ := hd2
          have HV : Hid _ := hV
          have hcn := cmpN_nonneg hge
          obtain ⟨z, hz1, hz2, hz3, hz4⟩ := hlay
          obtain ⟨q, hq⟩ : ∃ q, q = i / 32 := ⟨_, rfl⟩
          have hq' : (i : Int) / 32 = (q : Int) := by omega
          rw [← hq] at hz1 hz4 hiN
          clear hds hd1 hd2 hV hb1
          have hSh := hShl r wr _ hRw.rd hrB
          go_wp2_with fail
          refine hSh.mono ?_
          rintro e w2 ⟨a2, c2, rfl, hO2, hB2⟩
          clear hSh hShl
          have hBr2 := hBr.trans (hB2.mono hBr.size)
          have hx2 := hx'.keep hBr2
          have hy2 := hy'.keep hBr2
          have hOw2 := hOw.keep hB2
          have hsz2 := Nat.le_trans hsz hB2.size
          go_wp2_with fail
          refine (hBit _ hx2 (by omega)).mono ?_
          rintro e w3 ⟨rfl, rfl⟩
          go_wp2_with fail
          have hAd := hAdd (r * 2) (w3.alloc (Obj.cells #[.int .u32 1] 48)) _ (.slice (some ⟨w3.heap.size, 0, none⟩) 1 1) (hO2.rd.alloc _) (Rd.one w3 w3.heap.size rfl 48 (by decide) (by decide)) (by omega)
          refine hAd.mono ?_
          rintro e w4 ⟨a4, c4, rfl, hO4, hB4'⟩
          have hB4 := below_of_alloc hB4'
          clear hAd hB4'
          have hBr4 := hBr2.trans (hB4.mono hBr2.size)
          have hy4 := hy2.keep hB4
          have hOw4 := hOw2.keep hB4
          have hsz4 := Nat.le_trans hsz2 hB4.size
          replace hO4 := hO4.mono (B' := w3.heap.size) (by simp)
          clear hAdd
          go_wp2_with fail
          refine (hCmp (r * 2 + 1) _ _ hO4.rd hy4).mono ?_
          rintro e w5 ⟨rfl, hB5⟩
          clear hCmp
          generalize cmpN (r * 2 + 1) B = cn at hcn
          have hBr5 := hBr4.trans (hB5.mono hBr4.size)
          have hOw5 := hOw4.keep hB5
          have hO5 := hO4.keep hB5
          have hy5 := hy4.keep hB5
          have hsz5 := Nat.le_trans hsz4 hB5.size
          go_wp2_with fail
          refine (hSub (r * 2 + 1) _ _ hO5.rd hy5 (by omega) hge).mono ?_
          rintro e w6 ⟨a6, c6, rfl, hO6, hB6⟩
          clear hSub
          have hBr6 := hBr5.trans (hB6.mono hBr5.size)
          have hOw6 := hOw5.keep hB6
          have hsz6 := Nat.le_trans hsz5 hB6.size
          have hce : w6.cell? ⟨w.heap.size, q, none⟩ = some (.int .u32 (z : Int)) := by rw [hOw6.cell q (by omega), hz1]
          have hf0 := hOw6.frozen q
          have hSt := hOw6.store q (z := ((z + 2 ^ (i % 32) : Nat) : Int)) (Int.natCast_nonneg _) (Int.ofNat_lt.mpr hz3)
          have HSt : Hid _ := hSt
          have hi1 : (q : Int) < (xs.length : Int) := by omega
          have HE : Hid (bits .or .u32 (z : Int) ((2 : Int) ^ (i % 32) % 4294967296) = ((z + 2 ^ (i % 32) : Nat) : Int)) := by show _ = _; rw [pow_wrap]; exact hz2
          have HZ : Hid _ := hz4
          clear hSt hz1 hz2 hz4 hOw hOw2 hOw5 hOw6 hBit hBit0 hx2 hx' hq hOw4
          go_wp2
          rw [HE.out]
          go_roundw
          case rel => exact ⟨i, _, a6, c6, by omega, by go_num, by rw [HD1.out], by rw [HD1.out]; exact (hO6.mono hsz5).setBelow (by show w.heap.size < w1.heap.size; omega) _, HSt.out, by simpa using hOl, by rw [HZ.out, HV.out, HD2.out, Nat.add_mul]; omega, hBr6.setCell (Nat.le_refl _) _, by simpa using hsz6⟩
          case measure => simp [intOf]; try omega
        · have hd1 := hds.1
          have hd2 := hds.2
          rw [if_neg hge] at hd1 hd2
          rw [hbit] at hBit hd1 hge
          have er : 2 * r + 1 = r * 2 + 1 := by omega
          rw [er] at hd1 hge
          have HD1 : Hid _ := hd1
          have HD2 : Hid _ := hd2
          have HV : Hid _ := hV
          have hcn : cmpN (r * 2 + 1) B < 0 := by rw [cmpN_lt (by omega)]; decide
          clear hds hd1 hd2 hV hlay hb1
          have hSh := hShl r wr _ hRw.rd hrB
          go_wp2_with fail
          refine hSh.mono ?_
          rintro e w2 ⟨a2, c2, rfl, hO2, hB2⟩
          clear hSh hShl
          have hBr2 := hBr.trans (hB2.mono hBr.size)
          have hx2 := hx'.keep hBr2
          have hy2 := hy'.keep hBr2
          have hOw2 := hOw.keep hB2
          have hsz2 := Nat.le_trans hsz hB2.size
          go_wp2_with fail
          refine (hBit _ hx2 (by omega)).mono ?_
          rintro e w3 ⟨rfl, rfl⟩
          go_wp2_with fail
          have hAd := hAdd (r * 2) (w3.alloc (Obj.cells #[.int .u32 1] 48)) _ (.slice (some ⟨w3.heap.size, 0, none⟩) 1 1) (hO2.rd.alloc _) (Rd.one w3 w3.heap.size rfl 48 (by decide) (by decide)) (by omega)
          refine hAd.mono ?_
          rintro e w4 ⟨a4, c4, rfl, hO4, hB4'⟩
          have hB4 := below_of_alloc hB4'
          clear hAd hB4'
          have hBr4 := hBr2.trans (hB4.mono hBr2.size)
          have hy4 := hy2.keep hB4
          have hOw4 := hOw2.keep hB4
          have hsz4 := Nat.le_trans hsz2 hB4.size
          replace hO4 := hO4.mono (B' := w3.heap.size) (by simp)
          clear hAdd
          go_wp2_with fail
          refine (hCmp (r * 2 + 1) _ _ hO4.rd hy4).mono ?_
          rintro e w5 ⟨rfl, hB5⟩
          clear hCmp
          generalize cmpN (r * 2 + 1) B = cn at hcn
          have hBr5 := hBr4.trans (hB5.mono hBr4.size)
          have hOw5 := hOw4.keep hB5
          have hO5 := hO4.keep hB5
          have hy5 := hy4.keep hB5
          have hsz5 := Nat.le_trans hsz4 hB5.size
          clear hSub hBit hBit0 hx2 hx'
          go_wp2
          go_roundw
          case rel => exact ⟨i, O, a4, c4, by omega, by go_num, by rw [HD1.out], by rw [HD1.out]; exact hO5.mono hsz2, hOw5, hOl, by rw [HV.out, HD2.out, Nat.add_zero], hBr5, hsz5⟩
          case measure => simp [intOf]; try omega
      · have hb0 : A / 2 ^ i % 2 = 0 := by omega
        by_cases hge : B ≤ 2 * r + A / 2 ^ i % 2
        · have hd1 := hds.1
          have hd2 := hds.2
          rw [if_pos hge] at hd1 hd2
          rw [hb0] at hBit hd1 hge
          have er : 2 * r + 0 = r * 2 := by omega
          rw [er] at hd1 hge
          have HD1 : Hid _ := hd1
          have HD2 : Hid _ := hd2
          have HV : Hid _ := hV
          have hcn := cmpN_nonneg hge
          obtain ⟨z, hz1, hz2, hz3, hz4⟩ := hlay
          obtain ⟨q, hq⟩ : ∃ q, q = i / 32 := ⟨_, rfl⟩
          have hq' : (i : Int) / 32 = (q : Int) := by omega
          rw [← hq] at hz1 hz4 hiN
          clear hds hd1 hd2 hV hb1
          have hSh := hShl r wr _ hRw.rd hrB
          go_wp2_with fail
          refine hSh.mono ?_
          rintro e w2 ⟨a2, c2, rfl, hO2, hB2⟩
          clear hSh hShl
          have hBr2 := hBr.trans (hB2.mono hBr.size)
          have hx2 := hx'.keep hBr2
          have hy2 := hy'.keep hBr2
          have hOw2 := hOw.keep hB2
          have hsz2 := Nat.le_trans hsz hB2.size
          go_wp2_with fail
          refine (hBit _ hx2 (by omega)).mono ?_
          rintro e w3 ⟨rfl, rfl⟩
          clear hAdd
          go_wp2_with fail
          refine (hCmp (r * 2) _ _ hO2.rd hy2).mono ?_
          rintro e w5 ⟨rfl, hB5⟩
          clear hCmp
          generalize cmpN (r * 2) B = cn at hcn
          have hBr5 := hBr2.trans (hB5.mono hBr2.size)
          have hOw5 := hOw2.keep hB5
          have hO5 := hO2.keep hB5
          have hy5 := hy2.keep hB5
          have hsz5 := Nat.le_trans hsz2 hB5.size
          go_wp2_with fail
          refine (hSub (r * 2) _ _ hO5.rd hy5 (by omega) hge).mono ?_
          rintro e w6 ⟨a6, c6, rfl, hO6, hB6⟩
          clear hSub
          have hBr6 := hBr5.trans (hB6.mono hBr5.size)
          have hOw6 := hOw5.keep hB6
          have hsz6 := Nat.le_trans hsz5 hB6.size
          have hce : w6.cell? ⟨w.heap.size, q, none⟩ = some (.int .u32 (z : Int)) := by rw [hOw6.cell q (by omega), hz1]
          have hf0 := hOw6.frozen q
          have hSt := hOw6.store q (z := ((z + 2 ^ (i % 32) : Nat) : Int)) (Int.natCast_nonneg _) (Int.ofNat_lt.mpr hz3)
          have HSt : Hid _ := hSt
          have hi1 : (q : Int) < (xs.length : Int) := by omega
          have HE : Hid (bits .or .u32 (z : Int) ((2 : Int) ^ (i % 32) % 4294967296) = ((z + 2 ^ (i % 32) : Nat) : Int)) := by show _ = _; rw [pow_wrap]; exact hz2
          have HZ : Hid _ := hz4
          clear hSt hz1 hz2 hz4 hOw hOw2 hOw5 hOw6 hBit hBit0 hx2 hx' hq
          go_wp2
          rw [HE.out]
          go_roundw
          case rel => exact ⟨i, _, a6, c6, by omega, by go_num, by rw [HD1.out], by rw [HD1.out]; exact (hO6.mono hsz5).setBelow (by show w.heap.size < w1.heap.size; omega) _, HSt.out, by simpa using hOl, by rw [HZ.out, HV.out, HD2.out, Nat.add_mul]; omega, hBr6.setCell (Nat.le_refl _) _, by simpa using hsz6⟩
          case measure => simp [intOf]; try omega
        · have hd1 := hds.1
          have hd2 := hds.2
          rw [if_neg hge] at hd1 hd2
          rw [hb0] at hBit hd1 hge
          have er : 2 * r + 0 = r * 2 := by omega
          rw [er] at hd1 hge
          have HD1 : Hid _ := hd1
          have HD2 : Hid _ := hd2
          have HV : Hid _ := hV
          have hcn : cmpN (r * 2) B < 0 := by rw [cmpN_lt (by omega)]; decide
          clear hds hd1 hd2 hV hlay hb1
          have hSh := hShl r wr _ hRw.rd hrB
          go_wp2_with fail
          refine hSh.mono ?_
          rintro e w2 ⟨a2, c2, rfl, hO2, hB2⟩
          clear hSh hShl
          have hBr2 := hBr.trans (hB2.mono hBr.size)
          have hx2 := hx'.keep hBr2
          have hy2 := hy'.keep hBr2
          have hOw2 := hOw.keep hB2
          have hsz2 := Nat.le_trans hsz hB2.size
          go_wp2_with fail
          refine (hBit _ hx2 (by omega)).mono ?_
          rintro e w3 ⟨rfl, rfl⟩
          clear hAdd
          go_wp2_with fail
          refine (hCmp (r * 2) _ _ hO2.rd hy2).mono ?_
          rintro e w5 ⟨rfl, hB5⟩
          clear hCmp
          generalize cmpN (r * 2) B = cn at hcn
          have hBr5 := hBr2.trans (hB5.mono hBr2.size)
          have hOw5 := hOw2.keep hB5
          have hO5 := hO2.keep hB5
          have hy5 := hy2.keep hB5
          have hsz5 := Nat.le_trans hsz2 hB5.size
          clear hSub hBit hBit0 hx2 hx'
          go_wp2
          go_roundw
          case rel => exact ⟨i, O, a2, c2, by omega, by go_num, by rw [HD1.out], by rw [HD1.out]; exact hO5.mono hsz, hOw5, hOl, by rw [HV.out, HD2.out, Nat.add_zero], hBr5, hsz5⟩
          case measure => simp [intOf]; try omega
end Go.Proofs.YtfcoffllelgakaaDoor
