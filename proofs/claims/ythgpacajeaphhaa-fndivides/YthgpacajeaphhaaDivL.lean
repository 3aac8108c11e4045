import Derived.Test.YthgpacajeaphhaaBitM
namespace Go.Proofs.Ythgpacajeaphhaa
open Go.RowKit
set_option linter.unusedVariables false
set_option linter.unusedSimpArgs false

set_option maxRecDepth 100000 in
theorem div32_any (hi lo y : Nat) (w : World) (h1 : hi < y) (h2 : lo < 4294967296) (h3 : y < 4294967296) :
    Calls Try.prog 82 #[.int .u32 hi, .int .u32 lo, .int .u32 y] w fun e w' => e = .returned (.tuple #[.int .u32 (((lo + 4294967296 * hi) / y : Nat) : Int), .int .u32 (((lo + 4294967296 * hi) % y : Nat) : Int)]) ∧ w' = w.drew := by
  obtain ⟨T, hT⟩ : ∃ T, T = lo + 4294967296 * hi := ⟨_, rfl⟩
  have hTl : T < 18446744073709551616 := by omega
  have hq : T / y < 4294967296 := by
    rw [Nat.div_lt_iff_lt_mul (by omega)]
    have : 4294967296 * (hi + 1) ≤ 4294967296 * y := Nat.mul_le_mul_left _ h1
    omega
  have hr : T % y < y := Nat.mod_lt _ (by omega)
  have hor : bits .or .u64 ((hi : Int) * 4294967296) (lo : Int) = (T : Int) := by rw [hT]; exact or_wide lo hi h2 (by omega)
  have x1 : IntKind.u64.wrap (hi : Int) = (hi : Int) := by rw [IntKind.wrap_u64]; omega
  have x2 : IntKind.u64.wrap ((hi : Int) * 4294967296) = (hi : Int) * 4294967296 := by rw [IntKind.wrap_u64]; omega
  have x3 : IntKind.u64.wrap (lo : Int) = (lo : Int) := by rw [IntKind.wrap_u64]; omega
  have x4 : IntKind.u64.wrap (y : Int) = (y : Int) := by rw [IntKind.wrap_u64]; omega
  rw [← hT]
  clear hT
  obtain ⟨Q, hQ⟩ : ∃ Q : Nat, T / y = Q := ⟨_, rfl⟩
  obtain ⟨R, hR⟩ : ∃ R : Nat, T % y = R := ⟨_, rfl⟩
  have hQ' : (T : Int) / (y : Int) = (Q : Int) := by rw [← hQ, Int.natCast_ediv]
  have hR' : (T : Int) % (y : Int) = (R : Int) := by rw [← hR, Int.natCast_emod]
  rw [hQ] at hq ⊢
  rw [hR] at hr ⊢
  have y0 : ((y : Int) == 0) = false := beq_len0 (by omega)
  have y1 : ¬ (y : Int) ≤ (hi : Int) := by omega
  have y2 : ¬ (y : Int) = 0 := by omega
  have y3 : ¬ y = 0 := by omega
  have z1 : IntKind.u64.wrap (Q : Int) = (Q : Int) := by rw [IntKind.wrap_u64]; omega
  have z2 : IntKind.u32.wrap (Q : Int) = (Q : Int) := by simp [IntKind.wrap, IntKind.bits, IntKind.signed]; omega
  have z3 : (T : Int).tmod (y : Int) = (R : Int) := by rw [Int.tmod_eq_emod_of_nonneg (Int.natCast_nonneg _), hR']
  have z4 : IntKind.u32.wrap (R : Int) = (R : Int) := by simp [IntKind.wrap, IntKind.bits, IntKind.signed]; omega
  clear hQ hR
  go_enter Try.func82, Try.ntmps82
  go_wp2_with fail
  go_region_with (fail)
  all_goals go_wp2
  all_goals refine bodyPost_ret (v := .tuple #[.int .u32 (Q : Int), .int .u32 (R : Int)]) (by simp [results, Try.results82, go_sem, *]) rfl ⟨rfl, rfl⟩

theorem limb_step (T X r Q x : Nat) (hX : 0 < X) (h : X * Q + r = T) (hr : r < X) : (x + 4294967296 * T) / X = (x + 4294967296 * r) / X + 4294967296 * Q ∧ (x + 4294967296 * T) % X = (x + 4294967296 * r) % X := by
  have e : x + 4294967296 * T = (x + 4294967296 * r) + X * (4294967296 * Q) := by
    rw [← h, Nat.mul_add, Nat.mul_left_comm]; omega
  rw [e, Nat.add_mul_div_left _ _ hX, Nat.add_mul_mod_self_left]
  exact ⟨rfl, rfl⟩

set_option maxHeartbeats 1000000 in
set_option maxRecDepth 100000 in
theorem dividedByLimb_any (v : Value) (xs : List Int) (X : Nat) (w : World) (hx : Rd w v xs) (hlx : xs.length ≤ 1048576) (hX : 0 < X) (hX2 : X < 4294967296) :
    Calls Try.prog 67 #[v, .int .u32 X] w fun e w' => ∃ a c, e = .returned (.tuple #[.slice a (lim (val xs / X)).length c, .int .u32 ((val xs % X : Nat) : Int)]) ∧ Own w' w.heap.size (.slice a (lim (val xs / X)).length c) (lim (val xs / X)) ∧ Below w.heap.size w w' := by
  obtain ⟨a, cap, rfl, _, hzx, hnx, hcx⟩ := hx
  clear hnx
  have hT := fun B n' cp a W L (hO : Own W B (.slice a n' cp) L) (he : val L = val xs / X) => he ▸ trimmed_any B n' cp a L W hO
  generalize hQ : lim (val xs / X) = Q at hT ⊢
  obtain ⟨rm, hrm⟩ : ∃ rm, val xs % X = rm := ⟨_, rfl⟩
  rw [hrm]
  have HRM : Hid (val xs % X = rm) := hrm
  clear hQ hrm
  obtain ⟨i0, hi, hz0, hz1, hz2⟩ := info_parts Try.info49
  go_enter Try.func67, Try.ntmps67
  go_wp2_with (at_make; refine wpList_make_full _ rfl _ _ 47 rfl w.heap.size 49 i0 (.int .u32 0) 1 Try.underlying47 hi hz0 hz1 .i64 .i64 _ _ xs.length rfl rfl rfl rfl (by rw [hz2]; omega) (by unfold maxLen; omega) (Nat.le_refl _) ?_; intro w1 hown hgrow)
  have hO : Own w1 w.heap.size _ (List.replicate xs.length 0) := Own.made (by omega) hown
  have hB : Below w.heap.size w w1 := (Below.refl _ _).grown hgrow (Nat.le_refl _) (by intro k h; cases h)
  clear hown hgrow hi hz0 hz1 hz2
  go_loopw [7, 8] (fun r i wr => ∃ (j : Nat) (O : List Int), j ≤ xs.length ∧ i = .int .i64 ((j : Int) - 1) ∧ r = .int .u32 ((val (xs.drop j) % X : Nat) : Int) ∧ Own wr w.heap.size (.slice (some ⟨w.heap.size, 0, none⟩) xs.length xs.length) (List.replicate j 0 ++ O) ∧ j + O.length = xs.length ∧ val O = val (xs.drop j) / X ∧ Below w.heap.size w wr)
    (fun _ i _ => (intOf i + 1).toNat)
  case atStart =>
    refine ⟨xs.length, [], Nat.le_refl _, by go_num, ?_, by simpa using hO, by simp, ?_, hB⟩
    · rw [List.drop_length]; simp [val]
    · rw [List.drop_length]; simp [val]
  case round =>
    obtain ⟨j, O, hj, rfl, rfl, hOw, hOl, hV, hBr⟩ := hrel
    clear hO hB
    by_cases hj0 : j = 0
    · subst hj0
      rw [List.drop_zero] at hV ⊢
      rw [HRM.out]
      have hK := hT _ _ _ _ _ _ hOw (by simpa using hV)
      clear hV hT hOw hcx
      go_wp2_with fail
      refine hK.mono ?_
      rintro e w2 ⟨a2, c2, rfl, hO2, rfl⟩
      clear hK
      go_wp2
      refine bodyPost_ret (v := .tuple #[.slice a2 Q.length c2, .int .u32 (rm : Int)]) (by simp [results, Try.results67, go_sem]) rfl ⟨a2, c2, rfl, hO2, hBr⟩
    · obtain ⟨i, rfl⟩ : ∃ i, j = i + 1 := ⟨j - 1, by omega⟩
      have hij : (((i + 1 : Nat) : Int) - 1) = (i : Int) := by omega
      rw [hij]
      obtain ⟨b, off, rfl, hb, hcell⟩ := hcx (by omega)
      have hce : wr.cell? ⟨b, off + i, none⟩ = some (.int .u32 (xs.getD i 0)) := (hBr.cell (p := ⟨b, off + i, none⟩) hb).trans (hcell i (by omega))
      have hXb := hzx.get i
      have hdc := drop_cons_val xs i
      obtain ⟨x, hx⟩ : ∃ x : Nat, xs.getD i 0 = (x : Int) := ⟨(xs.getD i 0).toNat, by omega⟩
      rw [hx] at hce hXb hdc
      rw [Int.toNat_natCast] at hdc
      have hls := limb_step (val (xs.drop (i + 1))) X (val (xs.drop (i + 1)) % X) (val (xs.drop (i + 1)) / X) x hX (Nat.div_add_mod _ _) (Nat.mod_lt _ hX)
      rw [← hdc] at hls
      have hrl := Nat.mod_lt (val (xs.drop (i + 1))) hX
      generalize val (xs.drop (i + 1)) % X = r at hls hrl
      rw [← hV] at hls
      have hd := fun W => div32_any r x X W hrl (by omega) hX2
      have hq : (x + 4294967296 * r) / X < 4294967296 := by
        rw [Nat.div_lt_iff_lt_mul hX]
        have : 4294967296 * (r + 1) ≤ 4294967296 * X := Nat.mul_le_mul_left _ hrl
        omega
      obtain ⟨D, hD⟩ : ∃ D, D = (x + 4294967296 * r) / X := ⟨_, rfl⟩
      obtain ⟨E, hE⟩ : ∃ E, E = (x + 4294967296 * r) % X := ⟨_, rfl⟩
      rw [← hD, ← hE] at hls hd
      rw [← hD] at hq
      have HV : Hid (val ((D : Int) :: O) = val (xs.drop i) / X) := by
        show _ = _
        rw [hls.1]; simp only [val, Int.toNat_natCast]
      have HR : Hid (val (xs.drop i) % X = E) := hls.2
      obtain ⟨u1, hck1⟩ : ∃ u1, wr.cell? ⟨w.heap.size, i, none⟩ = some u1 := ⟨_, hOw.cell i (by simp; omega)⟩
      have hf0 := hOw.frozen i
      have hSt := hOw.store i (z := (D : Int)) (by omega) (by omega)
      have hse : (List.replicate (i + 1) (0 : Int) ++ O).set i (D : Int) = List.replicate i 0 ++ (D : Int) :: O := by
        rw [List.replicate_succ', List.append_assoc, List.set_append_right _ _ (by simp)]
        simp
      rw [hse] at hSt
      have HSt : Hid _ := hSt
      have hi1 : (i : Int) < (xs.length : Int) := by omega
      clear hse hV hdc hOw hcell hcx hT hSt hls hx hD hE
      go_wp2_with fail
      refine (hd _).mono ?_
      rintro e w2 ⟨rfl, rfl⟩
      clear hd
      go_wp2
      go_roundw
      case rel => exact ⟨i, (D : Int) :: O, by omega, by go_num, by rw [HR.out], Own.drew HSt.out, by simp; omega, HV.out, (hBr.setCell (Nat.le_refl _) _).drew⟩
      case measure => simp [intOf]; try omega
end Go.Proofs.Ythgpacajeaphhaa
