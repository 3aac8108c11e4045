import Derived.Test.YtfcoffllelgakaaDoorMUp
import Derived.Test.YtfcoffllelgakaaDoorMinus
namespace Go.Proofs.YtfcoffllelgakaaDoor
open Go.RowKit
set_option linter.unusedVariables false
set_option linter.unusedSimpArgs false

theorem val_drop (xs : List Int) (k : Nat) : val xs = val (xs.take k) + 4294967296 ^ (xs.take k).length * val (xs.drop k) := by
  have := val_append (xs.take k) (xs.drop k)
  rwa [List.take_append_drop] at this
theorem drop_div {xs : List Int} (h : Limbs xs) (k : Nat) (hk : k ≤ xs.length) : val xs / 4294967296 ^ k = val (xs.drop k) := by
  have hd := val_drop xs k
  have hl : (xs.take k).length = k := by simp; omega
  have hlt := val_lt (h.take k)
  rw [hl] at hd hlt
  rw [hd, Nat.add_mul_div_left _ _ (Nat.pow_pos (by decide)), Nat.div_eq_of_lt hlt, Nat.zero_add]
theorem drop_cons_val (xs : List Int) (k : Nat) : val (xs.drop k) = (xs.getD k 0).toNat + 4294967296 * val (xs.drop (k + 1)) := by
  by_cases h : k < xs.length
  · rw [List.drop_eq_getElem_cons h]
    simp [val, List.getD, h]
  · rw [List.drop_eq_nil_of_le (by omega), List.drop_eq_nil_of_le (by omega)]
    have : xs[k]? = none := List.getElem?_eq_none (by omega)
    simp [val, List.getD, this]

theorem down_div (T2 a b s : Nat) (hs : s < 32) : (a + 4294967296 * (b + 4294967296 * T2)) / 2 ^ s % 4294967296 = (a + 4294967296 * b) / 2 ^ s % 4294967296 := by
  have e : a + 4294967296 * (b + 4294967296 * T2) = (a + 4294967296 * b) + 2 ^ s * (4294967296 * 2 ^ (32 - s) * T2) := by
    have h1 : (2 : Nat) ^ s * 2 ^ (32 - s) = 4294967296 := by rw [← Nat.pow_add, show s + (32 - s) = 32 from by omega]
    have h2 : 2 ^ s * (4294967296 * 2 ^ (32 - s) * T2) = 4294967296 * (4294967296 * T2) := by
      rw [← h1]; simp only [Nat.mul_assoc, Nat.mul_left_comm]
    rw [h2, Nat.mul_add]; omega
  rw [e, Nat.add_mul_div_left _ _ (Nat.two_pow_pos s), Nat.mul_assoc, Nat.add_mul_mod_self_left]

theorem or_wide (x y : Nat) (hx : x < 4294967296) (hy : y < 4294967296) : bits .or .u64 ((y : Int) * 4294967296) (x : Int) = ((x + 4294967296 * y : Nat) : Int) := by
  have e : (y : Int) * 4294967296 = ((2 ^ 32 * y : Nat) : Int) := by omega
  rw [e, u64_or_nat _ _ (by omega) (by omega), ← Nat.two_pow_add_eq_or_of_lt (by omega)]
  omega
/-- A limb of a number moved down. -/
theorem down_digit {xs : List Int} (h : Limbs xs) (q k s : Nat) (hq : q + k < xs.length) (hs : s < 32) :
    val (xs.drop q) / 2 ^ s / 4294967296 ^ k % 4294967296 = ((xs.getD (q + k) 0).toNat + 4294967296 * (xs.getD (q + k + 1) 0).toNat) / 2 ^ s % 4294967296 := by
  rw [Nat.div_div_eq_div_mul, Nat.mul_comm, ← Nat.div_div_eq_div_mul, drop_div (h.drop q) k (by simp; omega), List.drop_drop, drop_cons_val, drop_cons_val, down_div _ _ _ _ hs]

theorem down_end {xs : List Int} (h : Limbs xs) (q s n : Nat) (hq : q ≤ xs.length) (hn : n = 32 * q + s) : val (xs.drop q) / 2 ^ s = val xs / 2 ^ n := by
  rw [← drop_div h q hq, Nat.div_div_eq_div_mul, hn, Nat.pow_add, Nat.pow_mul, show (2 : Nat) ^ 32 = 4294967296 from by decide]
theorem down_small {xs : List Int} (h : Limbs xs) (n : Nat) (hq : xs.length ≤ n / 32) : val xs / 2 ^ n = 0 := by
  apply Nat.div_eq_of_lt
  refine Nat.lt_of_lt_of_le (val_lt h) ?_
  rw [show (4294967296 : Nat) = 2 ^ 32 from by decide, ← Nat.pow_mul]
  exact Nat.pow_le_pow_right (by decide) (by omega)

set_option maxHeartbeats 600000 in
set_option maxRecDepth 100000 in
theorem movedDown_any (v : Value) (xs : List Int) (n : Nat) (w : World) (hx : Rd w v xs) (hlx : xs.length ≤ 1048576) (hn : n ≤ 1048576) :
    Calls Tryd.prog 78 #[v, .int .i64 n] w fun e w' => ∃ a c, e = .returned (.slice a (lim (val xs / 2 ^ n)).length c) ∧ Own w' w.heap.size (.slice a (lim (val xs / 2 ^ n)).length c) (lim (val xs / 2 ^ n)) ∧ Below w.heap.size w w' := by
  have hx' := hx
  obtain ⟨a, cap, rfl, _, hzx, hnx, hcx⟩ := hx
  clear hnx
  obtain ⟨q, hq⟩ : ∃ q, q = n / 32 := ⟨_, rfl⟩
  obtain ⟨s, hs⟩ : ∃ s, s = n % 32 := ⟨_, rfl⟩
  have hq' : (n : Int) / 32 = (q : Int) := by omega
  have hs' : (n : Int) % 32 = (s : Int) := by omega
  have hs32 : s < 32 := by omega
  have hq32 : q ≤ 1048576 := by omega
  have hnq : n = 32 * q + s := by omega
  by_cases hql : xs.length ≤ q
  · have e0 := down_small hzx n (by omega)
    rw [e0, lim_zero]
    clear hcx hnq hq hs e0
    have hi : (xs.length : Int) ≤ (q : Int) := by omega
    go_enter Tryd.func78, Tryd.ntmps78
    go_wp2
    go_ret
    exact ⟨_, _, rfl, Own.nil _ _, Below.refl _ _⟩
  · have hT := fun B n' cp a W L (hO : Own W B (.slice a n' cp) L) (he : val L = val xs / 2 ^ n) => he ▸ trimmed_any B n' cp a L W hO
    have hE0 := down_end hzx q s n (by omega) hnq
    generalize hQ : lim (val xs / 2 ^ n) = Q at hT ⊢
    have HE : Hid (val (xs.drop q) / 2 ^ s = val xs / 2 ^ n) := hE0
    clear hE0 hq hs hnq hQ
    obtain ⟨m, hm0⟩ : ∃ m, xs.length = q + m := ⟨xs.length - q, by omega⟩
    have Hm : Hid (xs.length = q + m) := hm0
    have hml : m ≤ 1048576 := by omega
    have hi8 : (xs.length : Int) - (q : Int) = (m : Int) := by omega
    clear hm0
    obtain ⟨i0, hi, hz0, hz1, hz2⟩ := info_parts Tryd.info48
    have hi7 : (q : Int) < (xs.length : Int) := by omega
    go_enter Tryd.func78, Tryd.ntmps78
    go_wp2_with (at_make; refine wpList_make_full _ rfl _ _ 66 rfl w.heap.size 48 i0 (.int .u32 0) 1 Tryd.underlying66 hi hz0 hz1 .i64 .i64 _ _ m rfl rfl (by go_num) (by go_num) (by rw [hz2]; omega) (by unfold maxLen; omega) (Nat.le_refl _) ?_; intro w1 hown hgrow)
    have hO : Own w1 w.heap.size _ (List.replicate m 0) := Own.made (by omega) hown
    have hB : Below w.heap.size w w1 := (Below.refl _ _).grown hgrow (Nat.le_refl _) (by intro k h; cases h)
    clear hown hgrow hi hz0 hz1 hz2
    go_loopw [8, 9, 25] (fun _ _ i wr => ∃ (k : Nat) (O : List Int), k ≤ m ∧ i = .int .i64 k ∧ O.length = k ∧ Own wr w.heap.size (.slice (some ⟨w.heap.size, 0, none⟩) m m) (O ++ List.replicate (m - k) 0) ∧ val O = val (xs.drop q) / 2 ^ s % 4294967296 ^ k ∧ Below w.heap.size w wr)
      (fun _ _ i _ => m - (intOf i).toNat)
    case atStart => exact ⟨0, [], Nat.zero_le _, rfl, rfl, by simpa using hO, by simp [val, Nat.mod_one], hB⟩
    case round =>
      obtain ⟨k, O, hk, rfl, hOl, hOw, hV, hBr⟩ := hrel
      clear hO hB
      have hm := Hm.out
      by_cases hlt : k < m
      · obtain ⟨b, off, rfl, hb, hcell⟩ := hcx (by omega)
        have hce : wr.cell? ⟨b, off + (q + k), none⟩ = some (.int .u32 (xs.getD (q + k) 0)) := (hBr.cell (p := ⟨b, off + (q + k), none⟩) hb).trans (hcell (q + k) (by omega))
        have hat := at_any _ xs (q + k + 1) wr.drew (hx'.keep hBr.drew) (by omega)
        have hXb := hzx.get (q + k)
        have hYb := hzx.get (q + k + 1)
        have hdg := down_digit hzx q k s (by omega) hs32
        have hms := Nat.mod_pow_succ (x := val (xs.drop q) / 2 ^ s) (b := 4294967296) (k := k)
        rw [hdg, ← hV] at hms
        obtain ⟨X, hX⟩ : ∃ X : Nat, xs.getD (q + k) 0 = (X : Int) := ⟨(xs.getD (q + k) 0).toNat, by omega⟩
        obtain ⟨Y, hY⟩ : ∃ Y : Nat, xs.getD (q + k + 1) 0 = (Y : Int) := ⟨(xs.getD (q + k + 1) 0).toNat, by omega⟩
        rw [hX] at hXb hce hms
        rw [hY] at hYb hat hms
        simp only [Int.toNat_natCast] at hms
        obtain ⟨D, hD⟩ : ∃ D, D = (X + 4294967296 * Y) / 2 ^ s % 4294967296 := ⟨_, rfl⟩
        rw [← hD] at hms
        have hD1 : D < 4294967296 := by rw [hD]; exact Nat.mod_lt _ (by decide)
        have HS : Hid (val (O ++ [(D : Int)]) = val (xs.drop q) / 2 ^ s % 4294967296 ^ (k + 1)) := by
          show _ = _
          rw [hms, val_append, hOl]
          simp only [val, Int.toNat_natCast, Nat.mul_zero, Nat.add_zero]
        obtain ⟨u1, hck1⟩ : ∃ u1, wr.cell? ⟨w.heap.size, k, none⟩ = some u1 := ⟨_, hOw.cell k (by simp; omega)⟩
        have hf0 := hOw.frozen k
        have hSt := hOw.store k (z := (D : Int)) (by omega) (by omega)
        have hse := set_one O (D : Int) (m - (k + 1))
        rw [hOl, show m - (k + 1) + 1 = m - k from by omega] at hse
        rw [hse] at hSt
        have HSt : Hid _ := hSt
        have hi1 : (q : Int) + (k : Int) < (xs.length : Int) := by omega
        have hi4 : (k : Int) < (m : Int) := by omega
        have hi5 : ((q : Int) + (k : Int)).toNat = q + k := by omega
        rw [show (((q + k + 1 : Nat)) : Int) = (q : Int) + (k : Int) + 1 from by omega] at hat
        have hi10 : IntKind.i64.wrap ((q : Int) + (k : Int)) = (q : Int) + (k : Int) := by simp [IntKind.wrap, IntKind.bits, IntKind.signed]; omega
        have hi11 : IntKind.i64.wrap ((q : Int) + (k : Int) + 1) = (q : Int) + (k : Int) + 1 := by simp [IntKind.wrap, IntKind.bits, IntKind.signed]; omega
        clear hse hV hOw hcell hcx hT hSt hms hdg hx' hX hY hm
        obtain ⟨T, hT1⟩ : ∃ T, T = X + 4294967296 * Y := ⟨_, rfl⟩
        have hy1 : IntKind.u64.wrap (Y : Int) = (Y : Int) := by rw [IntKind.wrap_u64]; omega
        have hx1 : IntKind.u64.wrap (X : Int) = (X : Int) := by rw [IntKind.wrap_u64]; omega
        have hy2 : IntKind.u64.wrap ((Y : Int) * 4294967296) = (Y : Int) * 4294967296 := by rw [IntKind.wrap_u64]; omega
        have hor : bits .or .u64 ((Y : Int) * 4294967296) (X : Int) = (T : Int) := by rw [hT1]; exact or_wide X Y (by omega) (by omega)
        have hDv : (T : Int) / 2 ^ s % 4294967296 = (D : Int) := by
          rw [hD, ← hT1]
          have e : (2 : Int) ^ s = ((2 ^ s : Nat) : Int) := by rw [Int.natCast_pow]; rfl
          rw [e]
          generalize 2 ^ s = p
          omega
        clear hD hT1
        go_wp2_with fail
        go_region_with (go_at_call 87; refine hat.mono ?_; rintro e w2 ⟨rfl, rfl⟩)
        all_goals go_wp2
        all_goals go_roundw
        all_goals first | exact ⟨k + 1, O ++ [(D : Int)], by omega, by go_num, by simp [hOl], Own.drew HSt.out, HS.out, (hBr.setCell (Nat.le_refl _) _).drew⟩ | (simp [intOf]; omega)
      · have hkN : k = m := by omega
        have hVE : val (O ++ List.replicate (m - k) 0) = val xs / 2 ^ n := by
          rw [hkN, Nat.sub_self, List.replicate_zero, List.append_nil, hV, ← HE.out, hkN]
          apply Nat.mod_eq_of_lt
          have h1 := val_lt (hzx.drop q)
          rw [List.length_drop, hm, Nat.add_sub_cancel_left] at h1
          exact Nat.lt_of_le_of_lt (Nat.div_le_self _ _) h1
        have hK := hT _ _ _ _ _ _ hOw hVE
        clear hVE hV hT hOw hcx hm
        go_wp2_with fail
        refine hK.mono ?_
        rintro e w2 ⟨a2, c2, rfl, hO2, rfl⟩
        clear hK
        go_wp2
        go_ret
        exact ⟨a2, c2, rfl, hO2, hBr⟩
end Go.Proofs.YtfcoffllelgakaaDoor
