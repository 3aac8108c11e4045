import Derived.Test.YthgpacajeaphhaaMulS
import Derived.Test.YthgpacajeaphhaaPlus
import Derived.Laws.BitsAllLaws
import Derived.Test.YthgpacajeaphhaaMinus
import Derived.Test.YthgpacajeaphhaaRPow
import Derived.Test.YthgpacajeaphhaaCut
import Derived.Test.YthgpacajeaphhaaNum
import Derived.Laws.CopyOwn
namespace Go.Proofs.Ythgpacajeaphhaa
open Go.RowKit
set_option linter.unusedVariables false
set_option linter.unusedSimpArgs false

theorem val_zeros_append (k : Nat) (ys : List Int) : val (List.replicate k 0 ++ ys) = 4294967296 ^ k * val ys := by
  rw [val_append, val_zero_of (by intro j; simp [List.getD, List.getElem?_replicate]; split <;> rfl)]; simp
theorem shl_val (m n : Nat) : 4294967296 ^ (n / 32) * (m * 2 ^ (n % 32)) = m * 2 ^ n := by
  have : (2 : Nat) ^ n = 2 ^ (32 * (n / 32)) * 2 ^ (n % 32) := by rw [← Nat.pow_add]; congr 1; omega
  rw [this, Nat.pow_mul, show (2 : Nat) ^ 32 = 4294967296 from by decide]
  rw [← Nat.mul_assoc, ← Nat.mul_assoc, Nat.mul_comm m]
end Go.Proofs.Ythgpacajeaphhaa

namespace Go.Proofs.Ythgpacajeaphhaa
open Go.RowKit
set_option linter.unusedVariables false
set_option linter.unusedSimpArgs false

theorem up_step {V P c A t D E X : Nat} (h : V + P * c = A * t) (hd : D + 4294967296 * E = c + X * t) : V + P * D + 4294967296 * P * E = (A + P * X) * t := by
  have h1 : P * D + P * (4294967296 * E) = P * c + P * (X * t) := by rw [← Nat.mul_add, ← Nat.mul_add, hd]
  have h2 : 4294967296 * P * E = P * (4294967296 * E) := by rw [Nat.mul_comm 4294967296 P, Nat.mul_assoc]
  have h3 : (A + P * X) * t = A * t + P * (X * t) := by rw [Nat.add_mul, Nat.mul_assoc P X t]
  rw [h2, h3, ← h]; omega

/-- What was carried in has place below what comes. -/
theorem or_up (c x s : Nat) (hs : s < 32) (hc : c < 2 ^ s) (hx : x < 4294967296) : bits .or .u32 (c : Int) (((x * 2 ^ s % 4294967296 : Nat) : Int)) = ((c + x * 2 ^ s % 4294967296 : Nat) : Int) ∧ c + x * 2 ^ s % 4294967296 < 4294967296 ∧ x * 2 ^ s / 4294967296 < 2 ^ s ∧ x * 2 ^ s < 9223372036854775808 := by
  have h2 : (2 : Nat) ^ s ≤ 2 ^ 31 := Nat.pow_le_pow_right (by decide) (by omega)
  have h31 : (2 : Nat) ^ 31 = 2147483648 := by decide
  have hm : x * 2 ^ s % 4294967296 = 2 ^ s * (x % 2 ^ (32 - s)) := by
    have e : (4294967296 : Nat) = 2 ^ s * 2 ^ (32 - s) := by rw [← Nat.pow_add, show s + (32 - s) = 32 from by omega]
    rw [e, Nat.mul_comm x, Nat.mul_mod_mul_left]
  have hor := Nat.two_pow_add_eq_or_of_lt (i := s) (b := c) hc (x % 2 ^ (32 - s))
  have hlt : x * 2 ^ s % 4294967296 < 4294967296 := Nat.mod_lt _ (by decide)
  have hb : x * 2 ^ s % 4294967296 ||| c < 2 ^ 32 := Nat.or_lt_two_pow (by omega) (by omega)
  have hx2 : x * 2 ^ s < 4294967296 * 2 ^ s := Nat.mul_lt_mul_of_pos_right hx (Nat.two_pow_pos s)
  refine ⟨?_, ?_, ?_, ?_⟩
  · rw [u32_or_nat _ _ (by omega) (by omega), Nat.or_comm, hm, ← hor, Nat.add_comm]
  · rw [hm, ← hor, ← hm] at hb; omega
  · exact Nat.div_lt_of_lt_mul hx2
  · omega

theorem up_wraps (c x s : Nat) (h : bits .or .u32 (c : Int) (((x * 2 ^ s % 4294967296 : Nat) : Int)) = ((c + x * 2 ^ s % 4294967296 : Nat) : Int)) (h4 : x * 2 ^ s < 9223372036854775808) :
    bits .or .u32 (c : Int) (IntKind.u64.wrap ((x : Int) * 2 ^ s) % 4294967296) = ((c + x * 2 ^ s % 4294967296 : Nat) : Int) ∧ IntKind.u64.wrap ((x : Int) * 2 ^ s) / 4294967296 % 4294967296 = ((x * 2 ^ s / 4294967296 : Nat) : Int) := by
  have e : (x : Int) * 2 ^ s = ((x * 2 ^ s : Nat) : Int) := by rw [Int.natCast_mul, Int.natCast_pow]; rfl
  have e2 : IntKind.u64.wrap ((x : Int) * 2 ^ s) = ((x * 2 ^ s : Nat) : Int) := by
    rw [e, IntKind.wrap_u64]; omega
  rw [e2]
  generalize x * 2 ^ s = y at h h4
  refine ⟨?_, by omega⟩
  rw [← h, show (((y % 4294967296 : Nat)) : Int) = (y : Int) % 4294967296 from by omega]

set_option maxHeartbeats 2000000 in
set_option maxRecDepth 100000 in
theorem movedUp_any (v : Value) (xs : List Int) (n : Nat) (w : World) (hx : Rd w v xs) (hlx : xs.length ≤ 1048576) (hn : n ≤ 1048576) :
    Calls Try.prog 52 #[v, .int .i64 n] w fun e w' => ∃ a c, e = .returned (.slice a (lim (val xs * 2 ^ n)).length c) ∧ Own w' w.heap.size (.slice a (lim (val xs * 2 ^ n)).length c) (lim (val xs * 2 ^ n)) ∧ Below w.heap.size w w' := by
  obtain ⟨a, cap, rfl, _, hzx, hnx, hcx⟩ := hx
  clear hnx
  have hT := fun B n' cp a W L (hO : Own W B (.slice a n' cp) L) (he : val L = val xs * 2 ^ n) => he ▸ trimmed_any B n' cp a L W hO
  have hE0 := shl_val (val xs) n
  generalize hQ : lim (val xs * 2 ^ n) = Q at hT ⊢
  clear hQ
  obtain ⟨q, hq⟩ : ∃ q, q = n / 32 := ⟨_, rfl⟩
  obtain ⟨s, hs⟩ : ∃ s, s = n % 32 := ⟨_, rfl⟩
  have hq' : (n : Int) / 32 = (q : Int) := by omega
  have hs' : (n : Int) % 32 = (s : Int) := by omega
  have hs32 : s < 32 := by omega
  have hq32 : q ≤ 1048576 := by omega
  rw [← hq, ← hs] at hE0
  have HE : Hid (4294967296 ^ q * (val xs * 2 ^ s) = val xs * 2 ^ n) := hE0
  clear hE0 hq hs
  obtain ⟨i0, hi, hz0, hz1, hz2⟩ := info_parts Try.info49
  go_enter Try.func52, Try.ntmps52
  go_wp2_with (at_make; refine wpList_make_full _ rfl _ _ 47 rfl w.heap.size 49 i0 (.int .u32 0) 1 Try.underlying47 hi hz0 hz1 .i64 .i64 _ _ (q + xs.length + 1) rfl rfl (by go_num) (by go_num) (by rw [hz2]; omega) (by unfold maxLen; omega) (Nat.le_refl _) ?_; intro w1 hown hgrow)
  have hO : Own w1 w.heap.size _ (List.replicate (q + xs.length + 1) 0) := Own.made (by omega) hown
  have hB : Below w.heap.size w w1 := (Below.refl _ _).grown hgrow (Nat.le_refl _) (by intro k h; cases h)
  clear hown hgrow hi hz0 hz1 hz2
  go_loopw [8, 9, 10, 23] (fun _ _ _ i wr => ∃ (k c : Nat) (Z : List Int), k ≤ xs.length ∧ i = .int .i64 k ∧ c < 2 ^ s ∧ Z.length = q + k ∧ Own wr w.heap.size (.slice (some ⟨w.heap.size, 0, none⟩) (q + xs.length + 1) (q + xs.length + 1)) (Z ++ (c : Int) :: List.replicate (xs.length - k) 0) ∧ val Z + 4294967296 ^ (q + k) * c = 4294967296 ^ q * val (xs.take k) * 2 ^ s ∧ Below w.heap.size w wr)
    (fun _ _ _ i _ => xs.length - (intOf i).toNat)
  case atStart =>
    refine ⟨0, 0, List.replicate q 0, Nat.zero_le _, rfl, Nat.two_pow_pos s, by simp, ?_, ?_, hB⟩
    · have e : List.replicate (q + xs.length + 1) (0 : Int) = List.replicate q 0 ++ ((0 : Nat) : Int) :: List.replicate (xs.length - 0) 0 := by
        rw [Nat.add_assoc, ← List.replicate_append_replicate, List.replicate_succ]; rfl
      rw [e] at hO; exact hO
    · have := val_zeros_append q []
      simp [val] at this ⊢
      exact this
  case round =>
    obtain ⟨k, c, Z, hk, rfl, hc1, hZl, hOw, hV, hBr⟩ := hrel
    clear hO hB
    by_cases hlt : k < xs.length
    · obtain ⟨b, off, rfl, hb, hcell⟩ := hcx (by omega)
      have hce : wr.cell? ⟨b, off + k, none⟩ = some (.int .u32 (xs.getD k 0)) := (hBr.cell (p := ⟨b, off + k, none⟩) hb).trans (hcell k hlt)
      have hSx := val_take_succ xs k
      have hXb := hzx.get k
      obtain ⟨X, hX⟩ : ∃ X : Nat, xs.getD k 0 = (X : Int) := ⟨(xs.getD k 0).toNat, by omega⟩
      rw [hX] at hXb hSx hce
      rw [Int.toNat_natCast] at hSx
      obtain ⟨ho1, ho2, ho3, ho4⟩ := or_up c X s hs32 hc1 (by omega)
      have HS : Hid (val (Z ++ [((c + X * 2 ^ s % 4294967296 : Nat) : Int)]) + 4294967296 ^ (q + (k + 1)) * (X * 2 ^ s / 4294967296) = 4294967296 ^ q * val (xs.take (k + 1)) * 2 ^ s) := by
        show _ = _
        have := up_step (D := c + X * 2 ^ s % 4294967296) (E := X * 2 ^ s / 4294967296) (X := X) hV (by omega)
        rw [val_append, hZl, ← Nat.add_assoc, Nat.pow_succ, Nat.mul_comm (4294967296 ^ (q + k)) 4294967296, hSx, Nat.mul_add, ← Nat.mul_assoc, ← Nat.pow_add, ← this]
        simp only [val, Int.toNat_natCast, Nat.mul_zero, Nat.add_zero]
      have hll : (Z ++ (c : Int) :: List.replicate (xs.length - k) 0).length = q + xs.length + 1 := by simp; omega
      have hck : wr.cell? ⟨w.heap.size, q + k, none⟩ = some (.int .u32 c) := by
        rw [hOw.cell (q + k) (by omega)]; simp [List.getD, ← hZl]
      obtain ⟨u1, hck1⟩ : ∃ u1, wr.cell? ⟨w.heap.size, q + k + 1, none⟩ = some u1 := ⟨_, hOw.cell (q + k + 1) (by omega)⟩
      have hf0 := hOw.frozen (q + k)
      have hf1 := hOw.frozen (q + k + 1)
      have hSt := (hOw.store (q + k) (z := ((c + X * 2 ^ s % 4294967296 : Nat) : Int)) (by omega) (by omega)).store (q + k + 1) (z := ((X * 2 ^ s / 4294967296 : Nat) : Int)) (by omega) (by omega)
      have hse := set_two Z c ((c + X * 2 ^ s % 4294967296 : Nat) : Int) ((X * 2 ^ s / 4294967296 : Nat) : Int) (xs.length - (k + 1))
      rw [hZl, show xs.length - (k + 1) + 1 = xs.length - k from by omega] at hse
      rw [hse] at hSt
      have HSt : Hid _ := hSt
      have EW : Hid _ := up_wraps c X s ho1 ho4
      have hi1 : (q : Int) + (k : Int) < (q : Int) + (xs.length : Int) + 1 := by omega
      have hi2 : (q : Int) + (k : Int) + 1 < (q : Int) + (xs.length : Int) + 1 := by omega
      have hi4 : (k : Int) < (xs.length : Int) := by omega
      have hi5 : ((q : Int) + (k : Int)).toNat = q + k := by omega
      have hi6 : ((q : Int) + (k : Int) + 1).toNat = q + k + 1 := by omega
      clear hse hV hSx hOw hcell hcx hT hSt hll ho1
      go_wp2
      rw [EW.out.1, EW.out.2]
      go_roundw
      case rel => exact ⟨k + 1, _, Z ++ [((c + X * 2 ^ s % 4294967296 : Nat) : Int)], by omega, by go_num, ho3, by simp [hZl, Nat.add_assoc], HSt.out, HS.out, (hBr.setCell (Nat.le_refl _) _).setCell (Nat.le_refl _) _⟩
      case measure => simp [intOf]; omega
    · have hkN : k = xs.length := by omega
      have hVE : val (Z ++ (c : Int) :: List.replicate (xs.length - k) 0) = val xs * 2 ^ n := by
        rw [List.take_of_length_le (by omega)] at hV
        rw [← HE.out, ← Nat.mul_assoc, ← hV, hkN, Nat.sub_self, val_append, hZl, hkN]
        simp [val]
      have hK := hT _ _ _ _ _ _ hOw hVE
      clear hVE hV hT hOw hcx
      go_wp2_with fail
      refine hK.mono ?_
      rintro e w2 ⟨a2, c2, rfl, hO2, rfl⟩
      clear hK
      go_wp2
      go_ret
      exact ⟨a2, c2, rfl, hO2, hBr⟩
end Go.Proofs.Ythgpacajeaphhaa

namespace Go.Proofs.Ythgpacajeaphhaa
open Go.RowKit
set_option linter.unusedVariables false
set_option linter.unusedSimpArgs false

theorem val_drop (xs : List Int) (k : Nat) : val xs = val (xs.take k) + 4294967296 ^ (xs.take k).length * val (xs.drop k) := by
  have := val_append (xs.take k) (xs.drop k)
  rwa [List.take_append_drop] at this
theorem drop_div {xs : List Int} (h : Limbs xs) (k : Nat) (hk : k ≤ xs.length) : val xs / 4294967296 ^ k = val (xs.drop k) := by
  have hd := val_drop xs k
  have hl : (xs.take k).length = k := by simp; omega
  have hlt := val_lt (h.take k)
  rw [hl] at hd hlt
  rw [hd, Nat.add_mul_div_left _ _ (Nat.pow_pos (by decide)), Nat.div_eq_of_lt hlt, Nat.zero_add]
theorem drop_cons_val (xs : List Int) (k : Nat) : val (xs.drop k) = (xs.getD k 0).toNat + 4294967296 * val (xs.drop (k + 1)) := by
  by_cases h : k < xs.length
  · rw [List.drop_eq_getElem_cons h]
    simp [val, List.getD, h]
  · rw [List.drop_eq_nil_of_le (by omega), List.drop_eq_nil_of_le (by omega)]
    have : xs[k]? = none := List.getElem?_eq_none (by omega)
    simp [val, List.getD, this]

theorem down_div (T2 a b s : Nat) (hs : s < 32) : (a + 4294967296 * (b + 4294967296 * T2)) / 2 ^ s % 4294967296 = (a + 4294967296 * b) / 2 ^ s % 4294967296 := by
  have e : a + 4294967296 * (b + 4294967296 * T2) = (a + 4294967296 * b) + 2 ^ s * (4294967296 * 2 ^ (32 - s) * T2) := by
    have h1 : (2 : Nat) ^ s * 2 ^ (32 - s) = 4294967296 := by rw [← Nat.pow_add, show s + (32 - s) = 32 from by omega]
    have h2 : 2 ^ s * (4294967296 * 2 ^ (32 - s) * T2) = 4294967296 * (4294967296 * T2) := by
      rw [← h1]; simp only [Nat.mul_assoc, Nat.mul_left_comm]
    rw [h2, Nat.mul_add]; omega
  rw [e, Nat.add_mul_div_left _ _ (Nat.two_pow_pos s), Nat.mul_assoc, Nat.add_mul_mod_self_left]

theorem or_wide (x y : Nat) (hx : x < 4294967296) (hy : y < 4294967296) : bits .or .u64 ((y : Int) * 4294967296) (x : Int) = ((x + 4294967296 * y : Nat) : Int) := by
  have e : (y : Int) * 4294967296 = ((2 ^ 32 * y : Nat) : Int) := by omega
  rw [e, u64_or_nat _ _ (by omega) (by omega), ← Nat.two_pow_add_eq_or_of_lt (by omega)]
  omega
/-- A limb of a number moved down. -/
theorem down_digit {xs : List Int} (h : Limbs xs) (q k s : Nat) (hq : q + k < xs.length) (hs : s < 32) :
    val (xs.drop q) / 2 ^ s / 4294967296 ^ k % 4294967296 = ((xs.getD (q + k) 0).toNat + 4294967296 * (xs.getD (q + k + 1) 0).toNat) / 2 ^ s % 4294967296 := by
  rw [Nat.div_div_eq_div_mul, Nat.mul_comm, ← Nat.div_div_eq_div_mul, drop_div (h.drop q) k (by simp; omega), List.drop_drop, drop_cons_val, drop_cons_val, down_div _ _ _ _ hs]

theorem down_end {xs : List Int} (h : Limbs xs) (q s n : Nat) (hq : q ≤ xs.length) (hn : n = 32 * q + s) : val (xs.drop q) / 2 ^ s = val xs / 2 ^ n := by
  rw [← drop_div h q hq, Nat.div_div_eq_div_mul, hn, Nat.pow_add, Nat.pow_mul, show (2 : Nat) ^ 32 = 4294967296 from by decide]
theorem down_small {xs : List Int} (h : Limbs xs) (n : Nat) (hq : xs.length ≤ n / 32) : val xs / 2 ^ n = 0 := by
  apply Nat.div_eq_of_lt
  refine Nat.lt_of_lt_of_le (val_lt h) ?_
  rw [show (4294967296 : Nat) = 2 ^ 32 from by decide, ← Nat.pow_mul]
  exact Nat.pow_le_pow_right (by decide) (by omega)

set_option maxHeartbeats 600000 in
set_option maxRecDepth 100000 in
theorem movedDown_any (v : Value) (xs : List Int) (n : Nat) (w : World) (hx : Rd w v xs) (hlx : xs.length ≤ 1048576) (hn : n ≤ 1048576) :
    Calls Try.prog 53 #[v, .int .i64 n] w fun e w' => ∃ a c, e = .returned (.slice a (lim (val xs / 2 ^ n)).length c) ∧ Own w' w.heap.size (.slice a (lim (val xs / 2 ^ n)).length c) (lim (val xs / 2 ^ n)) ∧ Below w.heap.size w w' := by
  have hx' := hx
  obtain ⟨a, cap, rfl, _, hzx, hnx, hcx⟩ := hx
  clear hnx
  obtain ⟨q, hq⟩ : ∃ q, q = n / 32 := ⟨_, rfl⟩
  obtain ⟨s, hs⟩ : ∃ s, s = n % 32 := ⟨_, rfl⟩
  have hq' : (n : Int) / 32 = (q : Int) := by omega
  have hs' : (n : Int) % 32 = (s : Int) := by omega
  have hs32 : s < 32 := by omega
  have hq32 : q ≤ 1048576 := by omega
  have hnq : n = 32 * q + s := by omega
  by_cases hql : xs.length ≤ q
  · have e0 := down_small hzx n (by omega)
    rw [e0, lim_zero]
    clear hcx hnq hq hs e0
    have hi : (xs.length : Int) ≤ (q : Int) := by omega
    go_enter Try.func53, Try.ntmps53
    go_wp2
    go_ret
    exact ⟨_, _, rfl, Own.nil _ _, Below.refl _ _⟩
  · have hT := fun B n' cp a W L (hO : Own W B (.slice a n' cp) L) (he : val L = val xs / 2 ^ n) => he ▸ trimmed_any B n' cp a L W hO
    have hE0 := down_end hzx q s n (by omega) hnq
    generalize hQ : lim (val xs / 2 ^ n) = Q at hT ⊢
    have HE : Hid (val (xs.drop q) / 2 ^ s = val xs / 2 ^ n) := hE0
    clear hE0 hq hs hnq hQ
    obtain ⟨m, hm0⟩ : ∃ m, xs.length = q + m := ⟨xs.length - q, by omega⟩
    have Hm : Hid (xs.length = q + m) := hm0
    have hml : m ≤ 1048576 := by omega
    have hi8 : (xs.length : Int) - (q : Int) = (m : Int) := by omega
    clear hm0
    obtain ⟨i0, hi, hz0, hz1, hz2⟩ := info_parts Try.info49
    have hi7 : (q : Int) < (xs.length : Int) := by omega
    go_enter Try.func53, Try.ntmps53
    go_wp2_with (at_make; refine wpList_make_full _ rfl _ _ 47 rfl w.heap.size 49 i0 (.int .u32 0) 1 Try.underlying47 hi hz0 hz1 .i64 .i64 _ _ m rfl rfl (by go_num) (by go_num) (by rw [hz2]; omega) (by unfold maxLen; omega) (Nat.le_refl _) ?_; intro w1 hown hgrow)
    have hO : Own w1 w.heap.size _ (List.replicate m 0) := Own.made (by omega) hown
    have hB : Below w.heap.size w w1 := (Below.refl _ _).grown hgrow (Nat.le_refl _) (by intro k h; cases h)
    clear hown hgrow hi hz0 hz1 hz2
    go_loopw [8, 9, 25] (fun _ _ i wr => ∃ (k : Nat) (O : List Int), k ≤ m ∧ i = .int .i64 k ∧ O.length = k ∧ Own wr w.heap.size (.slice (some ⟨w.heap.size, 0, none⟩) m m) (O ++ List.replicate (m - k) 0) ∧ val O = val (xs.drop q) / 2 ^ s % 4294967296 ^ k ∧ Below w.heap.size w wr)
      (fun _ _ i _ => m - (intOf i).toNat)
    case atStart => exact ⟨0, [], Nat.zero_le _, rfl, rfl, by simpa using hO, by simp [val, Nat.mod_one], hB⟩
    case round =>
      obtain ⟨k, O, hk, rfl, hOl, hOw, hV, hBr⟩ := hrel
      clear hO hB
      have hm := Hm.out
      by_cases hlt : k < m
      · obtain ⟨b, off, rfl, hb, hcell⟩ := hcx (by omega)
        have hce : wr.cell? ⟨b, off + (q + k), none⟩ = some (.int .u32 (xs.getD (q + k) 0)) := (hBr.cell (p := ⟨b, off + (q + k), none⟩) hb).trans (hcell (q + k) (by omega))
        have hat := at_any _ xs (q + k + 1) wr.drew (hx'.keep hBr.drew) (by omega)
        have hXb := hzx.get (q + k)
        have hYb := hzx.get (q + k + 1)
        have hdg := down_digit hzx q k s (by omega) hs32
        have hms := Nat.mod_pow_succ (x := val (xs.drop q) / 2 ^ s) (b := 4294967296) (k := k)
        rw [hdg, ← hV] at hms
        obtain ⟨X, hX⟩ : ∃ X : Nat, xs.getD (q + k) 0 = (X : Int) := ⟨(xs.getD (q + k) 0).toNat, by omega⟩
        obtain ⟨Y, hY⟩ : ∃ Y : Nat, xs.getD (q + k + 1) 0 = (Y : Int) := ⟨(xs.getD (q + k + 1) 0).toNat, by omega⟩
        rw [hX] at hXb hce hms
        rw [hY] at hYb hat hms
        simp only [Int.toNat_natCast] at hms
        obtain ⟨D, hD⟩ : ∃ D, D = (X + 4294967296 * Y) / 2 ^ s % 4294967296 := ⟨_, rfl⟩
        rw [← hD] at hms
        have hD1 : D < 4294967296 := by rw [hD]; exact Nat.mod_lt _ (by decide)
        have HS : Hid (val (O ++ [(D : Int)]) = val (xs.drop q) / 2 ^ s % 4294967296 ^ (k + 1)) := by
          show _ = _
          rw [hms, val_append, hOl]
          simp only [val, Int.toNat_natCast, Nat.mul_zero, Nat.add_zero]
        obtain ⟨u1, hck1⟩ : ∃ u1, wr.cell? ⟨w.heap.size, k, none⟩ = some u1 := ⟨_, hOw.cell k (by simp; omega)⟩
        have hf0 := hOw.frozen k
        have hSt := hOw.store k (z := (D : Int)) (by omega) (by omega)
        have hse := set_one O (D : Int) (m - (k + 1))
        rw [hOl, show m - (k + 1) + 1 = m - k from by omega] at hse
        rw [hse] at hSt
        have HSt : Hid _ := hSt
        have hi1 : (q : Int) + (k : Int) < (xs.length : Int) := by omega
        have hi4 : (k : Int) < (m : Int) := by omega
        have hi5 : ((q : Int) + (k : Int)).toNat = q + k := by omega
        rw [show (((q + k + 1 : Nat)) : Int) = (q : Int) + (k : Int) + 1 from by omega] at hat
        have hi10 : IntKind.i64.wrap ((q : Int) + (k : Int)) = (q : Int) + (k : Int) := by simp [IntKind.wrap, IntKind.bits, IntKind.signed]; omega
        have hi11 : IntKind.i64.wrap ((q : Int) + (k : Int) + 1) = (q : Int) + (k : Int) + 1 := by simp [IntKind.wrap, IntKind.bits, IntKind.signed]; omega
        clear hse hV hOw hcell hcx hT hSt hms hdg hx' hX hY hm
        obtain ⟨T, hT1⟩ : ∃ T, T = X + 4294967296 * Y := ⟨_, rfl⟩
        have hy1 : IntKind.u64.wrap (Y : Int) = (Y : Int) := by rw [IntKind.wrap_u64]; omega
        have hx1 : IntKind.u64.wrap (X : Int) = (X : Int) := by rw [IntKind.wrap_u64]; omega
        have hy2 : IntKind.u64.wrap ((Y : Int) * 4294967296) = (Y : Int) * 4294967296 := by rw [IntKind.wrap_u64]; omega
        have hor : bits .or .u64 ((Y : Int) * 4294967296) (X : Int) = (T : Int) := by rw [hT1]; exact or_wide X Y (by omega) (by omega)
        have hDv : (T : Int) / 2 ^ s % 4294967296 = (D : Int) := by
          rw [hD, ← hT1]
          have e : (2 : Int) ^ s = ((2 ^ s : Nat) : Int) := by rw [Int.natCast_pow]; rfl
          rw [e]
          generalize 2 ^ s = p
          omega
        clear hD hT1
        go_wp2_with fail
        go_region_with (go_at_call 70; refine hat.mono ?_; rintro e w2 ⟨rfl, rfl⟩)
        all_goals go_wp2
        all_goals go_roundw
        all_goals first | exact ⟨k + 1, O ++ [(D : Int)], by omega, by go_num, by simp [hOl], Own.drew HSt.out, HS.out, (hBr.setCell (Nat.le_refl _) _).drew⟩ | (simp [intOf]; omega)
      · have hkN : k = m := by omega
        have hVE : val (O ++ List.replicate (m - k) 0) = val xs / 2 ^ n := by
          rw [hkN, Nat.sub_self, List.replicate_zero, List.append_nil, hV, ← HE.out, hkN]
          apply Nat.mod_eq_of_lt
          have h1 := val_lt (hzx.drop q)
          rw [List.length_drop, hm, Nat.add_sub_cancel_left] at h1
          exact Nat.lt_of_le_of_lt (Nat.div_le_self _ _) h1
        have hK := hT _ _ _ _ _ _ hOw hVE
        clear hVE hV hT hOw hcx hm
        go_wp2_with fail
        refine hK.mono ?_
        rintro e w2 ⟨a2, c2, rfl, hO2, rfl⟩
        clear hK
        go_wp2
        go_ret
        exact ⟨a2, c2, rfl, hO2, hBr⟩
end Go.Proofs.Ythgpacajeaphhaa

namespace Go.Proofs.Ythgpacajeaphhaa
open Go.RowKit
set_option linter.unusedVariables false
set_option linter.unusedSimpArgs false

set_option maxRecDepth 100000 in
theorem div32_any (hi lo y : Nat) (w : World) (h1 : hi < y) (h2 : lo < 4294967296) (h3 : y < 4294967296) :
    Calls Try.prog 82 #[.int .u32 hi, .int .u32 lo, .int .u32 y] w fun e w' => e = .returned (.tuple #[.int .u32 (((lo + 4294967296 * hi) / y : Nat) : Int), .int .u32 (((lo + 4294967296 * hi) % y : Nat) : Int)]) ∧ w' = w.drew := by
  obtain ⟨T, hT⟩ : ∃ T, T = lo + 4294967296 * hi := ⟨_, rfl⟩
  have hTl : T < 18446744073709551616 := by omega
  have hq : T / y < 4294967296 := by
    rw [Nat.div_lt_iff_lt_mul (by omega)]
    have : 4294967296 * (hi + 1) ≤ 4294967296 * y := Nat.mul_le_mul_left _ h1
    omega
  have hr : T % y < y := Nat.mod_lt _ (by omega)
  have hor : bits .or .u64 ((hi : Int) * 4294967296) (lo : Int) = (T : Int) := by rw [hT]; exact or_wide lo hi h2 (by omega)
  have x1 : IntKind.u64.wrap (hi : Int) = (hi : Int) := by rw [IntKind.wrap_u64]; omega
  have x2 : IntKind.u64.wrap ((hi : Int) * 4294967296) = (hi : Int) * 4294967296 := by rw [IntKind.wrap_u64]; omega
  have x3 : IntKind.u64.wrap (lo : Int) = (lo : Int) := by rw [IntKind.wrap_u64]; omega
  have x4 : IntKind.u64.wrap (y : Int) = (y : Int) := by rw [IntKind.wrap_u64]; omega
  rw [← hT]
  clear hT
  obtain ⟨Q, hQ⟩ : ∃ Q : Nat, T / y = Q := ⟨_, rfl⟩
  obtain ⟨R, hR⟩ : ∃ R : Nat, T % y = R := ⟨_, rfl⟩
  have hQ' : (T : Int) / (y : Int) = (Q : Int) := by rw [← hQ, Int.natCast_ediv]
  have hR' : (T : Int) % (y : Int) = (R : Int) := by rw [← hR, Int.natCast_emod]
  rw [hQ] at hq ⊢
  rw [hR] at hr ⊢
  have y0 : ((y : Int) == 0) = false := beq_len0 (by omega)
  have y1 : ¬ (y : Int) ≤ (hi : Int) := by omega
  have y2 : ¬ (y : Int) = 0 := by omega
  have y3 : ¬ y = 0 := by omega
  have z1 : IntKind.u64.wrap (Q : Int) = (Q : Int) := by rw [IntKind.wrap_u64]; omega
  have z2 : IntKind.u32.wrap (Q : Int) = (Q : Int) := by simp [IntKind.wrap, IntKind.bits, IntKind.signed]; omega
  have z3 : (T : Int).tmod (y : Int) = (R : Int) := by rw [Int.tmod_eq_emod_of_nonneg (Int.natCast_nonneg _), hR']
  have z4 : IntKind.u32.wrap (R : Int) = (R : Int) := by simp [IntKind.wrap, IntKind.bits, IntKind.signed]; omega
  clear hQ hR
  go_enter Try.func82, Try.ntmps82
  go_wp2_with fail
  go_region_with (fail)
  all_goals go_wp2
  all_goals refine bodyPost_ret (v := .tuple #[.int .u32 (Q : Int), .int .u32 (R : Int)]) (by simp [results, Try.results82, go_sem, *]) rfl ⟨rfl, rfl⟩

theorem limb_step (T X r Q x : Nat) (hX : 0 < X) (h : X * Q + r = T) (hr : r < X) : (x + 4294967296 * T) / X = (x + 4294967296 * r) / X + 4294967296 * Q ∧ (x + 4294967296 * T) % X = (x + 4294967296 * r) % X := by
  have e : x + 4294967296 * T = (x + 4294967296 * r) + X * (4294967296 * Q) := by
    rw [← h, Nat.mul_add, Nat.mul_left_comm]; omega
  rw [e, Nat.add_mul_div_left _ _ hX, Nat.add_mul_mod_self_left]
  exact ⟨rfl, rfl⟩

set_option maxHeartbeats 1000000 in
set_option maxRecDepth 100000 in
theorem dividedByLimb_any (v : Value) (xs : List Int) (X : Nat) (w : World) (hx : Rd w v xs) (hlx : xs.length ≤ 1048576) (hX : 0 < X) (hX2 : X < 4294967296) :
    Calls Try.prog 67 #[v, .int .u32 X] w fun e w' => ∃ a c, e = .returned (.tuple #[.slice a (lim (val xs / X)).length c, .int .u32 ((val xs % X : Nat) : Int)]) ∧ Own w' w.heap.size (.slice a (lim (val xs / X)).length c) (lim (val xs / X)) ∧ Below w.heap.size w w' := by
  obtain ⟨a, cap, rfl, _, hzx, hnx, hcx⟩ := hx
  clear hnx
  have hT := fun B n' cp a W L (hO : Own W B (.slice a n' cp) L) (he : val L = val xs / X) => he ▸ trimmed_any B n' cp a L W hO
  generalize hQ : lim (val xs / X) = Q at hT ⊢
  obtain ⟨rm, hrm⟩ : ∃ rm, val xs % X = rm := ⟨_, rfl⟩
  rw [hrm]
  have HRM : Hid (val xs % X = rm) := hrm
  clear hQ hrm
  obtain ⟨i0, hi, hz0, hz1, hz2⟩ := info_parts Try.info49
  go_enter Try.func67, Try.ntmps67
  go_wp2_with (at_make; refine wpList_make_full _ rfl _ _ 47 rfl w.heap.size 49 i0 (.int .u32 0) 1 Try.underlying47 hi hz0 hz1 .i64 .i64 _ _ xs.length rfl rfl rfl rfl (by rw [hz2]; omega) (by unfold maxLen; omega) (Nat.le_refl _) ?_; intro w1 hown hgrow)
  have hO : Own w1 w.heap.size _ (List.replicate xs.length 0) := Own.made (by omega) hown
  have hB : Below w.heap.size w w1 := (Below.refl _ _).grown hgrow (Nat.le_refl _) (by intro k h; cases h)
  clear hown hgrow hi hz0 hz1 hz2
  go_loopw [7, 8] (fun r i wr => ∃ (j : Nat) (O : List Int), j ≤ xs.length ∧ i = .int .i64 ((j : Int) - 1) ∧ r = .int .u32 ((val (xs.drop j) % X : Nat) : Int) ∧ Own wr w.heap.size (.slice (some ⟨w.heap.size, 0, none⟩) xs.length xs.length) (List.replicate j 0 ++ O) ∧ j + O.length = xs.length ∧ val O = val (xs.drop j) / X ∧ Below w.heap.size w wr)
    (fun _ i _ => (intOf i + 1).toNat)
  case atStart =>
    refine ⟨xs.length, [], Nat.le_refl _, by go_num, ?_, by simpa using hO, by simp, ?_, hB⟩
    · rw [List.drop_length]; simp [val]
    · rw [List.drop_length]; simp [val]
  case round =>
    obtain ⟨j, O, hj, rfl, rfl, hOw, hOl, hV, hBr⟩ := hrel
    clear hO hB
    by_cases hj0 : j = 0
    · subst hj0
      rw [List.drop_zero] at hV ⊢
      rw [HRM.out]
      have hK := hT _ _ _ _ _ _ hOw (by simpa using hV)
      clear hV hT hOw hcx
      go_wp2_with fail
      refine hK.mono ?_
      rintro e w2 ⟨a2, c2, rfl, hO2, rfl⟩
      clear hK
      go_wp2
      refine bodyPost_ret (v := .tuple #[.slice a2 Q.length c2, .int .u32 (rm : Int)]) (by simp [results, Try.results67, go_sem]) rfl ⟨a2, c2, rfl, hO2, hBr⟩
    · obtain ⟨i, rfl⟩ : ∃ i, j = i + 1 := ⟨j - 1, by omega⟩
      have hij : (((i + 1 : Nat) : Int) - 1) = (i : Int) := by omega
      rw [hij]
      obtain ⟨b, off, rfl, hb, hcell⟩ := hcx (by omega)
      have hce : wr.cell? ⟨b, off + i, none⟩ = some (.int .u32 (xs.getD i 0)) := (hBr.cell (p := ⟨b, off + i, none⟩) hb).trans (hcell i (by omega))
      have hXb := hzx.get i
      have hdc := drop_cons_val xs i
      obtain ⟨x, hx⟩ : ∃ x : Nat, xs.getD i 0 = (x : Int) := ⟨(xs.getD i 0).toNat, by omega⟩
      rw [hx] at hce hXb hdc
      rw [Int.toNat_natCast] at hdc
      have hls := limb_step (val (xs.drop (i + 1))) X (val (xs.drop (i + 1)) % X) (val (xs.drop (i + 1)) / X) x hX (Nat.div_add_mod _ _) (Nat.mod_lt _ hX)
      rw [← hdc] at hls
      have hrl := Nat.mod_lt (val (xs.drop (i + 1))) hX
      generalize val (xs.drop (i + 1)) % X = r at hls hrl
      rw [← hV] at hls
      have hd := fun W => div32_any r x X W hrl (by omega) hX2
      have hq : (x + 4294967296 * r) / X < 4294967296 := by
        rw [Nat.div_lt_iff_lt_mul hX]
        have : 4294967296 * (r + 1) ≤ 4294967296 * X := Nat.mul_le_mul_left _ hrl
        omega
      obtain ⟨D, hD⟩ : ∃ D, D = (x + 4294967296 * r) / X := ⟨_, rfl⟩
      obtain ⟨E, hE⟩ : ∃ E, E = (x + 4294967296 * r) % X := ⟨_, rfl⟩
      rw [← hD, ← hE] at hls hd
      rw [← hD] at hq
      have HV : Hid (val ((D : Int) :: O) = val (xs.drop i) / X) := by
        show _ = _
        rw [hls.1]; simp only [val, Int.toNat_natCast]
      have HR : Hid (val (xs.drop i) % X = E) := hls.2
      obtain ⟨u1, hck1⟩ : ∃ u1, wr.cell? ⟨w.heap.size, i, none⟩ = some u1 := ⟨_, hOw.cell i (by simp; omega)⟩
      have hf0 := hOw.frozen i
      have hSt := hOw.store i (z := (D : Int)) (by omega) (by omega)
      have hse : (List.replicate (i + 1) (0 : Int) ++ O).set i (D : Int) = List.replicate i 0 ++ (D : Int) :: O := by
        rw [List.replicate_succ', List.append_assoc, List.set_append_right _ _ (by simp)]
        simp
      rw [hse] at hSt
      have HSt : Hid _ := hSt
      have hi1 : (i : Int) < (xs.length : Int) := by omega
      clear hse hV hdc hOw hcell hcx hT hSt hls hx hD hE
      go_wp2_with fail
      refine (hd _).mono ?_
      rintro e w2 ⟨rfl, rfl⟩
      clear hd
      go_wp2
      go_roundw
      case rel => exact ⟨i, (D : Int) :: O, by omega, by go_num, by rw [HR.out], Own.drew HSt.out, by simp; omega, HV.out, (hBr.setCell (Nat.le_refl _) _).drew⟩
      case measure => simp [intOf]; try omega
end Go.Proofs.Ythgpacajeaphhaa

namespace Go.Proofs.Ythgpacajeaphhaa
open Go.RowKit
set_option linter.unusedVariables false
set_option linter.unusedSimpArgs false
set_option maxRecDepth 100000

/-- The guess of a limb: what the loop keeps. -/
theorem guess_first {T h top next m0 t : Nat} (ht : 0 < top) (h3 : T = h * 4294967296 + m0) (hm : m0 < 4294967296) (hq : t * (top * 4294967296 + next) ≤ T) : t ≤ h / top := by
  rw [Nat.le_div_iff_mul_le ht]
  rw [Nat.mul_add, ← Nat.mul_assoc] at hq
  have : t * top * 4294967296 < (h + 1) * 4294967296 := by omega
  have := Nat.lt_of_mul_lt_mul_right this
  omega
theorem guess_over {T h top next m0 g r : Nat} (h3 : T = h * 4294967296 + m0) (hg : g * top + r = h) (hc : r * 4294967296 + m0 < g * next) : T < g * (top * 4294967296 + next) := by
  have e1 : g * (top * 4294967296 + next) = g * top * 4294967296 + g * next := by rw [Nat.mul_add, ← Nat.mul_assoc]
  rw [e1]
  generalize g * next = z at hc
  generalize g * top = y at hg
  omega
theorem guess_fits {T h top next m0 g r : Nat} (h3 : T = h * 4294967296 + m0) (hg : g * top + r = h) (hc : g * next ≤ r * 4294967296 + m0) : g * (top * 4294967296 + next) ≤ T := by
  have e1 : g * (top * 4294967296 + next) = g * top * 4294967296 + g * next := by rw [Nat.mul_add, ← Nat.mul_assoc]
  rw [e1]
  generalize g * next = z at hc
  generalize g * top = y at hg
  omega
theorem guess_broke {T h top next m0 g r : Nat} (h3 : T = h * 4294967296 + m0) (hg : g * top + r = h) (hr : 4294967296 ≤ r) (hn : next < 4294967296) (hT : T < (top * 4294967296 + next + 1) * 4294967296) : g < 4294967296 ∧ g * next ≤ r * 4294967296 + m0 := by
  have h1 : g < 4294967296 := by
    have h2 : h * 4294967296 < (top + 1) * 4294967296 * 4294967296 := by
      have : (top * 4294967296 + next + 1) * 4294967296 ≤ ((top + 1) * 4294967296) * 4294967296 := Nat.mul_le_mul_right _ (by omega)
      omega
    have h4 := Nat.lt_of_mul_lt_mul_right h2
    have h5 : g * top < top * 4294967296 := by rw [Nat.add_mul] at h4; omega
    rw [Nat.mul_comm top] at h5
    exact Nat.lt_of_mul_lt_mul_right h5
  refine ⟨h1, ?_⟩
  have h6 : g * next ≤ 4294967296 * 4294967296 := Nat.mul_le_mul (by omega) (by omega)
  omega

/-- The guess is the quotient or one more: P is the power below the two highest limbs. -/
theorem guess_near {M T m' o O o' P Q : Nat} (hM : M = m' + P * T) (hm : m' < P) (ho : o = o' + P * O) (ho' : o' < P) (hoP : P * 4294967296 ≤ o)
    (hQ : Q < 4294967296) (hQT : Q * O ≤ T) (hmax : ∀ t, t < 4294967296 → t * O ≤ T → t ≤ Q) (hMo : M < o * 4294967296) : M / o ≤ Q ∧ Q ≤ M / o + 1 := by
  have hP : 0 < P := by omega
  have ho0 : 0 < o := by omega
  constructor
  · refine hmax _ ?_ ?_
    · rw [Nat.div_lt_iff_lt_mul ho0, Nat.mul_comm]; exact hMo
    · have h1 : M / o * o ≤ M := Nat.div_mul_le_self _ _
      have h2 : M / o * O * P < (T + 1) * P := by
        have : M / o * o = M / o * o' + M / o * O * P := by
          rw [ho, Nat.mul_add, Nat.mul_comm P O, ← Nat.mul_assoc]
        rw [Nat.add_mul, Nat.mul_comm T P]; omega
      exact Nat.le_of_lt_succ (Nat.lt_of_mul_lt_mul_right h2)
  · rcases Nat.eq_zero_or_pos Q with h0 | h0
    · rw [h0]; exact Nat.zero_le _
    · obtain ⟨q, rfl⟩ : ∃ q, Q = q + 1 := ⟨Q - 1, by omega⟩
      have h1 : (q + 1) * o ≤ (q + 1) * o' + M := by
        have e : (q + 1) * o = (q + 1) * o' + P * ((q + 1) * O) := by rw [ho, Nat.mul_add, Nat.mul_left_comm]
        have := Nat.mul_le_mul_left P hQT
        omega
      have h2 : (q + 1) * o' ≤ 4294967296 * P := Nat.mul_le_mul (by omega) (by omega)
      have e3 : (q + 1) * o = q * o + o := Nat.succ_mul q o
      have h3 : q * o ≤ M := by
        rw [e3] at h1
        generalize (q + 1) * o' = z at h1 h2
        generalize q * o = z2 at h1
        omega
      have : q ≤ M / o := by rw [Nat.le_div_iff_mul_le ho0]; exact h3
      omega

/-- The quotient, one step. -/
theorem long_step {A D Qv V low W P : Nat} (hD : 0 < D) (hA : A = D * (Qv * (P * 4294967296)) + V) (hV : V = low + P * W) (hlow : low < P) (hlt : V < D * (P * 4294967296)) :
    W < D * 4294967296 ∧ A = D * ((W / D + 4294967296 * Qv) * P) + (low + P * (W % D)) ∧ low + P * (W % D) < D * P := by
  have hP : 0 < P := by omega
  have h1 : W < D * 4294967296 := by
    have : P * W < P * (D * 4294967296) := by rw [Nat.mul_left_comm]; omega
    exact Nat.lt_of_mul_lt_mul_left this
  have h2 := Nat.div_add_mod W D
  have h3 := Nat.mod_lt W hD
  refine ⟨h1, ?_, ?_⟩
  · rw [hA, hV]
    have e : P * W = D * (W / D * P) + P * (W % D) := by
      rw [← Nat.mul_assoc, Nat.mul_comm _ P, ← Nat.mul_add, h2]
    rw [e, Nat.add_mul, Nat.mul_add]
    have e2 : Qv * (P * 4294967296) = 4294967296 * Qv * P := by rw [Nat.mul_comm P, ← Nat.mul_assoc, Nat.mul_comm Qv]
    rw [e2]; omega
  · have : P * (W % D) + P ≤ P * D := by rw [← Nat.mul_succ]; exact Nat.mul_le_mul_left _ h3
    rw [Nat.mul_comm D]; omega
end Go.Proofs.Ythgpacajeaphhaa

namespace Go.Proofs.Ythgpacajeaphhaa
open Go.RowKit
theorem Unf.set {w : World} {b : Nat} (h : Unf w b) (a : Addr) (u : Value) : Unf (w.setCell a u) b := ⟨by simpa [World.setCell] using h.1, fun o => (World.frozen?_setCell _ _ _ _).trans (h.2 o)⟩
end Go.Proofs.Ythgpacajeaphhaa

namespace Go.Proofs.Ythgpacajeaphhaa
open Go.RowKit
set_option linter.unusedVariables false
set_option linter.unusedSimpArgs false

theorem map_splice (xs : List Int) (n : Nat) (h : xs.length ≤ n) : splice ((List.replicate n (0 : Int)).map (Value.int .u32)) 0 (xs.map (Value.int .u32)) = (xs ++ List.replicate (n - xs.length) 0).map (Value.int .u32) := by
  unfold splice
  simp
theorem val_zeros (n : Nat) : val (List.replicate n 0) = 0 := by
  induction n with
  | zero => rfl
  | succ n ih => rw [List.replicate_succ]; simp [val, ih]

theorem Rd.src {w : World} {a : Option Addr} {n cap : Nat} {zs : List Int} (h : Rd w (.slice a n cap) zs) (h0 : 0 < (zs.map (Value.int .u32)).length) : ∃ ad, a = some ad ∧ ∀ j v, (zs.map (Value.int .u32))[j]? = some v → w.cell? (ad.add j) = some v := by
  obtain ⟨a', cap', hv, hl, hz, hn, hc⟩ := h
  simp at hv
  obtain ⟨rfl, rfl, rfl⟩ := hv
  obtain ⟨b, off, rfl, hb, hcell⟩ := hc (by simpa using h0)
  refine ⟨_, rfl, fun j v hj => ?_⟩
  have hjl : j < zs.length := by
    rcases Nat.lt_or_ge j zs.length with h1 | h1
    · exact h1
    · rw [List.getElem?_eq_none (by simpa using h1)] at hj; cases hj
  have := hcell j hjl
  simp [hjl] at hj
  rw [← hj]
  have e : (⟨b, off, none⟩ : Addr).add j = ⟨b, off + j, none⟩ := by
    unfold Addr.add
    by_cases h : j = 0
    · simp [h]
    · simp [h]
  rw [e]
  simpa [List.getD, hjl] using this

theorem Own.row {w : World} {B g n : Nat} {zs : List Int} (h : Own w B (.slice (some ⟨g, 0, none⟩) n n) zs) : w.heap[g]? = some (.cells (zs.map (Value.int .u32)).toArray 49 (0, 0)) ∧ B ≤ g := by
  have hn := h.len
  obtain ⟨⟨h1, h2⟩, hl, hz⟩ := h
  rcases h2 with ⟨h', _⟩ | ⟨g', cap', cur, hv, hg, hh, hc1, hc2, hs, ht⟩
  · cases h'
  · simp at hv
    obtain ⟨rfl, e1, rfl⟩ := hv
    refine ⟨?_, hg⟩
    rw [hh]
    have e2 : cur.toList = zs.map (Value.int .u32) := by
      rw [← ht, List.take_of_length_le]
      rw [Array.length_toList, hs]; omega
    rw [← e2]
theorem Own.ofRow {w : World} {B g : Nat} {zs : List Int} (hg : w.heap[g]? = some (.cells (zs.map (Value.int .u32)).toArray 49 (0, 0))) (hB : B ≤ g) (hl : zs.length ≤ 16777216) (hz : Limbs zs) : Own w B (.slice (some ⟨g, 0, none⟩) zs.length zs.length) zs := by
  refine ⟨⟨by simp, .inr ⟨g, zs.length, (zs.map (Value.int .u32)).toArray, rfl, hB, hg, Nat.le_refl _, by unfold maxLen; omega, by simp, ?_⟩⟩, hl, hz⟩
  rw [List.take_of_length_le (by simp)]
end Go.Proofs.Ythgpacajeaphhaa
