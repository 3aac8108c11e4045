import Derived.Test.YthgpacajeaphhaaMulS
import Derived.Test.YthgpacajeaphhaaPlus
import Derived.Laws.BitsAllLaws
import Derived.Test.YthgpacajeaphhaaMinus
import Derived.Test.YthgpacajeaphhaaRPow
import Derived.Test.YthgpacajeaphhaaNum
import Derived.Laws.CopyOwn
import Derived.Test.YthgpacajeaphhaaCut
namespace Go.Proofs.Ythgpacajeaphhaa
open Go.RowKit
set_option linter.unusedVariables false
set_option linter.unusedSimpArgs false

theorem val_zeros_append (k : Nat) (ys : List Int) : val (List.replicate k 0 ++ ys) = 4294967296 ^ k * val ys := by
  rw [val_append, val_zero_of (by intro j; simp [List.getD, List.getElem?_replicate]; split <;> rfl)]; simp
theorem shl_val (m n : Nat) : 4294967296 ^ (n / 32) * (m * 2 ^ (n % 32)) = m * 2 ^ n := by
  have : (2 : Nat) ^ n = 2 ^ (32 * (n / 32)) * 2 ^ (n % 32) := by rw [← Nat.pow_add]; congr 1; omega
  rw [this, Nat.pow_mul, show (2 : Nat) ^ 32 = 4294967296 from by decide]
  rw [← Nat.mul_assoc, ← Nat.mul_assoc, Nat.mul_comm m]
theorem pow_mod32 (n : Nat) : 1 ≤ 2 ^ (n % 32) ∧ 2 ^ (n % 32) < 4294967296 := by
  have : (2 : Nat) ^ (n % 32) ≤ 2 ^ 31 := Nat.pow_le_pow_right (by decide) (by omega)
  have h2 : (2 : Nat) ^ 31 = 2147483648 := by decide
  have h3 := Nat.two_pow_pos (n % 32)
  omega

theorem pow_wrap (n : Nat) : ((2 : Int) ^ (n % 32) % 4294967296) = ((2 ^ (n % 32) : Nat) : Int) := by
  have h := pow_mod32 n
  have e : ((2 ^ (n % 32) : Nat) : Int) = (2 : Int) ^ (n % 32) := Int.natCast_pow 2 _
  rw [← e]
  generalize (2 : Nat) ^ (n % 32) = p at h
  omega

end Go.Proofs.Ythgpacajeaphhaa

namespace Go.Proofs.Ythgpacajeaphhaa
open Go.RowKit
set_option linter.unusedVariables false
set_option linter.unusedSimpArgs false

theorem up_step {V P c A t D E X : Nat} (h : V + P * c = A * t) (hd : D + 4294967296 * E = c + X * t) : V + P * D + 4294967296 * P * E = (A + P * X) * t := by
  have h1 : P * D + P * (4294967296 * E) = P * c + P * (X * t) := by rw [← Nat.mul_add, ← Nat.mul_add, hd]
  have h2 : 4294967296 * P * E = P * (4294967296 * E) := by rw [Nat.mul_comm 4294967296 P, Nat.mul_assoc]
  have h3 : (A + P * X) * t = A * t + P * (X * t) := by rw [Nat.add_mul, Nat.mul_assoc P X t]
  rw [h2, h3, ← h]; omega

/-- What was carried in has place below what comes. -/
theorem or_up (c x s : Nat) (hs : s < 32) (hc : c < 2 ^ s) (hx : x < 4294967296) : bits .or .u32 (c : Int) (((x * 2 ^ s % 4294967296 : Nat) : Int)) = ((c + x * 2 ^ s % 4294967296 : Nat) : Int) ∧ c + x * 2 ^ s % 4294967296 < 4294967296 ∧ x * 2 ^ s / 4294967296 < 2 ^ s ∧ x * 2 ^ s < 9223372036854775808 := by
  have h2 : (2 : Nat) ^ s ≤ 2 ^ 31 := Nat.pow_le_pow_right (by decide) (by omega)
  have h31 : (2 : Nat) ^ 31 = 2147483648 := by decide
  have hm : x * 2 ^ s % 4294967296 = 2 ^ s * (x % 2 ^ (32 - s)) := by
    have e : (4294967296 : Nat) = 2 ^ s * 2 ^ (32 - s) := by rw [← Nat.pow_add, show s + (32 - s) = 32 from by omega]
    rw [e, Nat.mul_comm x, Nat.mul_mod_mul_left]
  have hor := Nat.two_pow_add_eq_or_of_lt (i := s) (b := c) hc (x % 2 ^ (32 - s))
  have hlt : x * 2 ^ s % 4294967296 < 4294967296 := Nat.mod_lt _ (by decide)
  have hb : x * 2 ^ s % 4294967296 ||| c < 2 ^ 32 := Nat.or_lt_two_pow (by omega) (by omega)
  have hx2 : x * 2 ^ s < 4294967296 * 2 ^ s := Nat.mul_lt_mul_of_pos_right hx (Nat.two_pow_pos s)
  refine ⟨?_, ?_, ?_, ?_⟩
  · rw [u32_or_nat _ _ (by omega) (by omega), Nat.or_comm, hm, ← hor, Nat.add_comm]
  · rw [hm, ← hor, ← hm] at hb; omega
  · exact Nat.div_lt_of_lt_mul hx2
  · omega

theorem up_wraps (c x s : Nat) (h : bits .or .u32 (c : Int) (((x * 2 ^ s % 4294967296 : Nat) : Int)) = ((c + x * 2 ^ s % 4294967296 : Nat) : Int)) (h4 : x * 2 ^ s < 9223372036854775808) :
    bits .or .u32 (c : Int) (IntKind.u64.wrap ((x : Int) * 2 ^ s) % 4294967296) = ((c + x * 2 ^ s % 4294967296 : Nat) : Int) ∧ IntKind.u64.wrap ((x : Int) * 2 ^ s) / 4294967296 % 4294967296 = ((x * 2 ^ s / 4294967296 : Nat) : Int) := by
  have e : (x : Int) * 2 ^ s = ((x * 2 ^ s : Nat) : Int) := by rw [Int.natCast_mul, Int.natCast_pow]; rfl
  have e2 : IntKind.u64.wrap ((x : Int) * 2 ^ s) = ((x * 2 ^ s : Nat) : Int) := by
    rw [e, IntKind.wrap_u64]; omega
  rw [e2]
  generalize x * 2 ^ s = y at h h4
  refine ⟨?_, by omega⟩
  rw [← h, show (((y % 4294967296 : Nat)) : Int) = (y : Int) % 4294967296 from by omega]

set_option maxHeartbeats 2000000 in
set_option maxRecDepth 100000 in
theorem movedUp_any (v : Value) (xs : List Int) (n : Nat) (w : World) (hx : Rd w v xs) (hlx : xs.length ≤ 1048576) (hn : n ≤ 1048576) :
    Calls Try.prog 52 #[v, .int .i64 n] w fun e w' => ∃ a c, e = .returned (.slice a (lim (val xs * 2 ^ n)).length c) ∧ Own w' w.heap.size (.slice a (lim (val xs * 2 ^ n)).length c) (lim (val xs * 2 ^ n)) ∧ Below w.heap.size w w' := by
  obtain ⟨a, cap, rfl, _, hzx, hnx, hcx⟩ := hx
  clear hnx
  have hT := fun B n' cp a W L (hO : Own W B (.slice a n' cp) L) (he : val L = val xs * 2 ^ n) => he ▸ trimmed_any B n' cp a L W hO
  have hE0 := shl_val (val xs) n
  generalize hQ : lim (val xs * 2 ^ n) = Q at hT ⊢
  clear hQ
  obtain ⟨q, hq⟩ : ∃ q, q = n / 32 := ⟨_, rfl⟩
  obtain ⟨s, hs⟩ : ∃ s, s = n % 32 := ⟨_, rfl⟩
  have hq' : (n : Int) / 32 = (q : Int) := by omega
  have hs' : (n : Int) % 32 = (s : Int) := by omega
  have hs32 : s < 32 := by omega
  have hq32 : q ≤ 1048576 := by omega
  rw [← hq, ← hs] at hE0
  have HE : Hid (4294967296 ^ q * (val xs * 2 ^ s) = val xs * 2 ^ n) := hE0
  clear hE0 hq hs
  obtain ⟨i0, hi, hz0, hz1, hz2⟩ := info_parts Try.info49
  go_enter Try.func52, Try.ntmps52
  go_wp2_with (at_make; refine wpList_make_full _ rfl _ _ 47 rfl w.heap.size 49 i0 (.int .u32 0) 1 Try.underlying47 hi hz0 hz1 .i64 .i64 _ _ (q + xs.length + 1) rfl rfl (by go_num) (by go_num) (by rw [hz2]; omega) (by unfold maxLen; omega) (Nat.le_refl _) ?_; intro w1 hown hgrow)
  have hO : Own w1 w.heap.size _ (List.replicate (q + xs.length + 1) 0) := Own.made (by omega) hown
  have hB : Below w.heap.size w w1 := (Below.refl _ _).grown hgrow (Nat.le_refl _) (by intro k h; cases h)
  clear hown hgrow hi hz0 hz1 hz2
  go_loopw [8, 9, 10, 23] (fun _ _ _ i wr => ∃ (k c : Nat) (Z : List Int), k ≤ xs.length ∧ i = .int .i64 k ∧ c < 2 ^ s ∧ Z.length = q + k ∧ Own wr w.heap.size (.slice (some ⟨w.heap.size, 0, none⟩) (q + xs.length + 1) (q + xs.length + 1)) (Z ++ (c : Int) :: List.replicate (xs.length - k) 0) ∧ val Z + 4294967296 ^ (q + k) * c = 4294967296 ^ q * val (xs.take k) * 2 ^ s ∧ Below w.heap.size w wr)
    (fun _ _ _ i _ => xs.length - (intOf i).toNat)
  case atStart =>
    refine ⟨0, 0, List.replicate q 0, Nat.zero_le _, rfl, Nat.two_pow_pos s, by simp, ?_, ?_, hB⟩
    · have e : List.replicate (q + xs.length + 1) (0 : Int) = List.replicate q 0 ++ ((0 : Nat) : Int) :: List.replicate (xs.length - 0) 0 := by
        rw [Nat.add_assoc, ← List.replicate_append_replicate, List.replicate_succ]; rfl
      rw [e] at hO; exact hO
    · have := val_zeros_append q []
      simp [val] at this ⊢
      exact this
  case round =>
    obtain ⟨k, c, Z, hk, rfl, hc1, hZl, hOw, hV, hBr⟩ := hrel
    clear hO hB
    by_cases hlt : k < xs.length
    · obtain ⟨b, off, rfl, hb, hcell⟩ := hcx (by omega)
      have hce : wr.cell? ⟨b, off + k, none⟩ = some (.int .u32 (xs.getD k 0)) := (hBr.cell (p := ⟨b, off + k, none⟩) hb).trans (hcell k hlt)
      have hSx := val_take_succ xs k
      have hXb := hzx.get k
      obtain ⟨X, hX⟩ : ∃ X : Nat, xs.getD k 0 = (X : Int) := ⟨(xs.getD k 0).toNat, by omega⟩
      rw [hX] at hXb hSx hce
      rw [Int.toNat_natCast] at hSx
      obtain ⟨ho1, ho2, ho3, ho4⟩ := or_up c X s hs32 hc1 (by omega)
      have HS : Hid (val (Z ++ [((c + X * 2 ^ s % 4294967296 : Nat) : Int)]) + 4294967296 ^ (q + (k + 1)) * (X * 2 ^ s / 4294967296) = 4294967296 ^ q * val (xs.take (k + 1)) * 2 ^ s) := by
        show _ = _
        have := up_step (D := c + X * 2 ^ s % 4294967296) (E := X * 2 ^ s / 4294967296) (X := X) hV (by omega)
        rw [val_append, hZl, ← Nat.add_assoc, Nat.pow_succ, Nat.mul_comm (4294967296 ^ (q + k)) 4294967296, hSx, Nat.mul_add, ← Nat.mul_assoc, ← Nat.pow_add, ← this]
        simp only [val, Int.toNat_natCast, Nat.mul_zero, Nat.add_zero]
      have hll : (Z ++ (c : Int) :: List.replicate (xs.length - k) 0).length = q + xs.length + 1 := by simp; omega
      have hck : wr.cell? ⟨w.heap.size, q + k, none⟩ = some (.int .u32 c) := by
        rw [hOw.cell (q + k) (by omega)]; simp [List.getD, ← hZl]
      obtain ⟨u1, hck1⟩ : ∃ u1, wr.cell? ⟨w.heap.size, q + k + 1, none⟩ = some u1 := ⟨_, hOw.cell (q + k + 1) (by omega)⟩
      have hf0 := hOw.frozen (q + k)
      have hf1 := hOw.frozen (q + k + 1)
      have hSt := (hOw.store (q + k) (z := ((c + X * 2 ^ s % 4294967296 : Nat) : Int)) (by omega) (by omega)).store (q + k + 1) (z := ((X * 2 ^ s / 4294967296 : Nat) : Int)) (by omega) (by omega)
      have hse := set_two Z c ((c + X * 2 ^ s % 4294967296 : Nat) : Int) ((X * 2 ^ s / 4294967296 : Nat) : Int) (xs.length - (k + 1))
      rw [hZl, show xs.length - (k + 1) + 1 = xs.length - k from by omega] at hse
      rw [hse] at hSt
      have HSt : Hid _ := hSt
      have EW : Hid _ := up_wraps c X s ho1 ho4
      have hi1 : (q : Int) + (k : Int) < (q : Int) + (xs.length : Int) + 1 := by omega
      have hi2 : (q : Int) + (k : Int) + 1 < (q : Int) + (xs.length : Int) + 1 := by omega
      have hi4 : (k : Int) < (xs.length : Int) := by omega
      have hi5 : ((q : Int) + (k : Int)).toNat = q + k := by omega
      have hi6 : ((q : Int) + (k : Int) + 1).toNat = q + k + 1 := by omega
      clear hse hV hSx hOw hcell hcx hT hSt hll ho1
      go_wp2
      rw [EW.out.1, EW.out.2]
      go_roundw
      case rel => exact ⟨k + 1, _, Z ++ [((c + X * 2 ^ s % 4294967296 : Nat) : Int)], by omega, by go_num, ho3, by simp [hZl, Nat.add_assoc], HSt.out, HS.out, (hBr.setCell (Nat.le_refl _) _).setCell (Nat.le_refl _) _⟩
      case measure => simp [intOf]; omega
    · have hkN : k = xs.length := by omega
      have hVE : val (Z ++ (c : Int) :: List.replicate (xs.length - k) 0) = val xs * 2 ^ n := by
        rw [List.take_of_length_le (by omega)] at hV
        rw [← HE.out, ← Nat.mul_assoc, ← hV, hkN, Nat.sub_self, val_append, hZl, hkN]
        simp [val]
      have hK := hT _ _ _ _ _ _ hOw hVE
      clear hVE hV hT hOw hcx
      go_wp2_with fail
      refine hK.mono ?_
      rintro e w2 ⟨a2, c2, rfl, hO2, rfl⟩
      clear hK
      go_wp2
      go_ret
      exact ⟨a2, c2, rfl, hO2, hBr⟩
end Go.Proofs.Ythgpacajeaphhaa

namespace Go.Proofs.Ythgpacajeaphhaa
open Go.RowKit
set_option linter.unusedVariables false
set_option linter.unusedSimpArgs false

theorem val_drop (xs : List Int) (k : Nat) : val xs = val (xs.take k) + 4294967296 ^ (xs.take k).length * val (xs.drop k) := by
  have := val_append (xs.take k) (xs.drop k)
  rwa [List.take_append_drop] at this
theorem drop_div {xs : List Int} (h : Limbs xs) (k : Nat) (hk : k ≤ xs.length) : val xs / 4294967296 ^ k = val (xs.drop k) := by
  have hd := val_drop xs k
  have hl : (xs.take k).length = k := by simp; omega
  have hlt := val_lt (h.take k)
  rw [hl] at hd hlt
  rw [hd, Nat.add_mul_div_left _ _ (Nat.pow_pos (by decide)), Nat.div_eq_of_lt hlt, Nat.zero_add]
theorem drop_cons_val (xs : List Int) (k : Nat) : val (xs.drop k) = (xs.getD k 0).toNat + 4294967296 * val (xs.drop (k + 1)) := by
  by_cases h : k < xs.length
  · rw [List.drop_eq_getElem_cons h]
    simp [val, List.getD, h]
  · rw [List.drop_eq_nil_of_le (by omega), List.drop_eq_nil_of_le (by omega)]
    have : xs[k]? = none := List.getElem?_eq_none (by omega)
    simp [val, List.getD, this]

theorem down_div (T2 a b s : Nat) (hs : s < 32) : (a + 4294967296 * (b + 4294967296 * T2)) / 2 ^ s % 4294967296 = (a + 4294967296 * b) / 2 ^ s % 4294967296 := by
  have e : a + 4294967296 * (b + 4294967296 * T2) = (a + 4294967296 * b) + 2 ^ s * (4294967296 * 2 ^ (32 - s) * T2) := by
    have h1 : (2 : Nat) ^ s * 2 ^ (32 - s) = 4294967296 := by rw [← Nat.pow_add, show s + (32 - s) = 32 from by omega]
    have h2 : 2 ^ s * (4294967296 * 2 ^ (32 - s) * T2) = 4294967296 * (4294967296 * T2) := by
      rw [← h1]; simp only [Nat.mul_assoc, Nat.mul_left_comm]
    rw [h2, Nat.mul_add]; omega
  rw [e, Nat.add_mul_div_left _ _ (Nat.two_pow_pos s), Nat.mul_assoc, Nat.add_mul_mod_self_left]

theorem or_wide (x y : Nat) (hx : x < 4294967296) (hy : y < 4294967296) : bits .or .u64 ((y : Int) * 4294967296) (x : Int) = ((x + 4294967296 * y : Nat) : Int) := by
  have e : (y : Int) * 4294967296 = ((2 ^ 32 * y : Nat) : Int) := by omega
  rw [e, u64_or_nat _ _ (by omega) (by omega), ← Nat.two_pow_add_eq_or_of_lt (by omega)]
  omega
/-- A limb of a number moved down. -/
theorem down_digit {xs : List Int} (h : Limbs xs) (q k s : Nat) (hq : q + k < xs.length) (hs : s < 32) :
    val (xs.drop q) / 2 ^ s / 4294967296 ^ k % 4294967296 = ((xs.getD (q + k) 0).toNat + 4294967296 * (xs.getD (q + k + 1) 0).toNat) / 2 ^ s % 4294967296 := by
  rw [Nat.div_div_eq_div_mul, Nat.mul_comm, ← Nat.div_div_eq_div_mul, drop_div (h.drop q) k (by simp; omega), List.drop_drop, drop_cons_val, drop_cons_val, down_div _ _ _ _ hs]

theorem down_end {xs : List Int} (h : Limbs xs) (q s n : Nat) (hq : q ≤ xs.length) (hn : n = 32 * q + s) : val (xs.drop q) / 2 ^ s = val xs / 2 ^ n := by
  rw [← drop_div h q hq, Nat.div_div_eq_div_mul, hn, Nat.pow_add, Nat.pow_mul, show (2 : Nat) ^ 32 = 4294967296 from by decide]
theorem down_small {xs : List Int} (h : Limbs xs) (n : Nat) (hq : xs.length ≤ n / 32) : val xs / 2 ^ n = 0 := by
  apply Nat.div_eq_of_lt
  refine Nat.lt_of_lt_of_le (val_lt h) ?_
  rw [show (4294967296 : Nat) = 2 ^ 32 from by decide, ← Nat.pow_mul]
  exact Nat.pow_le_pow_right (by decide) (by omega)

set_option maxHeartbeats 600000 in
set_option maxRecDepth 100000 in
theorem movedDown_any (v : Value) (xs : List Int) (n : Nat) (w : World) (hx : Rd w v xs) (hlx : xs.length ≤ 1048576) (hn : n ≤ 1048576) :
    Calls Try.prog 53 #[v, .int .i64 n] w fun e w' => ∃ a c, e = .returned (.slice a (lim (val xs / 2 ^ n)).length c) ∧ Own w' w.heap.size (.slice a (lim (val xs / 2 ^ n)).length c) (lim (val xs / 2 ^ n)) ∧ Below w.heap.size w w' := by
  have hx' := hx
  obtain ⟨a, cap, rfl, _, hzx, hnx, hcx⟩ := hx
  clear hnx
  obtain ⟨q, hq⟩ : ∃ q, q = n / 32 := ⟨_, rfl⟩
  obtain ⟨s, hs⟩ : ∃ s, s = n % 32 := ⟨_, rfl⟩
  have hq' : (n : Int) / 32 = (q : Int) := by omega
  have hs' : (n : Int) % 32 = (s : Int) := by omega
  have hs32 : s < 32 := by omega
  have hq32 : q ≤ 1048576 := by omega
  have hnq : n = 32 * q + s := by omega
  by_cases hql : xs.length ≤ q
  · have e0 := down_small hzx n (by omega)
    rw [e0, lim_zero]
    clear hcx hnq hq hs e0
    have hi : (xs.length : Int) ≤ (q : Int) := by omega
    go_enter Try.func53, Try.ntmps53
    go_wp2
    go_ret
    exact ⟨_, _, rfl, Own.nil _ _, Below.refl _ _⟩
  · have hT := fun B n' cp a W L (hO : Own W B (.slice a n' cp) L) (he : val L = val xs / 2 ^ n) => he ▸ trimmed_any B n' cp a L W hO
    have hE0 := down_end hzx q s n (by omega) hnq
    generalize hQ : lim (val xs / 2 ^ n) = Q at hT ⊢
    have HE : Hid (val (xs.drop q) / 2 ^ s = val xs / 2 ^ n) := hE0
    clear hE0 hq hs hnq hQ
    obtain ⟨m, hm0⟩ : ∃ m, xs.length = q + m := ⟨xs.length - q, by omega⟩
    have Hm : Hid (xs.length = q + m) := hm0
    have hml : m ≤ 1048576 := by omega
    have hi8 : (xs.length : Int) - (q : Int) = (m : Int) := by omega
    clear hm0
    obtain ⟨i0, hi, hz0, hz1, hz2⟩ := info_parts Try.info49
    have hi7 : (q : Int) < (xs.length : Int) := by omega
    go_enter Try.func53, Try.ntmps53
    go_wp2_with (at_make; refine wpList_make_full _ rfl _ _ 47 rfl w.heap.size 49 i0 (.int .u32 0) 1 Try.underlying47 hi hz0 hz1 .i64 .i64 _ _ m rfl rfl (by go_num) (by go_num) (by rw [hz2]; omega) (by unfold maxLen; omega) (Nat.le_refl _) ?_; intro w1 hown hgrow)
    have hO : Own w1 w.heap.size _ (List.replicate m 0) := Own.made (by omega) hown
    have hB : Below w.heap.size w w1 := (Below.refl _ _).grown hgrow (Nat.le_refl _) (by intro k h; cases h)
    clear hown hgrow hi hz0 hz1 hz2
    go_loopw [8, 9, 25] (fun _ _ i wr => ∃ (k : Nat) (O : List Int), k ≤ m ∧ i = .int .i64 k ∧ O.length = k ∧ Own wr w.heap.size (.slice (some ⟨w.heap.size, 0, none⟩) m m) (O ++ List.replicate (m - k) 0) ∧ val O = val (xs.drop q) / 2 ^ s % 4294967296 ^ k ∧ Below w.heap.size w wr)
      (fun _ _ i _ => m - (intOf i).toNat)
    case atStart => exact ⟨0, [], Nat.zero_le _, rfl, rfl, by simpa using hO, by simp [val, Nat.mod_one], hB⟩
    case round =>
      obtain ⟨k, O, hk, rfl, hOl, hOw, hV, hBr⟩ := hrel
      clear hO hB
      have hm := Hm.out
      by_cases hlt : k < m
      · obtain ⟨b, off, rfl, hb, hcell⟩ := hcx (by omega)
        have hce : wr.cell? ⟨b, off + (q + k), none⟩ = some (.int .u32 (xs.getD (q + k) 0)) := (hBr.cell (p := ⟨b, off + (q + k), none⟩) hb).trans (hcell (q + k) (by omega))
        have hat := at_any _ xs (q + k + 1) wr.drew (hx'.keep hBr.drew) (by omega)
        have hXb := hzx.get (q + k)
        have hYb := hzx.get (q + k + 1)
        have hdg := down_digit hzx q k s (by omega) hs32
        have hms := Nat.mod_pow_succ (x := val (xs.drop q) / 2 ^ s) (b := 4294967296) (k := k)
        rw [hdg, ← hV] at hms
        obtain ⟨X, hX⟩ : ∃ X : Nat, xs.getD (q + k) 0 = (X : Int) := ⟨(xs.getD (q + k) 0).toNat, by omega⟩
        obtain ⟨Y, hY⟩ : ∃ Y : Nat, xs.getD (q + k + 1) 0 = (Y : Int) := ⟨(xs.getD (q + k + 1) 0).toNat, by omega⟩
        rw [hX] at hXb hce hms
        rw [hY] at hYb hat hms
        simp only [Int.toNat_natCast] at hms
        obtain ⟨D, hD⟩ : ∃ D, D = (X + 4294967296 * Y) / 2 ^ s % 4294967296 := ⟨_, rfl⟩
        rw [← hD] at hms
        have hD1 : D < 4294967296 := by rw [hD]; exact Nat.mod_lt _ (by decide)
        have HS : Hid (val (O ++ [(D : Int)]) = val (xs.drop q) / 2 ^ s % 4294967296 ^ (k + 1)) := by
          show _ = _
          rw [hms, val_append, hOl]
          simp only [val, Int.toNat_natCast, Nat.mul_zero, Nat.add_zero]
        obtain ⟨u1, hck1⟩ : ∃ u1, wr.cell? ⟨w.heap.size, k, none⟩ = some u1 := ⟨_, hOw.cell k (by simp; omega)⟩
        have hf0 := hOw.frozen k
        have hSt := hOw.store k (z := (D : Int)) (by omega) (by omega)
        have hse := set_one O (D : Int) (m - (k + 1))
        rw [hOl, show m - (k + 1) + 1 = m - k from by omega] at hse
        rw [hse] at hSt
        have HSt : Hid _ := hSt
        have hi1 : (q : Int) + (k : Int) < (xs.length : Int) := by omega
        have hi4 : (k : Int) < (m : Int) := by omega
        have hi5 : ((q : Int) + (k : Int)).toNat = q + k := by omega
        rw [show (((q + k + 1 : Nat)) : Int) = (q : Int) + (k : Int) + 1 from by omega] at hat
        have hi10 : IntKind.i64.wrap ((q : Int) + (k : Int)) = (q : Int) + (k : Int) := by simp [IntKind.wrap, IntKind.bits, IntKind.signed]; omega
        have hi11 : IntKind.i64.wrap ((q : Int) + (k : Int) + 1) = (q : Int) + (k : Int) + 1 := by simp [IntKind.wrap, IntKind.bits, IntKind.signed]; omega
        clear hse hV hOw hcell hcx hT hSt hms hdg hx' hX hY hm
        obtain ⟨T, hT1⟩ : ∃ T, T = X + 4294967296 * Y := ⟨_, rfl⟩
        have hy1 : IntKind.u64.wrap (Y : Int) = (Y : Int) := by rw [IntKind.wrap_u64]; omega
        have hx1 : IntKind.u64.wrap (X : Int) = (X : Int) := by rw [IntKind.wrap_u64]; omega
        have hy2 : IntKind.u64.wrap ((Y : Int) * 4294967296) = (Y : Int) * 4294967296 := by rw [IntKind.wrap_u64]; omega
        have hor : bits .or .u64 ((Y : Int) * 4294967296) (X : Int) = (T : Int) := by rw [hT1]; exact or_wide X Y (by omega) (by omega)
        have hDv : (T : Int) / 2 ^ s % 4294967296 = (D : Int) := by
          rw [hD, ← hT1]
          have e : (2 : Int) ^ s = ((2 ^ s : Nat) : Int) := by rw [Int.natCast_pow]; rfl
          rw [e]
          generalize 2 ^ s = p
          omega
        clear hD hT1
        go_wp2_with fail
        go_region_with (go_at_call 70; refine hat.mono ?_; rintro e w2 ⟨rfl, rfl⟩)
        all_goals go_wp2
        all_goals go_roundw
        all_goals first | exact ⟨k + 1, O ++ [(D : Int)], by omega, by go_num, by simp [hOl], Own.drew HSt.out, HS.out, (hBr.setCell (Nat.le_refl _) _).drew⟩ | (simp [intOf]; omega)
      · have hkN : k = m := by omega
        have hVE : val (O ++ List.replicate (m - k) 0) = val xs / 2 ^ n := by
          rw [hkN, Nat.sub_self, List.replicate_zero, List.append_nil, hV, ← HE.out, hkN]
          apply Nat.mod_eq_of_lt
          have h1 := val_lt (hzx.drop q)
          rw [List.length_drop, hm, Nat.add_sub_cancel_left] at h1
          exact Nat.lt_of_le_of_lt (Nat.div_le_self _ _) h1
        have hK := hT _ _ _ _ _ _ hOw hVE
        clear hVE hV hT hOw hcx hm
        go_wp2_with fail
        refine hK.mono ?_
        rintro e w2 ⟨a2, c2, rfl, hO2, rfl⟩
        clear hK
        go_wp2
        go_ret
        exact ⟨a2, c2, rfl, hO2, hBr⟩
end Go.Proofs.Ythgpacajeaphhaa

namespace Go.Proofs.Ythgpacajeaphhaa
open Go.RowKit
set_option linter.unusedVariables false
set_option linter.unusedSimpArgs false

theorem limb_at {xs : List Int} (h : Limbs xs) (k : Nat) (hk : k < xs.length) : (xs.getD k 0).toNat = val xs / 4294967296 ^ k % 4294967296 := by
  rw [drop_div h k (by omega), drop_cons_val]
  have := h.get k
  omega

/-- A binary digit of a number. -/
theorem bit_of {xs : List Int} (h : Limbs xs) (i : Nat) (hk : i / 32 < xs.length) : val xs / 2 ^ i % 2 = (xs.getD (i / 32) 0).toNat / 2 ^ (i % 32) % 2 := by
  have e : (2 : Nat) ^ i = 4294967296 ^ (i / 32) * 2 ^ (i % 32) := by
    rw [show (4294967296 : Nat) = 2 ^ 32 from by decide, ← Nat.pow_mul, ← Nat.pow_add]
    congr 1; omega
  rw [e, ← Nat.div_div_eq_div_mul, drop_div h _ (by omega), drop_cons_val]
  generalize (xs.getD (i / 32) 0).toNat = z
  generalize val (xs.drop (i / 32 + 1)) = T
  have hs : i % 32 < 32 := Nat.mod_lt _ (by decide)
  generalize i % 32 = s at hs
  have h1 : (4294967296 : Nat) = 2 ^ s * (2 * 2 ^ (31 - s)) := by
    rw [show (2 : Nat) * 2 ^ (31 - s) = 2 ^ (32 - s) from by rw [← Nat.pow_succ']; congr 1; omega, ← Nat.pow_add, show s + (32 - s) = 32 from by omega]
  rw [h1, Nat.mul_assoc, Nat.add_mul_div_left _ _ (Nat.two_pow_pos s), Nat.mul_assoc, Nat.add_mul_mod_self_left]
theorem bit_beyond {xs : List Int} (h : Limbs xs) (i : Nat) (hk : xs.length ≤ i / 32) : val xs / 2 ^ i % 2 = 0 := by
  rw [down_small h i hk]
theorem and_one (n : Nat) (hn : n < 4294967296) : bits .and .u32 (n : Int) 1 = ((n % 2 : Nat) : Int) := by
  have := u32_and_nat n 1 hn (by decide)
  rw [Nat.and_one_is_mod] at this
  exact this

set_option maxRecDepth 100000 in
theorem bitMag_any (v : Value) (xs : List Int) (i : Nat) (w : World) (hx : Rd w v xs) (hi : i ≤ 1099511627776) :
    Calls Try.prog 73 #[v, .int .i64 i] w fun e w' => e = .returned (.int .u32 ((val xs / 2 ^ i % 2 : Nat) : Int)) ∧ w' = w := by
  obtain ⟨a, cap, rfl, hl, hzx, hnx, hcx⟩ := hx
  clear hnx
  obtain ⟨q, hq⟩ : ∃ q, q = i / 32 := ⟨_, rfl⟩
  obtain ⟨s, hs⟩ : ∃ s, s = i % 32 := ⟨_, rfl⟩
  have hq' : (i : Int) / 32 = (q : Int) := by omega
  have hs' : (i : Int) % 32 = (s : Int) := by omega
  by_cases hql : xs.length ≤ q
  · rw [bit_beyond hzx i (by omega)]
    clear hcx hq hs
    have h2 : (xs.length : Int) ≤ (q : Int) := by omega
    go_enter Try.func73, Try.ntmps73
    go_wp2
    go_ret
    exact ⟨rfl, rfl⟩
  · obtain ⟨b, off, rfl, hb, hcell⟩ := hcx (by omega)
    have hce : w.cell? ⟨b, off + q, none⟩ = some (.int .u32 (xs.getD q 0)) := hcell q (by omega)
    have hB := bit_of hzx i (by omega)
    rw [← hq, ← hs] at hB
    have hXb := hzx.get q
    obtain ⟨X, hX⟩ : ∃ X : Nat, xs.getD q 0 = (X : Int) := ⟨(xs.getD q 0).toNat, by omega⟩
    rw [hX] at hB hce hXb
    rw [Int.toNat_natCast] at hB
    rw [hB]
    have hlt : X / 2 ^ s < 4294967296 := Nat.lt_of_le_of_lt (Nat.div_le_self _ _) (by omega)
    have e1 : (X : Int) / 2 ^ s = ((X / 2 ^ s : Nat) : Int) := by rw [Int.natCast_ediv, Int.natCast_pow]; rfl
    obtain ⟨Y, hY⟩ : ∃ Y, Y = X / 2 ^ s := ⟨_, rfl⟩
    rw [← hY] at hlt e1 ⊢
    have h1 := and_one Y hlt
    obtain ⟨Z, hZ⟩ : ∃ Z, Z = Y % 2 := ⟨_, rfl⟩
    rw [← hZ] at h1 ⊢
    have h2 : (q : Int) < (xs.length : Int) := by omega
    have h3 : s < 32 := by omega
    clear hcell hcx hB hX hq hs hY hZ
    go_enter Try.func73, Try.ntmps73
    go_wp2
    go_ret
    exact ⟨rfl, rfl⟩

/-- A binary digit laid where there is none. -/
theorem val_set (zs : List Int) (k : Nat) (z : Int) (t : Nat) (hk : k < zs.length) (hz : z = zs.getD k 0 + t) (h0 : 0 ≤ zs.getD k 0) : val (zs.set k z) = val zs + 4294967296 ^ k * t := by
  have h1 := val_split zs k hk
  have h2 := val_split (zs.set k z) k (by simpa using hk)
  rw [take_set_lt, getD_set_self _ _ _ hk, List.drop_set_of_lt (by omega)] at h2
  rw [h2, h1, hz, show (zs.getD k 0 + (t : Int)).toNat = (zs.getD k 0).toNat + t from by omega]
  generalize val (zs.drop (k + 1)) = D
  rw [show (zs.getD k 0).toNat + t + 4294967296 * D = ((zs.getD k 0).toNat + 4294967296 * D) + t from by omega, Nat.mul_add]
  omega
end Go.Proofs.Ythgpacajeaphhaa

namespace Go.Proofs.Ythgpacajeaphhaa
open Go.RowKit
set_option linter.unusedVariables false
set_option linter.unusedSimpArgs false

theorem map_splice (xs : List Int) (n : Nat) (h : xs.length ≤ n) : splice ((List.replicate n (0 : Int)).map (Value.int .u32)) 0 (xs.map (Value.int .u32)) = (xs ++ List.replicate (n - xs.length) 0).map (Value.int .u32) := by
  unfold splice
  simp
theorem val_zeros (n : Nat) : val (List.replicate n 0) = 0 := by
  induction n with
  | zero => rfl
  | succ n ih => rw [List.replicate_succ]; simp [val, ih]

theorem Rd.src {w : World} {a : Option Addr} {n cap : Nat} {zs : List Int} (h : Rd w (.slice a n cap) zs) (h0 : 0 < (zs.map (Value.int .u32)).length) : ∃ ad, a = some ad ∧ ∀ j v, (zs.map (Value.int .u32))[j]? = some v → w.cell? (ad.add j) = some v := by
  obtain ⟨a', cap', hv, hl, hz, hn, hc⟩ := h
  simp at hv
  obtain ⟨rfl, rfl, rfl⟩ := hv
  obtain ⟨b, off, rfl, hb, hcell⟩ := hc (by simpa using h0)
  refine ⟨_, rfl, fun j v hj => ?_⟩
  have hjl : j < zs.length := by
    rcases Nat.lt_or_ge j zs.length with h1 | h1
    · exact h1
    · rw [List.getElem?_eq_none (by simpa using h1)] at hj; cases hj
  have := hcell j hjl
  simp [hjl] at hj
  rw [← hj]
  have e : (⟨b, off, none⟩ : Addr).add j = ⟨b, off + j, none⟩ := by
    unfold Addr.add
    by_cases h : j = 0
    · simp [h]
    · simp [h]
  rw [e]
  simpa [List.getD, hjl] using this

theorem Own.row {w : World} {B g n : Nat} {zs : List Int} (h : Own w B (.slice (some ⟨g, 0, none⟩) n n) zs) : w.heap[g]? = some (.cells (zs.map (Value.int .u32)).toArray 49 (0, 0)) ∧ B ≤ g := by
  have hn := h.len
  obtain ⟨⟨h1, h2⟩, hl, hz⟩ := h
  rcases h2 with ⟨h', _⟩ | ⟨g', cap', cur, hv, hg, hh, hc1, hc2, hs, ht⟩
  · cases h'
  · simp at hv
    obtain ⟨rfl, e1, rfl⟩ := hv
    refine ⟨?_, hg⟩
    rw [hh]
    have e2 : cur.toList = zs.map (Value.int .u32) := by
      rw [← ht, List.take_of_length_le]
      rw [Array.length_toList, hs]; omega
    rw [← e2]
theorem Own.ofRow {w : World} {B g : Nat} {zs : List Int} (hg : w.heap[g]? = some (.cells (zs.map (Value.int .u32)).toArray 49 (0, 0))) (hB : B ≤ g) (hl : zs.length ≤ 16777216) (hz : Limbs zs) : Own w B (.slice (some ⟨g, 0, none⟩) zs.length zs.length) zs := by
  refine ⟨⟨by simp, .inr ⟨g, zs.length, (zs.map (Value.int .u32)).toArray, rfl, hB, hg, Nat.le_refl _, by unfold maxLen; omega, by simp, ?_⟩⟩, hl, hz⟩
  rw [List.take_of_length_le (by simp)]
end Go.Proofs.Ythgpacajeaphhaa

namespace Go.Proofs.Ythgpacajeaphhaa
open Go.RowKit
theorem Unf.set {w : World} {b : Nat} (h : Unf w b) (a : Addr) (u : Value) : Unf (w.setCell a u) b := ⟨by simpa [World.setCell] using h.1, fun o => (World.frozen?_setCell _ _ _ _).trans (h.2 o)⟩
theorem Box.setOther {w : World} {b c : Nat} {x y : Value} (h : Box w b x y) (hne : ¬ b = c) (o : Nat) (u : Value) : Box (w.setCell ⟨c, o, none⟩ u) b x y := h.but (gb_set w c o u) (fun e => hne (by simpa using e))
end Go.Proofs.Ythgpacajeaphhaa
