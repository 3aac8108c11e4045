import Derived.Test.YtahcpgldpbejiaaGreatDoorMzA
import Derived.Laws.MathBits
import Derived.Deep.RegionHeld3
import Derived.Laws.BitsAllLaws
namespace Go.Proofs.YtahcpgldpbejiaaGreatDoor.Z
open Go.RowKit
set_option linter.unusedVariables false
set_option linter.unusedSimpArgs false

theorem top_bit {n : Nat} (h : n < 4294967296) : n / 2147483648 = if n.testBit 31 then 1 else 0 := by
  rw [Nat.testBit_eq_decide_div_mod_eq]
  have : n / 2147483648 = 0 ∨ n / 2147483648 = 1 := by omega
  rcases this with h1 | h1
  · rw [show (2 : Nat) ^ 31 = 2147483648 from by decide, h1]; rfl
  · rw [show (2 : Nat) ^ 31 = 2147483648 from by decide, h1]; rfl
theorem top_lt {n : Nat} (h : n < 4294967296) : n.testBit 31 = decide (2147483648 ≤ n) := by
  rw [Nat.testBit_eq_decide_div_mod_eq, show (2 : Nat) ^ 31 = 2147483648 from by decide]
  by_cases h1 : 2147483648 ≤ n
  · rw [decide_eq_true h1, decide_eq_true (by omega)]
  · rw [decide_eq_false h1, decide_eq_false (by omega)]
theorem lt32 {n : Nat} (h : n < 2 ^ 32) : n < 4294967296 := h

theorem borrow_nat (X Y D : Nat) (hX : X < 4294967296) (hY : Y < 4294967296) (hD : D < 4294967296) :
    ((((4294967295 ^^^ X) &&& Y) ||| ((4294967295 ^^^ (X ^^^ Y)) &&& D)) / 2147483648 : Nat) =
      if ((!decide (2147483648 ≤ X)) && decide (2147483648 ≤ Y)) || ((decide (2147483648 ≤ X) == decide (2147483648 ≤ Y)) && decide (2147483648 ≤ D)) then 1 else 0 := by
  have h1 : ((4294967295 ^^^ X) &&& Y) < 2 ^ 32 := Nat.lt_of_le_of_lt Nat.and_le_right hY
  have h2 : ((4294967295 ^^^ (X ^^^ Y)) &&& D) < 2 ^ 32 := Nat.lt_of_le_of_lt Nat.and_le_right hD
  have h3 := Nat.or_lt_two_pow h1 h2
  rw [top_bit (lt32 h3)]
  congr 1
  simp only [Nat.testBit_or, Nat.testBit_and, Nat.testBit_xor, top_lt hX, top_lt hY, top_lt hD, show Nat.testBit 4294967295 31 = true from by decide]
  cases decide (2147483648 ≤ X) <;> cases decide (2147483648 ≤ Y) <;> cases decide (2147483648 ≤ D) <;> rfl

theorem u32_max : IntKind.u32.max = 4294967295 := rfl
theorem borrow_int (x y d : Int) (hx : 0 ≤ x ∧ x < 4294967296) (hy : 0 ≤ y ∧ y < 4294967296) (hd : 0 ≤ d ∧ d < 4294967296) :
    bits .or .u32 (bits .and .u32 (bits .xor .u32 IntKind.u32.max x) y) (bits .and .u32 (bits .xor .u32 IntKind.u32.max (bits .xor .u32 x y)) d) / 2147483648 =
      if ((!decide (2147483648 ≤ x)) && decide (2147483648 ≤ y)) || ((decide (2147483648 ≤ x) == decide (2147483648 ≤ y)) && decide (2147483648 ≤ d)) then 1 else 0 := by
  obtain ⟨X, rfl⟩ : ∃ n : Nat, x = n := ⟨x.toNat, by omega⟩
  obtain ⟨Y, rfl⟩ : ∃ n : Nat, y = n := ⟨y.toNat, by omega⟩
  obtain ⟨D, rfl⟩ : ∃ n : Nat, d = n := ⟨d.toNat, by omega⟩
  have hX : X < 4294967296 := by omega
  have hY : Y < 4294967296 := by omega
  have hD : D < 4294967296 := by omega
  have m : (4294967295 : Int) = ((4294967295 : Nat) : Int) := rfl
  have b1 : (4294967295 ^^^ X) < 4294967296 := lt32 (Nat.xor_lt_two_pow (by decide) hX)
  have b2 : (X ^^^ Y) < 4294967296 := lt32 (Nat.xor_lt_two_pow hX hY)
  have b3 : (4294967295 ^^^ (X ^^^ Y)) < 4294967296 := lt32 (Nat.xor_lt_two_pow (by decide) b2)
  have b4 : ((4294967295 ^^^ X) &&& Y) < 4294967296 := Nat.lt_of_le_of_lt Nat.and_le_right hY
  have b5 : ((4294967295 ^^^ (X ^^^ Y)) &&& D) < 4294967296 := Nat.lt_of_le_of_lt Nat.and_le_right hD
  rw [u32_max, m, u32_xor_nat _ _ (by decide) hX, u32_and_nat _ _ b1 hY, u32_xor_nat _ _ hX hY, u32_xor_nat _ _ (by decide) b2, u32_and_nat _ _ b3 hD, u32_or_nat _ _ b4 b5]
  have := borrow_nat X Y D hX hY hD
  have e1 : decide ((2147483648 : Int) ≤ X) = decide (2147483648 ≤ X) := by
    by_cases h : 2147483648 ≤ X
    · rw [decide_eq_true h, decide_eq_true (by omega)]
    · rw [decide_eq_false h, decide_eq_false (by omega)]
  have e2 : decide ((2147483648 : Int) ≤ Y) = decide (2147483648 ≤ Y) := by
    by_cases h : 2147483648 ≤ Y
    · rw [decide_eq_true h, decide_eq_true (by omega)]
    · rw [decide_eq_false h, decide_eq_false (by omega)]
  have e3 : decide ((2147483648 : Int) ≤ D) = decide (2147483648 ≤ D) := by
    by_cases h : 2147483648 ≤ D
    · rw [decide_eq_true h, decide_eq_true (by omega)]
    · rw [decide_eq_false h, decide_eq_false (by omega)]
  rw [e1, e2, e3]
  split at this <;> rename_i h
  · rw [if_pos h]; omega
  · rw [if_neg h]; omega

theorem borrow_of (x y c : Int) (hx : 0 ≤ x ∧ x < 4294967296) (hy : 0 ≤ y ∧ y < 4294967296) (hc : 0 ≤ c ∧ c ≤ 1) :
    bits .or .u32 (bits .and .u32 (bits .xor .u32 IntKind.u32.max x) y) (bits .and .u32 (bits .xor .u32 IntKind.u32.max (bits .xor .u32 x y)) ((x - y - c) % 4294967296)) / 2147483648 =
      if x < y + c then 1 else 0 := by
  rw [borrow_int x y _ hx hy (by omega)]
  by_cases hx1 : 2147483648 ≤ x <;> by_cases hy1 : 2147483648 ≤ y <;> by_cases hd1 : 2147483648 ≤ (x - y - c) % 4294967296 <;> simp [hx1, hy1, hd1] <;> omega

end Go.Proofs.YtahcpgldpbejiaaGreatDoor.Z

namespace Go.Proofs.YtahcpgldpbejiaaGreatDoor.Z
open Go.RowKit
set_option linter.unusedVariables false
set_option linter.unusedSimpArgs false

theorem set_two (O : List Int) (c d e : Int) (m : Nat) : ((O ++ c :: List.replicate (m + 1) 0).set O.length d).set (O.length + 1) e = (O ++ [d]) ++ e :: List.replicate m 0 := by
  rw [List.set_append_right _ _ (Nat.le_refl _), Nat.sub_self, List.set_cons_zero, List.set_append_right _ _ (by omega)]
  simp [List.replicate_succ]

end Go.Proofs.YtahcpgldpbejiaaGreatDoor.Z

namespace Go.Proofs.YtahcpgldpbejiaaGreatDoor.Z
open Go.RowKit
set_option linter.unusedVariables false
set_option linter.unusedSimpArgs false

theorem take_set_lt (P : List Int) (i : Nat) (d : Int) : (P.set i d).take i = P.take i := by
  apply List.ext_getElem?
  intro j
  rw [List.getElem?_take, List.getElem?_take]
  split
  · rw [List.getElem?_set_ne (by omega)]
  · rfl
theorem getD_set_self (P : List Int) (i : Nat) (d : Int) (h : i < P.length) : (P.set i d).getD i 0 = d := by simp [List.getD, h]
theorem getD_set_ne (P : List Int) (i j : Nat) (d : Int) (h : ¬ i = j) : (P.set i d).getD j 0 = P.getD j 0 := by simp [List.getD, List.getElem?_set_ne h]
/-- The value of the first limbs behind a store at their end. -/
theorem val_set_take (P : List Int) (i : Nat) (d : Int) (h : i < P.length) : val ((P.set i d).take (i + 1)) = val (P.take i) + 4294967296 ^ i * d.toNat := by
  rw [val_take_succ, take_set_lt, getD_set_self P i d h]

/-- One step of the inner loop of a product. -/
theorem mul_step {VP VO Pk Pj X Y c o d e T : Nat} (h : VP + Pk * Pj * c = VO + Pk * X * T) (hd : d + 4294967296 * e = X * Y + o + c) :
    VP + Pk * Pj * d + Pk * (4294967296 * Pj) * e = VO + Pk * Pj * o + Pk * X * (T + Pj * Y) := by
  have h1 : Pk * Pj * (d + 4294967296 * e) = Pk * Pj * (X * Y + o + c) := by rw [hd]
  have h2 : Pk * Pj * (d + 4294967296 * e) = Pk * Pj * d + Pk * (4294967296 * Pj) * e := by
    rw [Nat.mul_add]; congr 1; rw [← Nat.mul_assoc, Nat.mul_assoc Pk Pj 4294967296, Nat.mul_comm Pj 4294967296]
  have h3 : Pk * Pj * (X * Y + o + c) = Pk * X * (Pj * Y) + Pk * Pj * o + Pk * Pj * c := by
    rw [Nat.mul_add, Nat.mul_add]; congr 2
    rw [Nat.mul_assoc, Nat.mul_assoc]; congr 1
    rw [← Nat.mul_assoc, ← Nat.mul_assoc, Nat.mul_comm Pj X]
  have h4 : Pk * X * (T + Pj * Y) = Pk * X * T + Pk * X * (Pj * Y) := Nat.mul_add _ _ _
  omega

/-- The state of the inner loop: what has been written agrees with the sum so far. -/
def Inner (O P xs ys : List Int) (X : Nat) (k j c : Nat) : Prop :=
  P.length = O.length ∧ (∀ i, k + j ≤ i → P.getD i 0 = O.getD i 0) ∧ val (P.take (k + j)) + 4294967296 ^ k * 4294967296 ^ j * c = val (O.take (k + j)) + 4294967296 ^ k * X * val (ys.take j) ∧ c < 4294967296

theorem Inner.step {O P xs ys : List Int} {X k j c d e : Nat} (h : Inner O P xs ys X k j c) (hlen : k + j < O.length) (hd : d + 4294967296 * e = X * (ys.getD j 0).toNat + (O.getD (k + j) 0).toNat + c) (he : e < 4294967296) :
    Inner O (P.set (k + j) (d : Int)) xs ys X k (j + 1) e := by
  obtain ⟨h1, h2, h3, h4⟩ := h
  refine ⟨by rw [List.length_set]; exact h1, fun i hi => ?_, ?_, he⟩
  · rw [getD_set_ne _ _ _ _ (by omega)]; exact h2 i (by omega)
  · rw [← Nat.add_assoc, val_set_take _ _ _ (by omega), val_take_succ O, val_take_succ ys, Nat.pow_add, Int.toNat_natCast, Nat.pow_succ, Nat.mul_comm (4294967296 ^ j) 4294967296]
    exact mul_step h3 hd

/-- The state of the outer loop. -/
def Outer (O xs ys : List Int) (k : Nat) : Prop :=
  O.length = xs.length + ys.length ∧ (∀ i, k + ys.length ≤ i → O.getD i 0 = 0) ∧ val (O.take (k + ys.length)) = val (xs.take k) * val ys

theorem Outer.begin (xs ys : List Int) : Outer (List.replicate (xs.length + ys.length) 0) xs ys 0 := by
  have hz : ∀ (n j : Nat), (List.replicate n (0 : Int)).getD j 0 = 0 := fun n j => by
    simp [List.getD, List.getElem?_replicate]; split <;> rfl
  refine ⟨by simp, fun i _ => hz _ i, ?_⟩
  rw [List.take_zero]
  have : val ((List.replicate (xs.length + ys.length) (0 : Int)).take (0 + ys.length)) = 0 := by
    rw [List.take_replicate]; exact val_zero_of (fun j => hz _ j)
  rw [this]; simp [val]

theorem Inner.begin {O xs ys : List Int} {k : Nat} (X : Nat) : Inner O O xs ys X k 0 0 := ⟨rfl, fun _ _ => rfl, by simp [val], by omega⟩

theorem Outer.next {O P xs ys : List Int} {k c : Nat} (h : Outer O xs ys k) (hk : k < xs.length) (hi : Inner O P xs ys (xs.getD k 0).toNat k ys.length c) :
    Outer (P.set (k + ys.length) (c : Int)) xs ys (k + 1) := by
  obtain ⟨h1, h2, h3⟩ := h
  obtain ⟨i1, i2, i3, i4⟩ := hi
  refine ⟨by rw [List.length_set, i1, h1], fun i hi => ?_, ?_⟩
  · rw [getD_set_ne _ _ _ _ (by omega), i2 i (by omega)]; exact h2 i (by omega)
  · have e : k + 1 + ys.length = (k + ys.length) + 1 := by omega
    rw [e, val_set_take _ _ _ (by omega), Int.toNat_natCast, Nat.pow_add, i3, h3, List.take_of_length_le (Nat.le_refl ys.length), val_take_succ xs k, Nat.add_mul]

theorem Outer.done {O xs ys : List Int} (h : Outer O xs ys xs.length) : val O = val xs * val ys := by
  obtain ⟨h1, h2, h3⟩ := h
  rw [List.take_of_length_le (by omega), List.take_of_length_le (Nat.le_refl _)] at h3
  exact h3
end Go.Proofs.YtahcpgldpbejiaaGreatDoor.Z

namespace Go.Proofs.YtahcpgldpbejiaaGreatDoor.Z
open Go.RowKit
set_option linter.unusedVariables false
set_option linter.unusedSimpArgs false

theorem val_zeros_append (k : Nat) (ys : List Int) : val (List.replicate k 0 ++ ys) = 4294967296 ^ k * val ys := by
  rw [val_append, val_zero_of (by intro j; simp [List.getD, List.getElem?_replicate]; split <;> rfl)]; simp
theorem shl_val (m n : Nat) : 4294967296 ^ (n / 32) * (m * 2 ^ (n % 32)) = m * 2 ^ n := by
  have : (2 : Nat) ^ n = 2 ^ (32 * (n / 32)) * 2 ^ (n % 32) := by rw [← Nat.pow_add]; congr 1; omega
  rw [this, Nat.pow_mul, show (2 : Nat) ^ 32 = 4294967296 from by decide]
  rw [← Nat.mul_assoc, ← Nat.mul_assoc, Nat.mul_comm m]
theorem pow_mod32 (n : Nat) : 1 ≤ 2 ^ (n % 32) ∧ 2 ^ (n % 32) < 4294967296 := by
  have : (2 : Nat) ^ (n % 32) ≤ 2 ^ 31 := Nat.pow_le_pow_right (by decide) (by omega)
  have h2 : (2 : Nat) ^ 31 = 2147483648 := by decide
  have h3 := Nat.two_pow_pos (n % 32)
  omega

theorem pow_wrap (n : Nat) : ((2 : Int) ^ (n % 32) % 4294967296) = ((2 ^ (n % 32) : Nat) : Int) := by
  have h := pow_mod32 n
  have e : ((2 ^ (n % 32) : Nat) : Int) = (2 : Int) ^ (n % 32) := Int.natCast_pow 2 _
  rw [← e]
  generalize (2 : Nat) ^ (n % 32) = p at h
  omega

end Go.Proofs.YtahcpgldpbejiaaGreatDoor.Z

namespace Go.Proofs.YtahcpgldpbejiaaGreatDoor.Z
open Go.RowKit
set_option linter.unusedVariables false
set_option linter.unusedSimpArgs false

theorem up_step {V P c A t D E X : Nat} (h : V + P * c = A * t) (hd : D + 4294967296 * E = c + X * t) : V + P * D + 4294967296 * P * E = (A + P * X) * t := by
  have h1 : P * D + P * (4294967296 * E) = P * c + P * (X * t) := by rw [← Nat.mul_add, ← Nat.mul_add, hd]
  have h2 : 4294967296 * P * E = P * (4294967296 * E) := by rw [Nat.mul_comm 4294967296 P, Nat.mul_assoc]
  have h3 : (A + P * X) * t = A * t + P * (X * t) := by rw [Nat.add_mul, Nat.mul_assoc P X t]
  rw [h2, h3, ← h]; omega

/-- What was carried in has place below what comes. -/
theorem or_up (c x s : Nat) (hs : s < 32) (hc : c < 2 ^ s) (hx : x < 4294967296) : bits .or .u32 (c : Int) (((x * 2 ^ s % 4294967296 : Nat) : Int)) = ((c + x * 2 ^ s % 4294967296 : Nat) : Int) ∧ c + x * 2 ^ s % 4294967296 < 4294967296 ∧ x * 2 ^ s / 4294967296 < 2 ^ s ∧ x * 2 ^ s < 9223372036854775808 := by
  have h2 : (2 : Nat) ^ s ≤ 2 ^ 31 := Nat.pow_le_pow_right (by decide) (by omega)
  have h31 : (2 : Nat) ^ 31 = 2147483648 := by decide
  have hm : x * 2 ^ s % 4294967296 = 2 ^ s * (x % 2 ^ (32 - s)) := by
    have e : (4294967296 : Nat) = 2 ^ s * 2 ^ (32 - s) := by rw [← Nat.pow_add, show s + (32 - s) = 32 from by omega]
    rw [e, Nat.mul_comm x, Nat.mul_mod_mul_left]
  have hor := Nat.two_pow_add_eq_or_of_lt (i := s) (b := c) hc (x % 2 ^ (32 - s))
  have hlt : x * 2 ^ s % 4294967296 < 4294967296 := Nat.mod_lt _ (by decide)
  have hb : x * 2 ^ s % 4294967296 ||| c < 2 ^ 32 := Nat.or_lt_two_pow (by omega) (by omega)
  have hx2 : x * 2 ^ s < 4294967296 * 2 ^ s := Nat.mul_lt_mul_of_pos_right hx (Nat.two_pow_pos s)
  refine ⟨?_, ?_, ?_, ?_⟩
  · rw [u32_or_nat _ _ (by omega) (by omega), Nat.or_comm, hm, ← hor, Nat.add_comm]
  · rw [hm, ← hor, ← hm] at hb; omega
  · exact Nat.div_lt_of_lt_mul hx2
  · omega

theorem up_wraps (c x s : Nat) (h : bits .or .u32 (c : Int) (((x * 2 ^ s % 4294967296 : Nat) : Int)) = ((c + x * 2 ^ s % 4294967296 : Nat) : Int)) (h4 : x * 2 ^ s < 9223372036854775808) :
    bits .or .u32 (c : Int) (IntKind.u64.wrap ((x : Int) * 2 ^ s) % 4294967296) = ((c + x * 2 ^ s % 4294967296 : Nat) : Int) ∧ IntKind.u64.wrap ((x : Int) * 2 ^ s) / 4294967296 % 4294967296 = ((x * 2 ^ s / 4294967296 : Nat) : Int) := by
  have e : (x : Int) * 2 ^ s = ((x * 2 ^ s : Nat) : Int) := by rw [Int.natCast_mul, Int.natCast_pow]; rfl
  have e2 : IntKind.u64.wrap ((x : Int) * 2 ^ s) = ((x * 2 ^ s : Nat) : Int) := by
    rw [e, IntKind.wrap_u64]; omega
  rw [e2]
  generalize x * 2 ^ s = y at h h4
  refine ⟨?_, by omega⟩
  rw [← h, show (((y % 4294967296 : Nat)) : Int) = (y : Int) % 4294967296 from by omega]

end Go.Proofs.YtahcpgldpbejiaaGreatDoor.Z

namespace Go.Proofs.YtahcpgldpbejiaaGreatDoor.Z
open Go.RowKit
set_option linter.unusedVariables false
set_option linter.unusedSimpArgs false

/-- One step of a difference, limb by limb. -/
theorem sub_step {V A B P b x y d e : Nat} (h : V + B = A + P * b) (hd : d + y + b = x + 4294967296 * e) : V + P * d + (B + P * y) = A + P * x + 4294967296 * P * e := by
  have h1 : P * (d + y + b) = P * (x + 4294967296 * e) := by rw [hd]
  have h2 : P * (x + 4294967296 * e) = P * x + 4294967296 * P * e := by rw [Nat.mul_add, ← Nat.mul_assoc, Nat.mul_comm P 4294967296]
  have h3 : P * (d + y + b) = P * d + P * y + P * b := by rw [Nat.mul_add, Nat.mul_add]
  omega

theorem sub_end {V X Y P b : Nat} (h : V + Y = X + P * b) (hV : V < P) (hYX : Y ≤ X) (hb : b ≤ 1) : V = X - Y := by
  have : b = 0 ∨ b = 1 := by omega
  rcases this with rfl | rfl
  · omega
  · omega

end Go.Proofs.YtahcpgldpbejiaaGreatDoor.Z

namespace Go.Proofs.YtahcpgldpbejiaaGreatDoor.Z
open Go.RowKit
set_option linter.unusedVariables false
set_option linter.unusedSimpArgs false

theorem set_one (O : List Int) (d : Int) (m : Nat) : (O ++ List.replicate (m + 1) 0).set O.length d = (O ++ [d]) ++ List.replicate m 0 := by
  rw [List.set_append_right _ _ (Nat.le_refl _), Nat.sub_self, List.replicate_succ, List.set_cons_zero]
  simp

end Go.Proofs.YtahcpgldpbejiaaGreatDoor.Z

namespace Go.Proofs.YtahcpgldpbejiaaGreatDoor.Z
open Go.RowKit
set_option linter.unusedVariables false
set_option linter.unusedSimpArgs false

theorem val_drop (xs : List Int) (k : Nat) : val xs = val (xs.take k) + 4294967296 ^ (xs.take k).length * val (xs.drop k) := by
  have := val_append (xs.take k) (xs.drop k)
  rwa [List.take_append_drop] at this
theorem drop_div {xs : List Int} (h : Limbs xs) (k : Nat) (hk : k ≤ xs.length) : val xs / 4294967296 ^ k = val (xs.drop k) := by
  have hd := val_drop xs k
  have hl : (xs.take k).length = k := by simp; omega
  have hlt := val_lt (h.take k)
  rw [hl] at hd hlt
  rw [hd, Nat.add_mul_div_left _ _ (Nat.pow_pos (by decide)), Nat.div_eq_of_lt hlt, Nat.zero_add]
theorem drop_cons_val (xs : List Int) (k : Nat) : val (xs.drop k) = (xs.getD k 0).toNat + 4294967296 * val (xs.drop (k + 1)) := by
  by_cases h : k < xs.length
  · rw [List.drop_eq_getElem_cons h]
    simp [val, List.getD, h]
  · rw [List.drop_eq_nil_of_le (by omega), List.drop_eq_nil_of_le (by omega)]
    have : xs[k]? = none := List.getElem?_eq_none (by omega)
    simp [val, List.getD, this]

theorem down_div (T2 a b s : Nat) (hs : s < 32) : (a + 4294967296 * (b + 4294967296 * T2)) / 2 ^ s % 4294967296 = (a + 4294967296 * b) / 2 ^ s % 4294967296 := by
  have e : a + 4294967296 * (b + 4294967296 * T2) = (a + 4294967296 * b) + 2 ^ s * (4294967296 * 2 ^ (32 - s) * T2) := by
    have h1 : (2 : Nat) ^ s * 2 ^ (32 - s) = 4294967296 := by rw [← Nat.pow_add, show s + (32 - s) = 32 from by omega]
    have h2 : 2 ^ s * (4294967296 * 2 ^ (32 - s) * T2) = 4294967296 * (4294967296 * T2) := by
      rw [← h1]; simp only [Nat.mul_assoc, Nat.mul_left_comm]
    rw [h2, Nat.mul_add]; omega
  rw [e, Nat.add_mul_div_left _ _ (Nat.two_pow_pos s), Nat.mul_assoc, Nat.add_mul_mod_self_left]

theorem or_wide (x y : Nat) (hx : x < 4294967296) (hy : y < 4294967296) : bits .or .u64 ((y : Int) * 4294967296) (x : Int) = ((x + 4294967296 * y : Nat) : Int) := by
  have e : (y : Int) * 4294967296 = ((2 ^ 32 * y : Nat) : Int) := by omega
  rw [e, u64_or_nat _ _ (by omega) (by omega), ← Nat.two_pow_add_eq_or_of_lt (by omega)]
  omega
/-- A limb of a number moved down. -/
theorem down_digit {xs : List Int} (h : Limbs xs) (q k s : Nat) (hq : q + k < xs.length) (hs : s < 32) :
    val (xs.drop q) / 2 ^ s / 4294967296 ^ k % 4294967296 = ((xs.getD (q + k) 0).toNat + 4294967296 * (xs.getD (q + k + 1) 0).toNat) / 2 ^ s % 4294967296 := by
  rw [Nat.div_div_eq_div_mul, Nat.mul_comm, ← Nat.div_div_eq_div_mul, drop_div (h.drop q) k (by simp; omega), List.drop_drop, drop_cons_val, drop_cons_val, down_div _ _ _ _ hs]

theorem down_end {xs : List Int} (h : Limbs xs) (q s n : Nat) (hq : q ≤ xs.length) (hn : n = 32 * q + s) : val (xs.drop q) / 2 ^ s = val xs / 2 ^ n := by
  rw [← drop_div h q hq, Nat.div_div_eq_div_mul, hn, Nat.pow_add, Nat.pow_mul, show (2 : Nat) ^ 32 = 4294967296 from by decide]
theorem down_small {xs : List Int} (h : Limbs xs) (n : Nat) (hq : xs.length ≤ n / 32) : val xs / 2 ^ n = 0 := by
  apply Nat.div_eq_of_lt
  refine Nat.lt_of_lt_of_le (val_lt h) ?_
  rw [show (4294967296 : Nat) = 2 ^ 32 from by decide, ← Nat.pow_mul]
  exact Nat.pow_le_pow_right (by decide) (by omega)

end Go.Proofs.YtahcpgldpbejiaaGreatDoor.Z
