import Derived.Test.YtfcoffllelgakaaDoorTrim
import Derived.Laws.MathBits
namespace Go.Proofs.YtfcoffllelgakaaDoor
open Go.RowKit
set_option linter.unusedVariables false
set_option linter.unusedSimpArgs false

theorem at_any (v : Value) (zs : List Int) (i : Nat) (w : World) (hr : Rd w v zs) (hi : i ≤ 16777216) :
    Calls Tryd.prog 87 #[v, .int .i64 i] w fun e w' => e = .returned (.int .u32 (zs.getD i 0)) ∧ w' = w := by
  obtain ⟨a, cap, rfl, hl, hz, hn0, hc⟩ := hr
  by_cases h : i < zs.length
  · obtain ⟨b, off, rfl, hb, hcell⟩ := hc (by omega)
    have hce := hcell i h
    generalize zs.getD i 0 = q at hce ⊢
    clear hc hcell
    go_enter Tryd.func87, Tryd.ntmps87
    go_wp2
    go_ret
    exact ⟨rfl, rfl⟩
  · have hq : zs.getD i 0 = 0 := by simp [List.getD, List.getElem?_eq_none (by omega : zs.length ≤ i)]
    rw [hq]
    clear hc hq
    go_enter Tryd.func87, Tryd.ntmps87
    go_wp2
    go_ret
    exact ⟨rfl, rfl⟩

/-- What 'at' answers, behind a name: so that the walk finds it by its arguments. -/
def AtC (W : World) (v : Value) (k : Nat) (z : Int) : Prop := Calls Tryd.prog 87 #[v, .int .i64 k] W fun e w' => e = .returned (.int .u32 z) ∧ w' = W
theorem AtC.out {W : World} {v : Value} {k : Nat} {z : Int} (h : AtC W v k z) : Calls Tryd.prog 87 #[v, .int .i64 k] W fun e w' => e = .returned (.int .u32 z) ∧ w' = W := h

theorem top_bit {n : Nat} (h : n < 4294967296) : n / 2147483648 = if n.testBit 31 then 1 else 0 := by
  rw [Nat.testBit_eq_decide_div_mod_eq]
  have : n / 2147483648 = 0 ∨ n / 2147483648 = 1 := by omega
  rcases this with h1 | h1
  · rw [show (2 : Nat) ^ 31 = 2147483648 from by decide, h1]; rfl
  · rw [show (2 : Nat) ^ 31 = 2147483648 from by decide, h1]; rfl
theorem top_lt {n : Nat} (h : n < 4294967296) : n.testBit 31 = decide (2147483648 ≤ n) := by
  rw [Nat.testBit_eq_decide_div_mod_eq, show (2 : Nat) ^ 31 = 2147483648 from by decide]
  by_cases h1 : 2147483648 ≤ n
  · rw [decide_eq_true h1, decide_eq_true (by omega)]
  · rw [decide_eq_false h1, decide_eq_false (by omega)]
theorem lt32 {n : Nat} (h : n < 2 ^ 32) : n < 4294967296 := h

theorem borrow_nat (X Y D : Nat) (hX : X < 4294967296) (hY : Y < 4294967296) (hD : D < 4294967296) :
    ((((4294967295 ^^^ X) &&& Y) ||| ((4294967295 ^^^ (X ^^^ Y)) &&& D)) / 2147483648 : Nat) =
      if ((!decide (2147483648 ≤ X)) && decide (2147483648 ≤ Y)) || ((decide (2147483648 ≤ X) == decide (2147483648 ≤ Y)) && decide (2147483648 ≤ D)) then 1 else 0 := by
  have h1 : ((4294967295 ^^^ X) &&& Y) < 2 ^ 32 := Nat.lt_of_le_of_lt Nat.and_le_right hY
  have h2 : ((4294967295 ^^^ (X ^^^ Y)) &&& D) < 2 ^ 32 := Nat.lt_of_le_of_lt Nat.and_le_right hD
  have h3 := Nat.or_lt_two_pow h1 h2
  rw [top_bit (lt32 h3)]
  congr 1
  simp only [Nat.testBit_or, Nat.testBit_and, Nat.testBit_xor, top_lt hX, top_lt hY, top_lt hD, show Nat.testBit 4294967295 31 = true from by decide]
  cases decide (2147483648 ≤ X) <;> cases decide (2147483648 ≤ Y) <;> cases decide (2147483648 ≤ D) <;> rfl

theorem u32_max : IntKind.u32.max = 4294967295 := rfl
theorem borrow_int (x y d : Int) (hx : 0 ≤ x ∧ x < 4294967296) (hy : 0 ≤ y ∧ y < 4294967296) (hd : 0 ≤ d ∧ d < 4294967296) :
    bits .or .u32 (bits .and .u32 (bits .xor .u32 IntKind.u32.max x) y) (bits .and .u32 (bits .xor .u32 IntKind.u32.max (bits .xor .u32 x y)) d) / 2147483648 =
      if ((!decide (2147483648 ≤ x)) && decide (2147483648 ≤ y)) || ((decide (2147483648 ≤ x) == decide (2147483648 ≤ y)) && decide (2147483648 ≤ d)) then 1 else 0 := by
  obtain ⟨X, rfl⟩ : ∃ n : Nat, x = n := ⟨x.toNat, by omega⟩
  obtain ⟨Y, rfl⟩ : ∃ n : Nat, y = n := ⟨y.toNat, by omega⟩
  obtain ⟨D, rfl⟩ : ∃ n : Nat, d = n := ⟨d.toNat, by omega⟩
  have hX : X < 4294967296 := by omega
  have hY : Y < 4294967296 := by omega
  have hD : D < 4294967296 := by omega
  have m : (4294967295 : Int) = ((4294967295 : Nat) : Int) := rfl
  have b1 : (4294967295 ^^^ X) < 4294967296 := lt32 (Nat.xor_lt_two_pow (by decide) hX)
  have b2 : (X ^^^ Y) < 4294967296 := lt32 (Nat.xor_lt_two_pow hX hY)
  have b3 : (4294967295 ^^^ (X ^^^ Y)) < 4294967296 := lt32 (Nat.xor_lt_two_pow (by decide) b2)
  have b4 : ((4294967295 ^^^ X) &&& Y) < 4294967296 := Nat.lt_of_le_of_lt Nat.and_le_right hY
  have b5 : ((4294967295 ^^^ (X ^^^ Y)) &&& D) < 4294967296 := Nat.lt_of_le_of_lt Nat.and_le_right hD
  rw [u32_max, m, u32_xor_nat _ _ (by decide) hX, u32_and_nat _ _ b1 hY, u32_xor_nat _ _ hX hY, u32_xor_nat _ _ (by decide) b2, u32_and_nat _ _ b3 hD, u32_or_nat _ _ b4 b5]
  have := borrow_nat X Y D hX hY hD
  have e1 : decide ((2147483648 : Int) ≤ X) = decide (2147483648 ≤ X) := by
    by_cases h : 2147483648 ≤ X
    · rw [decide_eq_true h, decide_eq_true (by omega)]
    · rw [decide_eq_false h, decide_eq_false (by omega)]
  have e2 : decide ((2147483648 : Int) ≤ Y) = decide (2147483648 ≤ Y) := by
    by_cases h : 2147483648 ≤ Y
    · rw [decide_eq_true h, decide_eq_true (by omega)]
    · rw [decide_eq_false h, decide_eq_false (by omega)]
  have e3 : decide ((2147483648 : Int) ≤ D) = decide (2147483648 ≤ D) := by
    by_cases h : 2147483648 ≤ D
    · rw [decide_eq_true h, decide_eq_true (by omega)]
    · rw [decide_eq_false h, decide_eq_false (by omega)]
  rw [e1, e2, e3]
  split at this <;> rename_i h
  · rw [if_pos h]; omega
  · rw [if_neg h]; omega

theorem borrow_of (x y c : Int) (hx : 0 ≤ x ∧ x < 4294967296) (hy : 0 ≤ y ∧ y < 4294967296) (hc : 0 ≤ c ∧ c ≤ 1) :
    bits .or .u32 (bits .and .u32 (bits .xor .u32 IntKind.u32.max x) y) (bits .and .u32 (bits .xor .u32 IntKind.u32.max (bits .xor .u32 x y)) ((x - y - c) % 4294967296)) / 2147483648 =
      if x < y + c then 1 else 0 := by
  rw [borrow_int x y _ hx hy (by omega)]
  by_cases hx1 : 2147483648 ≤ x <;> by_cases hy1 : 2147483648 ≤ y <;> by_cases hd1 : 2147483648 ≤ (x - y - c) % 4294967296 <;> simp [hx1, hy1, hd1] <;> omega

end Go.Proofs.YtfcoffllelgakaaDoor
