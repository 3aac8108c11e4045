import Derived.Test.YtfcoffllelgakaaDoorAdd
import Derived.Test.YtfcoffllelgakaaDoorPrim
import Derived.Deep.RegionHeld3
namespace Go.Proofs.YtfcoffllelgakaaDoor
open Go.RowKit
set_option linter.unusedVariables false
set_option linter.unusedSimpArgs false

theorem take_set_lt (P : List Int) (i : Nat) (d : Int) : (P.set i d).take i = P.take i := by
  apply List.ext_getElem?
  intro j
  rw [List.getElem?_take, List.getElem?_take]
  split
  · rw [List.getElem?_set_ne (by omega)]
  · rfl
theorem getD_set_self (P : List Int) (i : Nat) (d : Int) (h : i < P.length) : (P.set i d).getD i 0 = d := by simp [List.getD, h]
theorem getD_set_ne (P : List Int) (i j : Nat) (d : Int) (h : ¬ i = j) : (P.set i d).getD j 0 = P.getD j 0 := by simp [List.getD, List.getElem?_set_ne h]
/-- The value of the first limbs behind a store at their end. -/
theorem val_set_take (P : List Int) (i : Nat) (d : Int) (h : i < P.length) : val ((P.set i d).take (i + 1)) = val (P.take i) + 4294967296 ^ i * d.toNat := by
  rw [val_take_succ, take_set_lt, getD_set_self P i d h]

/-- One step of the inner loop of a product. -/
theorem mul_step {VP VO Pk Pj X Y c o d e T : Nat} (h : VP + Pk * Pj * c = VO + Pk * X * T) (hd : d + 4294967296 * e = X * Y + o + c) :
    VP + Pk * Pj * d + Pk * (4294967296 * Pj) * e = VO + Pk * Pj * o + Pk * X * (T + Pj * Y) := by
  have h1 : Pk * Pj * (d + 4294967296 * e) = Pk * Pj * (X * Y + o + c) := by rw [hd]
  have h2 : Pk * Pj * (d + 4294967296 * e) = Pk * Pj * d + Pk * (4294967296 * Pj) * e := by
    rw [Nat.mul_add]; congr 1; rw [← Nat.mul_assoc, Nat.mul_assoc Pk Pj 4294967296, Nat.mul_comm Pj 4294967296]
  have h3 : Pk * Pj * (X * Y + o + c) = Pk * X * (Pj * Y) + Pk * Pj * o + Pk * Pj * c := by
    rw [Nat.mul_add, Nat.mul_add]; congr 2
    rw [Nat.mul_assoc, Nat.mul_assoc]; congr 1
    rw [← Nat.mul_assoc, ← Nat.mul_assoc, Nat.mul_comm Pj X]
  have h4 : Pk * X * (T + Pj * Y) = Pk * X * T + Pk * X * (Pj * Y) := Nat.mul_add _ _ _
  omega

/-- The state of the inner loop: what has been written agrees with the sum so far. -/
def Inner (O P xs ys : List Int) (X : Nat) (k j c : Nat) : Prop :=
  P.length = O.length ∧ (∀ i, k + j ≤ i → P.getD i 0 = O.getD i 0) ∧ val (P.take (k + j)) + 4294967296 ^ k * 4294967296 ^ j * c = val (O.take (k + j)) + 4294967296 ^ k * X * val (ys.take j) ∧ c < 4294967296

theorem Inner.step {O P xs ys : List Int} {X k j c d e : Nat} (h : Inner O P xs ys X k j c) (hlen : k + j < O.length) (hd : d + 4294967296 * e = X * (ys.getD j 0).toNat + (O.getD (k + j) 0).toNat + c) (he : e < 4294967296) :
    Inner O (P.set (k + j) (d : Int)) xs ys X k (j + 1) e := by
  obtain ⟨h1, h2, h3, h4⟩ := h
  refine ⟨by rw [List.length_set]; exact h1, fun i hi => ?_, ?_, he⟩
  · rw [getD_set_ne _ _ _ _ (by omega)]; exact h2 i (by omega)
  · rw [← Nat.add_assoc, val_set_take _ _ _ (by omega), val_take_succ O, val_take_succ ys, Nat.pow_add, Int.toNat_natCast, Nat.pow_succ, Nat.mul_comm (4294967296 ^ j) 4294967296]
    exact mul_step h3 hd

/-- The state of the outer loop. -/
def Outer (O xs ys : List Int) (k : Nat) : Prop :=
  O.length = xs.length + ys.length ∧ (∀ i, k + ys.length ≤ i → O.getD i 0 = 0) ∧ val (O.take (k + ys.length)) = val (xs.take k) * val ys

theorem Outer.done {O xs ys : List Int} (h : Outer O xs ys xs.length) : val O = val xs * val ys := by
  obtain ⟨h1, h2, h3⟩ := h
  rw [List.take_of_length_le (by omega), List.take_of_length_le (Nat.le_refl _)] at h3
  exact h3
end Go.Proofs.YtfcoffllelgakaaDoor
