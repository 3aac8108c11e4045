import Derived.Test.YtfpadeamhoeonaaDoorRdR
import Derived.Test.YtfpadeamhoeonaaDoorRdP
namespace Go.Proofs.YtfpadeamhoeonaaDoor
open Go.RowKit
set_option linter.unusedVariables false
set_option linter.unusedSimpArgs false

theorem order_swap (a b : Ieee.Datum) : b.order a = (a.order b).map Ordering.swap := by
  cases a <;> cases b <;> simp [Ieee.Datum.order]
  · rename_i s m i t n j
    rw [Int.min_comm j i]
    generalize Ieee.signed s m _ = u
    generalize Ieee.signed t n _ = v
    exact (Std.OrientedCmp.eq_swap (cmp := (compare : Int → Int → Ordering)))
  · rename_i s m i t
    cases t <;> rfl
  · rename_i s t m i
    cases s <;> rfl
  · rename_i s t
    cases s <;> cases t <;> rfl
theorem ordI_swap (x y : Nat) : (ordI (Ieee.double.order x y) = 2 ∧ ordI (Ieee.double.order y x) = 2) ∨ (ordI (Ieee.double.order x y) = -1 ∧ ordI (Ieee.double.order y x) = 1) ∨ (ordI (Ieee.double.order x y) = 0 ∧ ordI (Ieee.double.order y x) = 0) ∨ (ordI (Ieee.double.order x y) = 1 ∧ ordI (Ieee.double.order y x) = -1) := by
  have h : Ieee.double.order y x = (Ieee.double.order x y).map Ordering.swap := order_swap _ _
  rw [h]
  cases Ieee.double.order x y with
  | none => exact .inl ⟨rfl, rfl⟩
  | some o =>
    cases o
    · exact .inr (.inl ⟨rfl, rfl⟩)
    · exact .inr (.inr (.inl ⟨rfl, rfl⟩))
    · exact .inr (.inr (.inr ⟨rfl, rfl⟩))
theorem sub_self2 (x : Nat) : fbV (Ieee.double.sub x x) = 0 ∨ fbV (Ieee.double.sub x x) = 9221120237041090560 := by
  unfold Ieee.Format.sub
  cases h : Ieee.double.read x with
  | number s m i =>
    left
    have e : Ieee.Datum.sum (.number s m i) (Ieee.Datum.opposite (.number s m i)) = some (.number false 0 i) := by
      simp only [Ieee.Datum.opposite, Ieee.Datum.sum, Int.min_self, Int.sub_self]
      have h1 : Ieee.signed s m (Int.toNat 0) + Ieee.signed (!s) m (Int.toNat 0) = 0 := by
        unfold Ieee.signed
        cases s <;> simp <;> omega
      rw [h1]
      cases s <;> rfl
    rw [e]
    rfl
  | infinity s =>
    right
    cases s <;> rfl
  | nan s f =>
    right
    rfl
theorem one_one : fbV (Ieee.double.add 4607182418800017408 4607182418800017408) = 4611686018427387904 := by decide +kernel
theorem one_two : ordI (Ieee.double.order 4607182418800017408 4611686018427387904) = -1 := by decide +kernel
end Go.Proofs.YtfpadeamhoeonaaDoor
