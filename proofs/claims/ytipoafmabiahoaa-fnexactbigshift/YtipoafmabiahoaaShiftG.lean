import Derived.Test.YtipoafmabiahoaaShiftN
import Derived.Test.YtipoafmabiahoaaFloorA
import Derived.Test.YtipoafmabiahoaaShiftF
import Derived.Test.YtipoafmabiahoaaFloorX
import Derived.Deep.CutRange
import Derived.Deep.RegionHeld3
namespace Go.Proofs.Ytipoafmabiahoaa
open Go.RowKit
set_option linter.unusedVariables false
set_option linter.unusedSimpArgs false

/-- A box that a region lays beside its calls: empty, above lo. -/
def BX (W : World) (lo b : Nat) : Prop := Box W b (.bool false) (.slice none 0 0) ∧ Unf W b ∧ lo < b
theorem BX.keep {W W' : World} {lo b : Nat} (h : BX W lo b) (hB : Below W.heap.size W W') : BX W' lo b := ⟨h.1.keep hB, h.2.1.keep hB, h.2.2⟩
theorem BX.alloc {W : World} {lo b : Nat} (h : BX W lo b) (o : Obj) : BX (W.alloc o) lo b := h.keep ((Below.refl _ _).alloc (Nat.le_refl _) o)
theorem BX.drew {W : World} {lo b : Nat} (h : BX W lo b) : BX W.drew lo b := h.keep (Below.refl _ _).drew
theorem BX.new (W : World) (lo b : Nat) (hb : b = W.heap.size) (h : lo < b) : BX (W.alloc (Obj.cells #[.bool false, .slice none 0 0] 26)) lo b := by
  subst hb; exact ⟨Box.new W _ _ _, Unf.new W _ _, h⟩
theorem Unf.alloc {W : World} {b : Nat} (h : Unf W b) (o : Obj) : Unf (W.alloc o) b := h.keep ((Below.refl _ _).alloc (Nat.le_refl _) o)
theorem keepA {W : World} {b : Nat} {x y : Value} {o : Obj} (h : W.cell? ⟨b, 0, none⟩ = some x ∧ W.cell? ⟨b, 1, none⟩ = some y) : (W.alloc o).cell? ⟨b, 0, none⟩ = some x ∧ (W.alloc o).cell? ⟨b, 1, none⟩ = some y :=
  ⟨(World.cell?_alloc_some W _ o (by rw [h.1]; rfl)).trans h.1, (World.cell?_alloc_some W _ o (by rw [h.2]; rfl)).trans h.2⟩
theorem keepD {W : World} {b : Nat} {x y : Value} {o : Obj} (h : W.drew.cell? ⟨b, 0, none⟩ = some x ∧ W.drew.cell? ⟨b, 1, none⟩ = some y) : (W.alloc o).drew.cell? ⟨b, 0, none⟩ = some x ∧ (W.alloc o).drew.cell? ⟨b, 1, none⟩ = some y :=
  keepA (W := W) h
theorem keepS {W : World} {b c : Nat} {x y u v : Value} (h : W.cell? ⟨b, 0, none⟩ = some x ∧ W.cell? ⟨b, 1, none⟩ = some y) (hne : ¬ c = b) : ((W.setCell ⟨c, 0, none⟩ u).setCell ⟨c, 1, none⟩ v).cell? ⟨b, 0, none⟩ = some x ∧ ((W.setCell ⟨c, 0, none⟩ u).setCell ⟨c, 1, none⟩ v).cell? ⟨b, 1, none⟩ = some y := by
  constructor
  · rw [World.cell?_setCell_far _ _ _ _ hne, World.cell?_setCell_far _ _ _ _ hne]; exact h.1
  · rw [World.cell?_setCell_far _ _ _ _ hne, World.cell?_setCell_far _ _ _ _ hne]; exact h.2
theorem below_alloc {B : Nat} {w W : World} (h : Below B w W) (hB : B ≤ w.heap.size) (o : Obj) : Below B w (W.alloc o) := h.alloc (Nat.le_trans hB h.size) o
theorem ne_two {W : World} {lo b c : Nat} (h1 : BX W lo b) (h2 : BX W lo c) (h : b < c) : b ≠ c ∧ c ≠ b := ⟨Nat.ne_of_lt h, Nat.ne_of_gt h⟩
theorem bx_ne2 {W : World} {x b : Nat} (h : BX W (x + 1) b) : ¬ b = x ∧ ¬ x = b ∧ ¬ b = x + 1 ∧ ¬ x + 1 = b := by have := h.2.2; omega
theorem ne_le {a b c : Nat} (h : a < b) (h2 : b ≤ c) : ¬ a = c ∧ ¬ c = a ∧ ¬ a = c + 1 ∧ ¬ c + 1 = a := by omega
theorem ltB {x y B : Nat} (h : x < y) (h2 : y ≤ B) : x < B := Nat.lt_of_lt_of_le h h2
theorem pow_len (d k : Nat) (h : d < 32 * k) : (lim (2 ^ d)).length ≤ k := by
  refine lim_length_le ?_
  rw [R_pow]
  exact Nat.pow_lt_pow_right (by decide) h

end Go.Proofs.Ytipoafmabiahoaa
