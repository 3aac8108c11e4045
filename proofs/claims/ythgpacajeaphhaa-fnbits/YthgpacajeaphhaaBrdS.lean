import Derived.Test.YthgpacajeaphhaaBrdM
import Derived.Deep.RegionHeld3
namespace Go.Proofs.Ythgpacajeaphhaa
open Go.RowKit
set_option linter.unusedVariables false
set_option linter.unusedSimpArgs false

theorem get_atR (s : ByteArray) (k : Nat) (h : k < s.size) : s[k] = s.data.toList[k]'(by simpa using h) := by
  show s.data[k] = _
  simp
/-- The result's box, as it was made. -/
structure Rbx (w : World) (L : Nat) : Prop where
  lt : L < w.heap.size
  c0 : w.cell? ⟨L, 0, none⟩ = some (.bool false)
  c1 : w.cell? ⟨L, 1, none⟩ = some (.slice none 0 0)
  f0 : w.frozen? ⟨L, 0, none⟩ = false
  f1 : w.frozen? ⟨L, 1, none⟩ = false
theorem Rbx.new (w : World) : Rbx (w.alloc (Obj.cells #[.bool false, .slice none 0 0] 26)) w.heap.size :=
  ⟨by simp, by rw [World.cell?_alloc_at _ _ w.heap.size 0 rfl]; rfl, by rw [World.cell?_alloc_at _ _ w.heap.size 1 rfl]; rfl, World.frozen?_alloc_at _ _ _ _ (by simp), World.frozen?_alloc_at _ _ _ _ (by simp)⟩
theorem Rbx.at {w w' : World} {L B : Nat} (h : Rbx w L) (hb : Below B w w') (hL : L < B) : Rbx w' L :=
  ⟨Nat.lt_of_lt_of_le h.lt hb.size, (hb.cell (p := ⟨L, 0, none⟩) hL).trans h.c0, (hb.cell (p := ⟨L, 1, none⟩) hL).trans h.c1, (hb.frozen (p := ⟨L, 0, none⟩) hL).trans h.f0, (hb.frozen (p := ⟨L, 1, none⟩) hL).trans h.f1⟩
theorem bsz {w W : World} {o : Obj} (h : Below (w.heap.size + 1) (w.alloc o) W) : w.heap.size + 1 ≤ W.heap.size := by have := h.size; simpa using this
theorem lim_mul {N b : Nat} (h : (lim N).length ≤ 128) (hb : b ≤ 36) : (lim (N * b)).length ≤ 129 := by
  have h1 : N < 4294967296 ^ 128 := Nat.lt_of_not_le (fun h2 => by have := lim_length_gt h2; omega)
  refine lim_length_le ?_
  rw [Nat.pow_succ]
  exact Nat.lt_of_le_of_lt (Nat.mul_le_mul_left N (show b ≤ 4294967296 by omega)) (Nat.mul_lt_mul_of_pos_right h1 (by decide))
theorem rd_none (W : World) (B : Nat) (w : World) (h : Below B w W) : ∃ a c, Ending.returned (.tuple #[.agg #[.bool false, .slice none 0 0], .bool false]) = .returned (.tuple #[.agg #[.bool (rdS none), .slice a (rdL none).length c], .bool (none : Option (Bool × Nat)).isSome]) ∧ Own W B (.slice a (rdL none).length c) (rdL none) ∧ Below B w W := ⟨none, 0, rfl, Own.nil _ _, h⟩

end Go.Proofs.Ythgpacajeaphhaa
