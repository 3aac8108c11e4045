import Derived.Test.YtfcoffllelgakaaDoorSum
import Derived.Test.YtfcoffllelgakaaDoorAdd
import Derived.Test.YtfcoffllelgakaaDoorMul
import Derived.Deep.RegionHeld3
namespace Go.Proofs.YtfcoffllelgakaaDoor
open Go.RowKit
set_option linter.unusedVariables false
set_option linter.unusedSimpArgs false

/-- The result's box, as it was made. -/
structure Rbx (w : World) (L : Nat) : Prop where
  lt : L < w.heap.size
  c0 : w.cell? ⟨L, 0, none⟩ = some (.bool false)
  c1 : w.cell? ⟨L, 1, none⟩ = some (.slice none 0 0)
  f0 : w.frozen? ⟨L, 0, none⟩ = false
  f1 : w.frozen? ⟨L, 1, none⟩ = false
theorem Rbx.new (w : World) : Rbx (w.alloc (Obj.cells #[.bool false, .slice none 0 0] 29)) w.heap.size :=
  ⟨by simp, by rw [World.cell?_alloc_at _ _ w.heap.size 0 rfl]; rfl, by rw [World.cell?_alloc_at _ _ w.heap.size 1 rfl]; rfl, World.frozen?_alloc_at _ _ _ _ (by simp), World.frozen?_alloc_at _ _ _ _ (by simp)⟩
theorem Rbx.at {w w' : World} {L B : Nat} (h : Rbx w L) (hb : Below B w w') (hL : L < B) : Rbx w' L :=
  ⟨Nat.lt_of_lt_of_le h.lt hb.size, (hb.cell (p := ⟨L, 0, none⟩) hL).trans h.c0, (hb.cell (p := ⟨L, 1, none⟩) hL).trans h.c1, (hb.frozen (p := ⟨L, 0, none⟩) hL).trans h.f0, (hb.frozen (p := ⟨L, 1, none⟩) hL).trans h.f1⟩
end Go.Proofs.YtfcoffllelgakaaDoor
