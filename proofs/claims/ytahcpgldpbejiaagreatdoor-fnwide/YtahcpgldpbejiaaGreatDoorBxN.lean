import Derived.Test.YtahcpgldpbejiaaGreatDoorBaseI
namespace Go.Proofs.YtahcpgldpbejiaaGreatDoor
open Go.RowKit Go.Lib
set_option linter.unusedVariables false

/-- A variable of our own: its cells. -/
structure Bx (w : World) (b : Nat) (cs : List Value) : Prop where
  lt : b < w.heap.size
  cell : ∀ j (h : j < cs.length), w.cell? ⟨b, j, none⟩ = some cs[j]
  fr : ∀ j, w.frozen? ⟨b, j, none⟩ = false
theorem Bx.keep {w w' : World} {b : Nat} {cs : List Value} (h : Bx w b cs) (hb : Below w.heap.size w w') : Bx w' b cs :=
  ⟨Nat.lt_of_lt_of_le h.lt hb.size, fun j hj => (hb.cell (p := ⟨b, j, none⟩) h.lt).trans (h.cell j hj), fun j => (hb.frozen (p := ⟨b, j, none⟩) h.lt).trans (h.fr j)⟩
theorem Bx.set {w : World} {b : Nat} {cs : List Value} (h : Bx w b cs) (j : Nat) (hj : j < cs.length) (v : Value) : Bx (w.setCell ⟨b, j, none⟩ v) b (cs.set j v) := by
  refine ⟨by have := h.lt; simpa [World.setCell] using this, fun k hk => ?_, fun k => by rw [World.frozen?_setCell]; exact h.fr k⟩
  rw [List.length_set] at hk
  by_cases e : j = k
  · subst e
    rw [World.cell?_setCell_same _ _ _ (h.cell j hj)]; simp
  · rw [World.cell?_setCell_other _ _ _ _ (by intro h1; injection h1 with _ h2; exact e h2), h.cell k hk, List.getElem_set_ne e]
theorem Bx.new (w : World) (cs : List Value) (T : TypeId) : Bx (w.alloc (.cells cs.toArray T)) w.heap.size cs :=
  ⟨by simp, fun j hj => by rw [World.cell?_alloc_at _ _ _ _ rfl]; simp, fun j => World.frozen?_alloc_at _ _ _ _ (by rfl)⟩
theorem Bx.far {w : World} {b c j : Nat} {cs : List Value} (h : Bx w b cs) (hc : c ≠ b) (v : Value) : Bx (w.setCell ⟨c, j, none⟩ v) b cs :=
  ⟨by have := h.lt; simpa [World.setCell] using this, fun k hk => by rw [World.cell?_setCell_other _ _ _ _ (by intro h1; injection h1 with h2 _; exact hc h2)]; exact h.cell k hk, fun k => by rw [World.frozen?_setCell]; exact h.fr k⟩
end Go.Proofs.YtahcpgldpbejiaaGreatDoor
