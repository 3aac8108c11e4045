import Derived.Test.YtiihfaohdgkhaaaDoorDrwT
namespace Go.Proofs.YtiihfaohdgkhaaaDoor
open Go.RowKit
set_option linter.unusedVariables false
set_option linter.unusedSimpArgs false

/-- Bytes that came in. -/
structure Src (w : World) (a : Option Addr) (n c : Nat) (bs : List Int) : Prop where
  nb : n ≤ 1048576
  lim : ∀ k, 0 ≤ bs.getD k 0 ∧ bs.getD k 0 < 256
  by_ : 0 < n → ∃ b off, a = some ⟨b, off, none⟩ ∧ b < w.heap.size ∧ ∀ k, k < n → w.cell? ⟨b, off + k, none⟩ = some (.int .u8 (bs.getD k 0))
theorem Src.keep {w w' : World} {a : Option Addr} {n c : Nat} {bs : List Int} (h : Src w a n c bs) (hb : Below w.heap.size w w') : Src w' a n c bs :=
  ⟨h.nb, h.lim, fun h0 => by
    obtain ⟨b, off, e, hlt, hcs⟩ := h.by_ h0
    exact ⟨b, off, e, Nat.lt_of_lt_of_le hlt hb.size, fun k hk => (hb.cell (p := ⟨b, off + k, none⟩) hlt).trans (hcs k hk)⟩⟩
set_option maxRecDepth 100000 in
theorem open_any (w : World) (a : Option Addr) (n c : Nat) (bs : List Int) (h : Src w a n c bs) :
    Calls Tryd.prog 14 #[.slice a n c] w fun e w' => ∃ g, e = .returned (.pointer (some ⟨g, 0, none⟩)) ∧ w.heap.size ≤ g ∧ Rdr w' g a n c bs ∧ Below w.heap.size w w' := by
  go_enter Tryd.func14, Tryd.ntmps14
  go_wp2
  go_ret
  refine ⟨w.heap.size, rfl, Nat.le_refl _, ⟨by simp, ?_, ⟨0, by omega, ?_⟩, World.frozen?_alloc_at _ _ _ _ (by simp), h.nb, h.lim, fun h0 => ?_⟩, (Below.refl _ _).alloc (Nat.le_refl _) _⟩
  · rw [World.cell?_alloc_at _ _ w.heap.size 0 rfl]; rfl
  · rw [World.cell?_alloc_at _ _ w.heap.size 1 rfl]; rfl
  · obtain ⟨b, off, e, hlt, hcs⟩ := h.by_ h0
    exact ⟨b, off, e, by omega, by simp; omega, fun k hk => (((Below.refl w.heap.size w).alloc (Nat.le_refl _) _).cell (p := ⟨b, off + k, none⟩) hlt).trans (hcs k hk)⟩
theorem tab3 (x : Nat) (hx : x < 3) : ∃ y : Int, (#[.int .i64 (-1), .int .i64 16384, .int .i64 16385] : Array Value)[x]? = some (.int .i64 y) ∧ -1 ≤ y ∧ y ≤ 16385 := by
  match x, hx with
  | 0, _ => exact ⟨_, rfl, by decide, by decide⟩
  | 1, _ => exact ⟨_, rfl, by decide, by decide⟩
  | 2, _ => exact ⟨_, rfl, by decide, by decide⟩
/-- A bound's box that is still as it was made. -/
structure Bx (w : World) (L : Nat) : Prop where
  lt : L < w.heap.size
  c0 : w.cell? ⟨L, 0, none⟩ = some (.bool false)
  c1 : w.cell? ⟨L, 1, none⟩ = some (.int .i64 0)
  f0 : w.frozen? ⟨L, 0, none⟩ = false
  f1 : w.frozen? ⟨L, 1, none⟩ = false
theorem Bx.gb {w w' : World} {L g : Nat} (h : Bx w L) (hgb : w.grownBy w' (some g)) (ne : L ≠ g) : Bx w' L :=
  ⟨Nat.lt_of_lt_of_le h.lt hgb.size, gb_cell hgb ne h.lt h.c0, gb_cell hgb ne h.lt h.c1, gb_frozen hgb ne h.lt h.f0, gb_frozen hgb ne h.lt h.f1⟩
theorem Bx.keep {w w' : World} {L : Nat} (h : Bx w L) (hb : Below w.heap.size w w') : Bx w' L :=
  ⟨Nat.lt_of_lt_of_le h.lt hb.size, (hb.cell (p := ⟨L, 0, none⟩) h.lt).trans h.c0, (hb.cell (p := ⟨L, 1, none⟩) h.lt).trans h.c1, (hb.frozen (p := ⟨L, 0, none⟩) h.lt).trans h.f0, (hb.frozen (p := ⟨L, 1, none⟩) h.lt).trans h.f1⟩
end Go.Proofs.YtiihfaohdgkhaaaDoor
