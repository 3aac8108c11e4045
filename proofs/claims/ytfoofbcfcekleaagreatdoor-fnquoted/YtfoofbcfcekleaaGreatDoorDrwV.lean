import Derived.Test.YtfoofbcfcekleaaGreatDoorDrwT
namespace Go.Proofs.YtfoofbcfcekleaaGreatDoor
open Go.RowKit
set_option linter.unusedVariables false
set_option linter.unusedSimpArgs false

/-- Bytes that came in. -/
structure Src (w : World) (a : Option Addr) (n c : Nat) (bs : List Int) : Prop where
  nb : n ≤ 1048576
  lim : ∀ k, 0 ≤ bs.getD k 0 ∧ bs.getD k 0 < 256
  by_ : 0 < n → ∃ b off, a = some ⟨b, off, none⟩ ∧ b < w.heap.size ∧ ∀ k, k < n → w.cell? ⟨b, off + k, none⟩ = some (.int .u8 (bs.getD k 0))
theorem Src.keep {w w' : World} {a : Option Addr} {n c : Nat} {bs : List Int} (h : Src w a n c bs) (hb : Below w.heap.size w w') : Src w' a n c bs :=
  ⟨h.nb, h.lim, fun h0 => by
    obtain ⟨b, off, e, hlt, hcs⟩ := h.by_ h0
    exact ⟨b, off, e, Nat.lt_of_lt_of_le hlt hb.size, fun k hk => (hb.cell (p := ⟨b, off + k, none⟩) hlt).trans (hcs k hk)⟩⟩
set_option maxRecDepth 100000 in
theorem open_any (w : World) (a : Option Addr) (n c : Nat) (bs : List Int) (h : Src w a n c bs) :
    Calls Tryz.prog 11 #[.slice a n c] w fun e w' => ∃ g, e = .returned (.pointer (some ⟨g, 0, none⟩)) ∧ w.heap.size ≤ g ∧ Rdr w' g a n c bs ∧ Below w.heap.size w w' := by
  go_enter Tryz.func11, Tryz.ntmps11
  go_wp2
  go_ret
  refine ⟨w.heap.size, rfl, Nat.le_refl _, ⟨by simp, ?_, ⟨0, by omega, ?_⟩, World.frozen?_alloc_at _ _ _ _ (by simp), h.nb, h.lim, fun h0 => ?_⟩, (Below.refl _ _).alloc (Nat.le_refl _) _⟩
  · rw [World.cell?_alloc_at _ _ w.heap.size 0 rfl]; rfl
  · rw [World.cell?_alloc_at _ _ w.heap.size 1 rfl]; rfl
  · obtain ⟨b, off, e, hlt, hcs⟩ := h.by_ h0
    exact ⟨b, off, e, by omega, by simp; omega, fun k hk => (((Below.refl w.heap.size w).alloc (Nat.le_refl _) _).cell (p := ⟨b, off + k, none⟩) hlt).trans (hcs k hk)⟩
set_option maxRecDepth 100000 in
theorem drawTextRepr_any (w : World) (a : Option Addr) (n c : Nat) (bs : List Int) (h : Src w a n c bs) :
    Calls Tryz.prog 5 #[.slice a n c] w fun e w' => ∃ s : ByteArray, e = .returned (.string s) ∧ s.size ≤ 20000 ∧ Below w.heap.size w w' := by
  have hO := open_any w a n c bs h
  go_enter Tryz.func5, Tryz.ntmps5
  go_wp2_with fail
  refine hO.mono ?_
  rintro e w1 ⟨g, rfl, hg, hR, hB⟩
  have hT := drawText_any w1 g a n c bs hR
  go_wp2_with fail
  refine hT.mono ?_
  rintro e w2 ⟨s, rfl, hs, hD⟩
  have hB2 := hB.trans (gb_to hD.gb (fun k hk => by cases hk; exact hg) hB.size)
  clear hT hO
  go_wp2
  go_ret
  exact ⟨s, rfl, hs, hB2⟩
end Go.Proofs.YtfoofbcfcekleaaGreatDoor
