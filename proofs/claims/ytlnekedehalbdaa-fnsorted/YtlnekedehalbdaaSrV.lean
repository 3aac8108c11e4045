import Derived.Test.YtlnekedehalbdaaSrU
namespace Go.Proofs.Ytlnekedehalbdaa
open Go.RowKit
set_option linter.unusedVariables false
set_option linter.unusedSimpArgs false

/-- A row that is read, at a block that asking leaves as it is. -/
def RdF (X : Nat) (w : World) (v : Value) (zs : List Int) : Prop := Rd w v zs ∧ (0 < zs.length → ∀ b off n c, v = .slice (some ⟨b, off, none⟩) n c → b ≠ X ∧ ∀ cur p, w.heap[b]? ≠ some (.cells cur 43 p))
theorem RdF.off {X : Nat} {w w' : World} {v : Value} {zs : List Int} (h : RdF X w v zs) (k : Off w w' X) : RdF X w' v zs := by
  obtain ⟨⟨a, cap, rfl, hl, hz, hn, hc⟩, hP⟩ := h
  refine ⟨⟨a, cap, rfl, hl, hz, hn, fun h0 => ?_⟩, fun h0 b off n c e => ?_⟩
  · obtain ⟨b, off, rfl, hb, hcell⟩ := hc h0
    obtain ⟨h1, h2⟩ := hP h0 b off _ _ rfl
    exact ⟨b, off, rfl, Nat.lt_of_lt_of_le hb k.1, fun j hj => (World.cell?_of_block (a := ⟨b, off + j, none⟩) (k.2 b hb h1 h2)).trans (hcell j hj)⟩
  · obtain ⟨h1, h2⟩ := hP h0 b off n c e
    obtain ⟨b', off', e', hb, _⟩ := hc h0
    simp only [Value.slice.injEq] at e
    rw [e.1] at e'
    simp only [Option.some.injEq, Addr.mk.injEq, and_true] at e'
    obtain ⟨rfl, rfl⟩ := e'
    exact ⟨h1, by rw [k.2 b hb h1 h2]; exact h2⟩
/-- A row of ours that is none of what was asked stays. -/
theorem Own.off {X B : Nat} {w w' : World} {v : Value} {zs : List Int} (h : Own w B v zs) (hX : X < B) (k : Off w w' X) : Own w' B v zs := by
  obtain ⟨⟨h1, h2⟩, h3⟩ := h
  refine ⟨⟨h1, ?_⟩, h3⟩
  rcases h2 with h2 | ⟨g, cap, cur, e, hg, hh, r⟩
  · exact .inl h2
  · have hlt : g < w.heap.size := by
      rcases Nat.lt_or_ge g w.heap.size with h | h
      · exact h
      · rw [Array.getElem?_eq_none (by simpa using h)] at hh; cases hh
    exact .inr ⟨g, cap, cur, e, hg, (k.2 g hlt (by omega) (fun cur' p h => by rw [hh] at h; simp only [Option.some.injEq, Obj.cells.injEq] at h; exact absurd h.2.1 (by decide))).trans hh, r⟩
/-- What asking does. -/
def LessC (t : Tl) (w0 : World) (X : Nat) (ov : Bool) (ks an : Value) (n : Nat) : Prop :=
  ∀ (w : World) (s : St) (a b : Nat), SS w0 w X ov ks an s → a < n → b < n → s.h.length < 1000000 →
    Calls Try.prog 40 #[.pointer (some ⟨X, 0, none⟩), .int .i64 a, .int .i64 b] w fun e w' => e = .returned (.bool (ask t s a b).1) ∧ SS w0 w' X ov ks an (ask t s a b).2 ∧ Off w w' X
theorem LessC.keys (w0 : World) (X : Nat) (ks an : Value) (keys : List Int) (hk : Rd w0 ks keys) : LessC (tellK keys) w0 X true ks an keys.length :=
  fun w s a b hS ha hb hl => lessK_any w0 w _ ks an keys s a b hS hk ha hb hl
theorem LessC.answers (w0 : World) (X : Nat) (ks an : Value) (ans : List Bool) (n : Nat) (hn : n ≤ 16777216) (hk : RdG shB w0 an ans) : LessC (tellA ans) w0 X false ks an n :=
  fun w s a b hS ha hb hl => lessA_any w0 w _ ks an ans s a b hS hk (by omega) (by omega) hl
end Go.Proofs.Ytlnekedehalbdaa
