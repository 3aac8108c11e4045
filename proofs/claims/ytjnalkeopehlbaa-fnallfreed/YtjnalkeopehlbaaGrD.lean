import Derived.Test.YtjnalkeopehlbaaGrP
import Derived.Test.YtjnalkeopehlbaaGrB
namespace Go.Proofs.Ytjnalkeopehlbaa
open Go.RowKit Go.Maps
set_option linter.unusedVariables false
set_option linter.unusedSimpArgs false

theorem Own.upto {w : World} {B g n cap : Nat} {xs : List Int} (h : Own w B (.slice (some ⟨g, 0, none⟩) n cap) xs) (i : Nat) (hi : i ≤ xs.length) : Own w B (.slice (some ⟨g, 0, none⟩) i cap) (xs.take i) := by
  have hn := h.len
  obtain ⟨⟨h1, h2⟩, h3, h4⟩ := h
  have hl : (xs.take i).length = i := by simp; omega
  refine ⟨⟨by simp, ?_⟩, by rw [hl]; omega, h4.take i⟩
  rcases h2 with ⟨e, _⟩ | ⟨g', cap', cur, e, hg, hh, hc, hcs, hm, ht⟩
  · cases e
  · simp only [Value.slice.injEq, Option.some.injEq, Addr.mk.injEq, and_true] at e
    obtain ⟨rfl, e2, rfl⟩ := e
    refine .inr ⟨g, cap, cur, by rw [hl], hg, hh, by rw [hl]; omega, hcs, hm, ?_⟩
    rw [hl, List.map_take, ← ht, List.take_take]
    congr 1; omega
/-- The search's memory: what is to be looked at, what is marked, and the rows that stay. -/
def DSt (N sb tb0 nb M4 : Nat) (Q3 W1 : World) (q : Value) (wq : World) (sn : List Bool) (ts : List Int) : Prop :=
  ∃ tb tc, q = .slice (some ⟨tb, 0, none⟩) ts.length tc ∧ Own wq tb0 (.slice (some ⟨tb, 0, none⟩) ts.length tc) ts ∧ OwnG shB 4 wq sb (.slice (some ⟨sb, 0, none⟩) N N) sn ∧ (tb < nb ∨ M4 ≤ tb) ∧ (∀ i, nb ≤ i → i < M4 → wq.heap[i]? = Q3.heap[i]?) ∧ M4 ≤ wq.heap.size ∧ Below sb W1 wq
theorem win_cell {Q3 wq : World} {nb M4 : Nat} (h : ∀ i, nb ≤ i → i < M4 → wq.heap[i]? = Q3.heap[i]?) {g o : Nat} (h1 : nb ≤ g) (h2 : g < M4) : wq.cell? ⟨g, o, none⟩ = Q3.cell? ⟨g, o, none⟩ := World.cell?_of_block (a := ⟨g, o, none⟩) (h g h1 h2)
/-- The world changes outside of the rows that stay. -/
theorem win_grown {Q3 wq wq' : World} {nb M4 tb : Nat} (h : ∀ i, nb ≤ i → i < M4 → wq.heap[i]? = Q3.heap[i]?) (hM : M4 ≤ wq.heap.size) (hg : wq.grownBy wq' (some tb)) (ht : tb < nb ∨ M4 ≤ tb) : ∀ i, nb ≤ i → i < M4 → wq'.heap[i]? = Q3.heap[i]? := by
  intro i h1 h2
  rw [hg.block i (by omega) (by intro e; have := Option.some.inj e; omega)]
  exact h i h1 h2
theorem DSt.mark {N sb tb0 nb M4 : Nat} {Q3 W1 : World} {q : Value} {wq : World} {sn : List Bool} {ts : List Int} (h : DSt N sb tb0 nb M4 Q3 W1 q wq sn ts) (hsb : sb < tb0) (hsn : sb < nb) (j : Nat) (hj : j < sn.length) : DSt N sb tb0 nb M4 Q3 W1 q (wq.setCell ⟨sb, j, none⟩ (.bool true)) (sn.set j true) ts := by
  obtain ⟨tb, tc, rfl, oT, oS, ht, hw, hM, hb⟩ := h
  have oS2 := oS.put j hj 0 (by decide) (.bool true) true trivial (by rfl)
  have e : j * shB.n + 0 = j := by show j * 1 + 0 = j; omega
  rw [e] at oS2
  have hg := gb_set wq sb j (.bool true)
  exact ⟨tb, tc, rfl, oT.setBelow (a := ⟨sb, j, none⟩) hsb (.bool true), oS2, ht, win_grown hw hM hg (.inl hsn), Nat.le_trans hM hg.size, hb.setCell (Nat.le_refl _) _⟩
theorem DSt.keep {N sb tb0 nb M4 : Nat} {Q3 W1 : World} {q : Value} {wq wq' : World} {sn : List Bool} {ts : List Int} (h : DSt N sb tb0 nb M4 Q3 W1 q wq sn ts) (hb : Below wq.heap.size wq wq') (hs : sb ≤ wq.heap.size) : DSt N sb tb0 nb M4 Q3 W1 q wq' sn ts := by
  obtain ⟨tb, tc, rfl, oT, oS, ht, hw, hM, hb1⟩ := h
  exact ⟨tb, tc, rfl, oT.keep hb, oS.keep hb, ht, fun i h1 h2 => (hb.block i (by omega)).trans (hw i h1 h2), Nat.le_trans hM hb.size, hb1.trans (hb.mono hs)⟩
theorem DSt.push {N sb tb0 nb M4 : Nat} {Q3 W1 : World} {wq wq' : World} {sn : List Bool} {ts : List Int} {tb tc b c : Nat} {y : Int} (h : DSt N sb tb0 nb M4 Q3 W1 (.slice (some ⟨tb, 0, none⟩) ts.length tc) wq sn ts) (hO : Own wq' tb0 (.slice (some ⟨b, 0, none⟩) (ts.length + 1) c) (ts ++ [y])) (hg : wq.grownBy wq' (Value.slice (some ⟨tb, 0, none⟩) ts.length tc).ownBlock) (hl : (Value.slice (some ⟨tb, 0, none⟩) ts.length tc).ownBlock = some b ∨ b = wq.heap.size) (hsb : sb < tb0) : DSt N sb tb0 nb M4 Q3 W1 (.slice (some ⟨b, 0, none⟩) (ts.length + 1) c) wq' sn (ts ++ [y]) := by
  obtain ⟨tb1, tc1, e, oT, oS, ht, hw, hM, hb⟩ := h
  simp only [Value.slice.injEq, Option.some.injEq, Addr.mk.injEq, and_true, true_and] at e
  obtain ⟨rfl, rfl⟩ := e
  have hlt := oT.lt tb rfl
  have hg2 : wq.grownBy wq' (some tb) := hg
  refine ⟨b, c, by simp, by simpa using hO, oS.but hg2 (.inr (by show some sb ≠ some tb; intro e; have := Option.some.inj e; omega)), ?_, win_grown hw hM hg2 ht, Nat.le_trans hM hg2.size, hb.trans (gb_to hg2 (fun k hk => by have := Option.some.inj hk; omega) (by have := (oS.lt sb rfl).2; omega))⟩
  rcases hl with h1 | h1
  · have e : tb = b := Option.some.inj h1; omega
  · right; omega
theorem DSt.pop {N sb tb0 nb M4 : Nat} {Q3 W1 : World} {wq : World} {sn : List Bool} {ts : List Int} {x : Int} {tb tc n : Nat} (h : DSt N sb tb0 nb M4 Q3 W1 (.slice (some ⟨tb, 0, none⟩) n tc) wq sn (ts ++ [x])) : DSt N sb tb0 nb M4 Q3 W1 (.slice (some ⟨tb, 0, none⟩) ts.length tc) wq sn ts := by
  obtain ⟨tb1, tc1, e, oT, oS, ht, hw, hM, hb⟩ := h
  simp only [Value.slice.injEq, Option.some.injEq, Addr.mk.injEq, and_true, true_and] at e
  obtain ⟨rfl, e2, rfl⟩ := e
  have := oT.upto ts.length (by simp)
  rw [List.take_append_of_le_length (Nat.le_refl _), List.take_length] at this
  exact ⟨tb, tc, rfl, this, oS, ht, hw, hM, hb⟩
end Go.Proofs.Ytjnalkeopehlbaa
