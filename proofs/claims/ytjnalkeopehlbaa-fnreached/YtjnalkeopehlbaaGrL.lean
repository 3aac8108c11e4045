import Derived.Test.YtjnalkeopehlbaaGrK
namespace Go.Proofs.Ytjnalkeopehlbaa
open Go.RowKit Go.Maps
set_option linter.unusedVariables false
set_option linter.unusedSimpArgs false

/-- Rows of things that are not all made yet. -/
def shQ : Sh (Option Nat) := ⟨1, by decide, fun o => [.pointer (o.map fun b => ⟨b, 0, none⟩)], fun _ => True, fun _ => rfl, fun a u hu => by simp at hu; subst hu; rfl⟩
def noC : Nat → Int := fun _ => 0
def noR : Nat → Value := fun _ => .slice none 0 0
def noO : Nat → List Nat := fun _ => []
def noM : Nat → List (Nat × Int) := fun _ => []
theorem TS.zero (w : World) (B : Nat) (tb mb : Nat → Nat) : TS w B 0 tb mb noC noR noO noM :=
  ⟨fun _ h => absurd h (Nat.not_lt_zero _), fun _ h => absurd h (Nat.not_lt_zero _), fun _ _ h => absurd h (Nat.not_lt_zero _), fun _ _ h => absurd h (Nat.not_lt_zero _), fun _ h => absurd h (Nat.not_lt_zero _), fun _ h => absurd h (Nat.not_lt_zero _), fun _ h => absurd h (Nat.not_lt_zero _), fun _ _ h => absurd h (Nat.not_lt_zero _), fun _ h => absurd h (Nat.not_lt_zero _), fun _ h => absurd h (Nat.not_lt_zero _)⟩
/-- One thing more. -/
theorem TS.more {w : World} {B k : Nat} {tb mb : Nat → Nat} (h : TS w B k tb mb noC noR noO noM) (hB : B ≤ w.heap.size) (hm : mb k = w.heap.size) (ht : tb k = w.heap.size + 1) :
    TS ((w.alloc (.map #[] 0)).alloc (.cells (thC k 0 w.heap.size (.slice none 0 0)) 78)) B (k + 1) tb mb noC noR noO noM := by
  have b1 : Below w.heap.size w (w.alloc (.map #[] 0)) := (Below.refl _ _).alloc (Nat.le_refl _) _
  have b2 : Below w.heap.size w ((w.alloc (.map #[] 0)).alloc (.cells (thC k 0 w.heap.size (.slice none 0 0)) 78)) := b1.alloc b1.size _
  have hK := h.keep b2
  have h1 : ((w.alloc (.map #[] 0)).alloc (.cells (thC k 0 w.heap.size (.slice none 0 0)) 78)).heap[w.heap.size + 1]? = some (.cells (thC k 0 w.heap.size (.slice none 0 0)) 78 (0, 0)) := by
    have := (MapKept.heap_alloc (w.alloc (.map #[] 0)) (.cells (thC k 0 w.heap.size (.slice none 0 0)) 78)).1
    rw [World.size_alloc] at this
    exact this
  have h2 : ((w.alloc (.map #[] 0)).alloc (.cells (thC k 0 w.heap.size (.slice none 0 0)) 78)).heap[w.heap.size]? = some (.map #[] 0) := by
    rw [(MapKept.heap_alloc (w.alloc (.map #[] 0)) _).2 _ (by rw [World.size_alloc]; omega)]
    exact (MapKept.heap_alloc w _).1
  have hc : ∀ i, i < k + 1 → i < k ∨ i = k := fun i hi => by omega
  refine ⟨fun i hi => ?_, fun i hi => ?_, fun i j hi hj e => ?_, fun i j hi hj e => ?_, fun i hi => ?_, fun i hi p hp => (by cases hp), fun i hi => OwnG.nil _ _ _ _, fun i j hi hj hij => .inl rfl, fun i hi _ => rfl, fun i hi j hj => (by cases hj)⟩
  · rcases hc i hi with h3 | h3
    · exact hK.obj i h3
    · subst h3; rw [ht, hm]; exact h1
  · rcases hc i hi with h3 | h3
    · exact h.low i h3
    · subst h3; rw [ht, hm]; omega
  · rcases hc i hi with h3 | h3 <;> rcases hc j hj with h4 | h4
    · exact h.inj i j h3 h4 e
    · subst h4; have := (h.lt i h3).1; rw [ht] at e; omega
    · subst h3; have := (h.lt j h4).1; rw [ht] at e; omega
    · omega
  · rcases hc i hi with h3 | h3 <;> rcases hc j hj with h4 | h4
    · exact h.injm i j h3 h4 e
    · subst h4; have := (h.lt i h3).2; rw [hm] at e; omega
    · subst h3; have := (h.lt j h4).2; rw [hm] at e; omega
    · omega
  · rcases hc i hi with h3 | h3
    · exact hK.map i h3
    · subst h3; rw [hm]; exact ⟨#[], 0, h2, rfl, fun k h => by simp at h⟩
theorem TS.congr {w : World} {B n1 : Nat} {tb mb : Nat → Nat} {cnt : Nat → Int} {rw : Nat → Value} {ord : Nat → List Nat} {mp : Nat → List (Nat × Int)} (h : TS w B n1 tb mb cnt rw ord mp) {b : Nat} (hb : b < B) (o : Nat) (v : Value) : TS (w.setCell ⟨b, o, none⟩ v) B n1 tb mb cnt rw ord mp := by
  have hoth : ∀ x, B ≤ x → (w.setCell ⟨b, o, none⟩ v).heap[x]? = w.heap[x]? := fun x hx => Below.heap_setCell _ _ _ _ (by show x ≠ b; omega)
  exact ⟨fun i hi => (hoth _ (h.low i hi).1).trans (h.obj i hi), h.low, h.inj, h.injm, fun i hi => (h.map i hi).same (hoth _ (h.low i hi).2), h.keys, fun i hi => (h.row i hi).setBelow hb v, h.apart, h.nil, h.ok⟩
/-- The things are read. -/
theorem TS.rd {w : World} {B n1 : Nat} {tb mb : Nat → Nat} {cnt : Nat → Int} {rw : Nat → Value} {ord : Nat → List Nat} {mp : Nat → List (Nat × Int)} (h : TS w B n1 tb mb cnt rw ord mp) (fb : Nat) (hf : w.heap.size ≤ fb) : TR (fun b => b ≠ fb) w n1 tb ord := by
  refine ⟨fun i hi => ⟨by have := (h.lt i hi).1; omega, (h.lt i hi).1⟩, fun i hi => cell_obj (h.obj i hi) rfl, fun i hi => ?_, h.ok⟩
  rcases Nat.eq_zero_or_pos (ord i).length with h0 | h0
  · have e := List.eq_nil_of_length_eq_zero h0
    refine .inl ⟨e, ?_⟩
    rw [← h.nil i hi e]
    exact cell_obj (h.obj i hi) rfl
  · right
    have hr := h.row i hi
    rcases hr.shape with ⟨h1, h2⟩ | ⟨g, cp, h1, _, _, h2⟩
    · have h3 : (ord i) = [] := by simpa using h2
      rw [h3] at h0; simp at h0
    · have hl : ((ord i).map tb).length = (ord i).length := by simp
      rw [h1] at hr
      have hg := (hr.lt g rfl).2
      refine ⟨g, cp, h0, by omega, hg, ?_, fun k hk => ?_⟩
      · rw [← hl, ← h1]; exact cell_obj (h.obj i hi) rfl
      · have h4 := hr.cell k (by rw [hl]; exact hk) 0 (by decide)
        have e : k * shT.n + 0 = k := by show k * 1 + 0 = k; omega
        rw [e] at h4
        simpa [shT] using h4
theorem TR.weak {P Q : Nat → Prop} {w : World} {n1 : Nat} {tb : Nat → Nat} {ord : Nat → List Nat} (h : TR P w n1 tb ord) (hs : ∀ b, b < w.heap.size → P b → Q b) : TR Q w n1 tb ord := by
  refine ⟨fun i hi => ⟨hs _ (h.at_ i hi).2 (h.at_ i hi).1, (h.at_ i hi).2⟩, h.num, fun i hi => ?_, h.ok⟩
  rcases h.row i hi with h1 | ⟨g, c, h1, h2, h3, h4⟩
  · exact .inl h1
  · exact .inr ⟨g, c, h1, hs _ h3 h2, h3, h4⟩
end Go.Proofs.Ytjnalkeopehlbaa
