import Derived.Test.YtjnalkeopehlbaaGrK
import Derived.Test.YtjnalkeopehlbaaGrS
namespace Go.Proofs.Ytjnalkeopehlbaa
open Go.RowKit Go.Maps
set_option linter.unusedVariables false
set_option linter.unusedSimpArgs false

/-- Rows of things that are not all made yet. -/
def shQ : Sh (Option Nat) := ⟨1, by decide, fun o => [.pointer (o.map fun b => ⟨b, 0, none⟩)], fun _ => True, fun _ => rfl, fun a u hu => by simp at hu; subst hu; rfl⟩
def noC : Nat → Int := fun _ => 0
def noR : Nat → Value := fun _ => .slice none 0 0
def noO : Nat → List Nat := fun _ => []
def noM : Nat → List (Nat × Int) := fun _ => []
theorem TS.zero (w : World) (B : Nat) (tb mb : Nat → Nat) : TS w B 0 tb mb noC noR noO noM :=
  ⟨fun _ h => absurd h (Nat.not_lt_zero _), fun _ h => absurd h (Nat.not_lt_zero _), fun _ _ h => absurd h (Nat.not_lt_zero _), fun _ _ h => absurd h (Nat.not_lt_zero _), fun _ h => absurd h (Nat.not_lt_zero _), fun _ h => absurd h (Nat.not_lt_zero _), fun _ h => absurd h (Nat.not_lt_zero _), fun _ _ h => absurd h (Nat.not_lt_zero _), fun _ h => absurd h (Nat.not_lt_zero _), fun _ h => absurd h (Nat.not_lt_zero _)⟩
/-- One thing more. -/
theorem TS.more {w : World} {B k : Nat} {tb mb : Nat → Nat} (h : TS w B k tb mb noC noR noO noM) (hB : B ≤ w.heap.size) (hm : mb k = w.heap.size) (ht : tb k = w.heap.size + 1) :
    TS ((w.alloc (.map #[] 0)).alloc (.cells (thC k 0 w.heap.size (.slice none 0 0)) 78)) B (k + 1) tb mb noC noR noO noM := by
  have b1 : Below w.heap.size w (w.alloc (.map #[] 0)) := (Below.refl _ _).alloc (Nat.le_refl _) _
  have b2 : Below w.heap.size w ((w.alloc (.map #[] 0)).alloc (.cells (thC k 0 w.heap.size (.slice none 0 0)) 78)) := b1.alloc b1.size _
  have hK := h.keep b2
  have h1 : ((w.alloc (.map #[] 0)).alloc (.cells (thC k 0 w.heap.size (.slice none 0 0)) 78)).heap[w.heap.size + 1]? = some (.cells (thC k 0 w.heap.size (.slice none 0 0)) 78 (0, 0)) := by
    have := (MapKept.heap_alloc (w.alloc (.map #[] 0)) (.cells (thC k 0 w.heap.size (.slice none 0 0)) 78)).1
    rw [World.size_alloc] at this
    exact this
  have h2 : ((w.alloc (.map #[] 0)).alloc (.cells (thC k 0 w.heap.size (.slice none 0 0)) 78)).heap[w.heap.size]? = some (.map #[] 0) := by
    rw [(MapKept.heap_alloc (w.alloc (.map #[] 0)) _).2 _ (by rw [World.size_alloc]; omega)]
    exact (MapKept.heap_alloc w _).1
  have hc : ∀ i, i < k + 1 → i < k ∨ i = k := fun i hi => by omega
  refine ⟨fun i hi => ?_, fun i hi => ?_, fun i j hi hj e => ?_, fun i j hi hj e => ?_, fun i hi => ?_, fun i hi p hp => (by cases hp), fun i hi => OwnG.nil _ _ _ _, fun i j hi hj hij => .inl rfl, fun i hi _ => rfl, fun i hi j hj => (by cases hj)⟩
  · rcases hc i hi with h3 | h3
    · exact hK.obj i h3
    · subst h3; rw [ht, hm]; exact h1
  · rcases hc i hi with h3 | h3
    · exact h.low i h3
    · subst h3; rw [ht, hm]; omega
  · rcases hc i hi with h3 | h3 <;> rcases hc j hj with h4 | h4
    · exact h.inj i j h3 h4 e
    · subst h4; have := (h.lt i h3).1; rw [ht] at e; omega
    · subst h3; have := (h.lt j h4).1; rw [ht] at e; omega
    · omega
  · rcases hc i hi with h3 | h3 <;> rcases hc j hj with h4 | h4
    · exact h.injm i j h3 h4 e
    · subst h4; have := (h.lt i h3).2; rw [hm] at e; omega
    · subst h3; have := (h.lt j h4).2; rw [hm] at e; omega
    · omega
  · rcases hc i hi with h3 | h3
    · exact hK.map i h3
    · subst h3; rw [hm]; exact ⟨#[], 0, h2, rfl, fun k h => by simp at h⟩
theorem TS.congr {w : World} {B n1 : Nat} {tb mb : Nat → Nat} {cnt : Nat → Int} {rw : Nat → Value} {ord : Nat → List Nat} {mp : Nat → List (Nat × Int)} (h : TS w B n1 tb mb cnt rw ord mp) {b : Nat} (hb : b < B) (o : Nat) (v : Value) : TS (w.setCell ⟨b, o, none⟩ v) B n1 tb mb cnt rw ord mp := by
  have hoth : ∀ x, B ≤ x → (w.setCell ⟨b, o, none⟩ v).heap[x]? = w.heap[x]? := fun x hx => Below.heap_setCell _ _ _ _ (by show x ≠ b; omega)
  exact ⟨fun i hi => (hoth _ (h.low i hi).1).trans (h.obj i hi), h.low, h.inj, h.injm, fun i hi => (h.map i hi).same (hoth _ (h.low i hi).2), h.keys, fun i hi => (h.row i hi).setBelow hb v, h.apart, h.nil, h.ok⟩
/-- The things are read. -/
theorem TS.rd {w : World} {B n1 : Nat} {tb mb : Nat → Nat} {cnt : Nat → Int} {rw : Nat → Value} {ord : Nat → List Nat} {mp : Nat → List (Nat × Int)} (h : TS w B n1 tb mb cnt rw ord mp) (fb : Nat) (hf : w.heap.size ≤ fb) : TR (fun b => b ≠ fb) w n1 tb ord := by
  refine ⟨fun i hi => ⟨by have := (h.lt i hi).1; omega, (h.lt i hi).1⟩, fun i hi => cell_obj (h.obj i hi) rfl, fun i hi => ?_, h.ok⟩
  rcases Nat.eq_zero_or_pos (ord i).length with h0 | h0
  · have e := List.eq_nil_of_length_eq_zero h0
    refine .inl ⟨e, ?_⟩
    rw [← h.nil i hi e]
    exact cell_obj (h.obj i hi) rfl
  · right
    have hr := h.row i hi
    rcases hr.shape with ⟨h1, h2⟩ | ⟨g, cp, h1, _, _, h2⟩
    · have h3 : (ord i) = [] := by simpa using h2
      rw [h3] at h0; simp at h0
    · have hl : ((ord i).map tb).length = (ord i).length := by simp
      rw [h1] at hr
      have hg := (hr.lt g rfl).2
      refine ⟨g, cp, h0, by omega, hg, ?_, fun k hk => ?_⟩
      · rw [← hl, ← h1]; exact cell_obj (h.obj i hi) rfl
      · have h4 := hr.cell k (by rw [hl]; exact hk) 0 (by decide)
        have e : k * shT.n + 0 = k := by show k * 1 + 0 = k; omega
        rw [e] at h4
        simpa [shT] using h4
theorem TR.weak {P Q : Nat → Prop} {w : World} {n1 : Nat} {tb : Nat → Nat} {ord : Nat → List Nat} (h : TR P w n1 tb ord) (hs : ∀ b, b < w.heap.size → P b → Q b) : TR Q w n1 tb ord := by
  refine ⟨fun i hi => ⟨hs _ (h.at_ i hi).2 (h.at_ i hi).1, (h.at_ i hi).2⟩, h.num, fun i hi => ?_, h.ok⟩
  rcases h.row i hi with h1 | ⟨g, c, h1, h2, h3, h4⟩
  · exact .inl h1
  · exact .inr ⟨g, c, h1, hs _ h3 h2, h3, h4⟩
end Go.Proofs.Ytjnalkeopehlbaa

namespace Go.Proofs.Ytjnalkeopehlbaa
open Go.RowKit Go.Maps
set_option linter.unusedVariables false
set_option linter.unusedSimpArgs false

set_option maxRecDepth 100000 in
theorem isNum_any (x n : Int) (w : World) : Calls Try.prog 29 #[.int .i64 x, .int .i64 n] w fun e w' => e = .returned (.bool (decide (1 ≤ x) && decide (x ≤ n))) ∧ w' = w := by
  go_enter Try.func29, Try.ntmps29
  by_cases h1 : 1 ≤ x
  · by_cases h2 : x ≤ n
    · go_wp2
      go_ret
      exact ⟨by simp [h1, h2], rfl⟩
    · go_wp2
      go_ret
      exact ⟨by simp [h1, h2], rfl⟩
  · go_wp2
    go_ret
    exact ⟨by rw [decide_eq_false (by omega : ¬ 1 ≤ x)]; rfl, rfl⟩
/-- The row of things, so many of them made. -/
structure MK (s0 vb N1 : Nat) (W1 w : World) (k : Nat) : Prop where
  row : ∃ xs : List (Option Nat), OwnG shQ 56 w vb (.slice (some ⟨vb, 0, none⟩) N1 N1) xs ∧ xs.length = N1 ∧ ∀ j, j < k → xs[j]? = some (some (s0 + 2 * j + 1))
  ts : TS w s0 k (fun i => s0 + 2 * i + 1) (fun i => s0 + 2 * i) noC noR noO noM
  size : w.heap.size = s0 + 2 * k
  lt : vb < s0
  below : Below vb W1 w
/-- What a round does: the world behind newThing, and the world behind the store. -/
theorem MK.round {s0 vb N1 : Nat} {W1 w : World} {k : Nat} (h : MK s0 vb N1 W1 w k) (hk : k < N1) :
    (∃ v, ((w.alloc (.map #[] 0)).alloc (.cells (thC k 0 w.heap.size (.slice none 0 0)) 78)).cell? ⟨vb, k, none⟩ = some v) ∧ ((w.alloc (.map #[] 0)).alloc (.cells (thC k 0 w.heap.size (.slice none 0 0)) 78)).frozen? ⟨vb, k, none⟩ = false ∧
    MK s0 vb N1 W1 (((w.alloc (.map #[] 0)).alloc (.cells (thC k 0 w.heap.size (.slice none 0 0)) 78)).setCell ⟨vb, k, none⟩ (.pointer (some ⟨w.heap.size + 1, 0, none⟩))) (k + 1) := by
  obtain ⟨⟨xs, oX, hl, hx⟩, hT, hs, hlt, hb⟩ := h
  have b1 : Below w.heap.size w (w.alloc (.map #[] 0)) := (Below.refl _ _).alloc (Nat.le_refl _) _
  have b2 : Below w.heap.size w ((w.alloc (.map #[] 0)).alloc (.cells (thC k 0 w.heap.size (.slice none 0 0)) 78)) := b1.alloc b1.size _
  have hT2 := (hT.more (by omega) (by rw [hs]) (by rw [hs])).congr hlt k (.pointer (some ⟨w.heap.size + 1, 0, none⟩))
  have hz : ((w.alloc (.map #[] 0)).alloc (.cells (thC k 0 w.heap.size (.slice none 0 0)) 78)).heap.size = w.heap.size + 2 := by rw [World.size_alloc, World.size_alloc]
  have oX2 := oX.keep b2
  have hkx : k < xs.length := by omega
  have e : k * shQ.n + 0 = k := by show k * 1 + 0 = k; omega
  have c1 := oX2.cell k hkx 0 (by decide)
  have oX3 := oX2.put k hkx 0 (by decide) (.pointer (some ⟨w.heap.size + 1, 0, none⟩)) (some (w.heap.size + 1)) trivial rfl
  have hbv := hb.trans (b2.mono (B' := vb) (by omega))
  rw [e] at c1 oX3
  have f1 := oX2.frozen k
  generalize (w.alloc (.map #[] 0)).alloc (.cells (thC k 0 w.heap.size (.slice none 0 0)) 78) = w' at *
  refine ⟨⟨_, c1⟩, f1, ⟨xs.set k (some (w.heap.size + 1)), oX3, by rw [List.length_set]; exact hl, fun j hj => ?_⟩, hT2, ?_, hlt, hbv.setCell (Nat.le_refl _) _⟩
  · rw [List.getElem?_set]
    by_cases ej : k = j
    · subst ej
      rw [if_pos rfl, if_pos hkx, hs]
    · rw [if_neg ej]
      exact hx j (by omega)
  · have : (w'.setCell ⟨vb, k, none⟩ (.pointer (some ⟨w.heap.size + 1, 0, none⟩))).heap.size = w'.heap.size := by simp [World.setCell]
    omega
/-- The things, so many holds done. -/
structure LH (s0 vb N1 : Nat) (W1 w : World) (pre : List Gp) : Prop where
  row : ∀ j, j < N1 → w.cell? ⟨vb, j, none⟩ = some (.pointer (some ⟨s0 + 2 * j + 1, 0, none⟩))
  all : ∃ cnt rw ord mp, TS w s0 N1 (fun i => s0 + 2 * i + 1) (fun i => s0 + 2 * i) cnt rw ord mp ∧ HI pre N1 (fun i => s0 + 2 * i + 1) cnt ord mp
  size : s0 ≤ w.heap.size
  lt : vb < s0
  below : Below vb W1 w
theorem MK.done {s0 vb N1 : Nat} {W1 w : World} (h : MK s0 vb N1 W1 w N1) : LH s0 vb N1 W1 w [] := by
  obtain ⟨⟨xs, oX, hl, hx⟩, hT, hs, hlt, hb⟩ := h
  refine ⟨fun j hj => ?_, ⟨_, _, _, _, hT, HI.start _ _⟩, by omega, hlt, hb⟩
  have c1 := oX.cell j (by omega) 0 (by decide)
  have e : j * shQ.n + 0 = j := by show j * 1 + 0 = j; omega
  have hj2 := hx j hj
  rw [List.getElem?_eq_getElem (by omega), Option.some.injEq] at hj2
  rw [e, hj2] at c1
  exact c1
theorem LH.keep {s0 vb N1 : Nat} {W1 w w' : World} {pre : List Gp} (h : LH s0 vb N1 W1 w pre) (hb : Below w.heap.size w w') : LH s0 vb N1 W1 w' pre := by
  obtain ⟨hr, ⟨cnt, rw, ord, mp, hT, hH⟩, hs, hlt, hB⟩ := h
  exact ⟨fun j hj => (hb.cell (p := ⟨vb, j, none⟩) (show vb < _ by omega)).trans (hr j hj), ⟨cnt, rw, ord, mp, hT.keep hb, hH⟩, Nat.le_trans hs hb.size, hlt, hB.trans (hb.mono (by omega))⟩
theorem LH.hold {s0 vb N1 : Nat} {W1 w w2 : World} {pre : List Gp} (h : LH s0 vb N1 W1 w pre) (hb : Below w.heap.size w w2) (hp : pre.length ≤ 1048576) (i j : Nat) (hi : i < N1) (hj : j < N1) (e0 : Gp) (ha : e0.a = (i : Int)) (hbb : e0.b = (j : Int)) :
    Calls Try.prog 30 #[.pointer (some ⟨s0 + 2 * i + 1, 0, none⟩), .pointer (some ⟨s0 + 2 * j + 1, 0, none⟩)] w2 fun e w' => e = .returned (.tuple #[]) ∧ LH s0 vb N1 W1 w' (pre ++ [e0]) ∧ (∀ b, w.heap.size ≤ b → b < w2.heap.size → w'.heap[b]? = w2.heap[b]?) ∧ w2.heap.size ≤ w'.heap.size := by
  obtain ⟨hr, ⟨cnt, rw, ord, mp, hT, hH⟩, hs, hlt, hB⟩ := id h
  have h2 := h.keep hb
  have hle := hH.le i j hi hj
  have hcn := hH.cnt j hj
  have hol := lenR_one ord N1 i hi
  have hln := hH.len
  refine (hold_any s0 N1 i j _ _ cnt rw ord mp w2 (hT.keep hb) hi hj ⟨hle.1, by omega⟩ ⟨hcn.1, by omega⟩ (by omega) h2.size).mono ?_
  rintro e w' ⟨rfl, rw', hT3, b3, q3⟩
  refine ⟨rfl, ⟨fun k hk => (b3.cell (p := ⟨vb, k, none⟩) hlt).trans (h2.row k hk), ⟨_, _, _, _, hT3, hH.step hT.inj i j hi hj e0 ha hbb⟩, Nat.le_trans h2.size b3.size, hlt, h2.below.trans (b3.mono (by omega))⟩, fun b h1 h4 => ?_, b3.size⟩
  have l1 := hT.lt i hi
  have l2 := hT.lt j hj
  refine q3 b h4 (by show b ≠ s0 + 2 * i + 1; omega) (by show b ≠ s0 + 2 * j + 1; omega) (by show b ≠ s0 + 2 * i; omega) (fun e => ?_)
  have := ((hT.row i hi).lt b e).2
  omega
end Go.Proofs.Ytjnalkeopehlbaa
