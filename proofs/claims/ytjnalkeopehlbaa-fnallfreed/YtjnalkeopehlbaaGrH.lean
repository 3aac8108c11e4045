import Derived.Test.YtjnalkeopehlbaaGrR
namespace Go.Proofs.Ytjnalkeopehlbaa
open Go.RowKit Go.Maps
set_option linter.unusedVariables false
set_option linter.unusedSimpArgs false

theorem cell_obj {w : World} {b o : Nat} {c : Array Value} {t : TypeId} {v : Value} (h : w.heap[b]? = some (.cells c t (0, 0))) (hv : c[o]? = some v) : w.cell? ⟨b, o, none⟩ = some v := by
  unfold World.cell?
  simp [h, hv]
theorem frozen_obj {w : World} {b o : Nat} {c : Array Value} {t : TypeId} (h : w.heap[b]? = some (.cells c t (0, 0))) : w.frozen? ⟨b, o, none⟩ = false := by
  unfold World.frozen?
  simp [h]
/-- All things, as they lie. -/
structure TS (w : World) (B n1 : Nat) (tb mb : Nat → Nat) (cnt : Nat → Int) (rw : Nat → Value) (ord : Nat → List Nat) (mp : Nat → List (Nat × Int)) : Prop where
  obj : ∀ i, i < n1 → w.heap[tb i]? = some (.cells (thC i (cnt i) (mb i) (rw i)) 78 (0, 0))
  low : ∀ i, i < n1 → B ≤ tb i ∧ B ≤ mb i
  inj : ∀ i j, i < n1 → j < n1 → tb i = tb j → i = j
  injm : ∀ i j, i < n1 → j < n1 → mb i = mb j → i = j
  map : ∀ i, i < n1 → PM w (mb i) (mp i)
  keys : ∀ i, i < n1 → ∀ p ∈ mp i, ∃ j, j < n1 ∧ p.1 = tb j
  row : ∀ i, i < n1 → OwnG shT 56 w B (rw i) ((ord i).map tb)
  apart : ∀ i j, i < n1 → j < n1 → i ≠ j → (rw i).ownBlock = none ∨ (rw i).ownBlock ≠ (rw j).ownBlock
  nil : ∀ i, i < n1 → ord i = [] → rw i = .slice none 0 0
  ok : ∀ i, i < n1 → ∀ j ∈ ord i, j < n1
theorem TS.lt {w : World} {B n1 : Nat} {tb mb : Nat → Nat} {cnt : Nat → Int} {rw : Nat → Value} {ord : Nat → List Nat} {mp : Nat → List (Nat × Int)} (h : TS w B n1 tb mb cnt rw ord mp) (i : Nat) (hi : i < n1) : tb i < w.heap.size ∧ mb i < w.heap.size := by
  constructor
  · rcases Nat.lt_or_ge (tb i) w.heap.size with h1 | h1
    · exact h1
    · have := h.obj i hi; rw [Array.getElem?_eq_none h1] at this; cases this
  · obtain ⟨es, cl, h2, _⟩ := h.map i hi
    rcases Nat.lt_or_ge (mb i) w.heap.size with h1 | h1
    · exact h1
    · rw [Array.getElem?_eq_none h1] at h2; cases h2
theorem TS.pl {w : World} {B n1 : Nat} {tb mb : Nat → Nat} {cnt : Nat → Int} {rw : Nat → Value} {ord : Nat → List Nat} {mp : Nat → List (Nat × Int)} (h : TS w B n1 tb mb cnt rw ord mp) (i : Nat) (hi : i < n1) : Pl w (tb i) := ⟨_, _, h.obj i hi⟩
theorem TS.plk {w : World} {B n1 : Nat} {tb mb : Nat → Nat} {cnt : Nat → Int} {rw : Nat → Value} {ord : Nat → List Nat} {mp : Nat → List (Nat × Int)} (h : TS w B n1 tb mb cnt rw ord mp) (i : Nat) (hi : i < n1) : ∀ p ∈ mp i, Pl w p.1 := fun p hp => by
  obtain ⟨j, hj, e⟩ := h.keys i hi p hp
  rw [e]; exact h.pl j hj
/-- Blocks of unlike kinds. -/
theorem TS.tm {w : World} {B n1 : Nat} {tb mb : Nat → Nat} {cnt : Nat → Int} {rw : Nat → Value} {ord : Nat → List Nat} {mp : Nat → List (Nat × Int)} (h : TS w B n1 tb mb cnt rw ord mp) (i j : Nat) (hi : i < n1) (hj : j < n1) : tb i ≠ mb j := fun e => by
  have h1 := h.obj i hi
  obtain ⟨es, cl, h2, _⟩ := h.map j hj
  rw [e, h2] at h1
  cases h1
theorem OwnG.objT {α : Type} {S : Sh α} {T : TypeId} {w : World} {B g : Nat} {v : Value} {xs : List α} (h : OwnG S T w B v xs) (hg : v.ownBlock = some g) : ∃ cur, w.heap[g]? = some (.cells cur T (0, 0)) := by
  rcases h.1.2 with ⟨e, _⟩ | ⟨g', cap, cur, e, _, hh, _⟩
  · rw [e] at hg; cases hg
  · rw [e] at hg
    have : g' = g := Option.some.inj hg
    rw [← this]; exact ⟨cur, hh⟩
theorem TS.tr {w : World} {B n1 : Nat} {tb mb : Nat → Nat} {cnt : Nat → Int} {rw : Nat → Value} {ord : Nat → List Nat} {mp : Nat → List (Nat × Int)} (h : TS w B n1 tb mb cnt rw ord mp) (i j : Nat) (hi : i < n1) (hj : j < n1) : (rw j).ownBlock ≠ some (tb i) := fun e => by
  obtain ⟨cur, h1⟩ := (h.row j hj).objT e
  rw [h.obj i hi] at h1
  simp only [Option.some.injEq, Obj.cells.injEq] at h1
  exact absurd h1.2.1 (by decide)
theorem TS.mr {w : World} {B n1 : Nat} {tb mb : Nat → Nat} {cnt : Nat → Int} {rw : Nat → Value} {ord : Nat → List Nat} {mp : Nat → List (Nat × Int)} (h : TS w B n1 tb mb cnt rw ord mp) (i j : Nat) (hi : i < n1) (hj : j < n1) : (rw j).ownBlock ≠ some (mb i) := fun e => by
  obtain ⟨cur, h1⟩ := (h.row j hj).objT e
  obtain ⟨es, cl, h2, _⟩ := h.map i hi
  rw [h2] at h1
  cases h1
theorem PM.same {w w' : World} {m : Nat} {ps : List (Nat × Int)} (h : PM w m ps) (hs : w'.heap[m]? = w.heap[m]?) : PM w' m ps := by
  obtain ⟨es, cl, h1, h2⟩ := h
  exact ⟨es, cl, hs.trans h1, h2⟩
/-- One more count. -/
theorem TS.count {w : World} {B n1 : Nat} {tb mb : Nat → Nat} {cnt : Nat → Int} {rw : Nat → Value} {ord : Nat → List Nat} {mp : Nat → List (Nat × Int)} (h : TS w B n1 tb mb cnt rw ord mp) (j : Nat) (hj : j < n1) (c : Int) : TS (w.setCell ⟨tb j, 2, none⟩ (.int .i64 c)) B n1 tb mb (fun k => if k = j then c else cnt k) rw ord mp := by
  have hoth : ∀ b, b ≠ tb j → (w.setCell ⟨tb j, 2, none⟩ (.int .i64 c)).heap[b]? = w.heap[b]? := fun b hb => Below.heap_setCell _ _ _ _ hb
  refine ⟨fun i hi => ?_, h.low, h.inj, h.injm, fun i hi => (h.map i hi).same (hoth _ (fun e => h.tm j i hj hi e.symm)), h.keys, fun i hi => (h.row i hi).but (gb_set w (tb j) 2 _) (.inr (h.tr j i hj hi)), h.apart, h.nil, h.ok⟩
  by_cases e : i = j
  · subst e
    rw [if_pos rfl, heap_setCell_same w (tb i) 2 _ _ _ (h.obj i hi)]
    rfl
  · rw [if_neg e, hoth _ (fun e2 => e (h.inj i j hi hj e2))]
    exact h.obj i hi
/-- The map of one of them turns. -/
theorem TS.mapped {w w' : World} {B n1 : Nat} {tb mb : Nat → Nat} {cnt : Nat → Int} {rw : Nat → Value} {ord : Nat → List Nat} {mp : Nat → List (Nat × Int)} (h : TS w B n1 tb mb cnt rw ord mp) (i j : Nat) (hi : i < n1) (hj : j < n1) (c : Int) (hP : PM w' (mb i) (setM (mp i) (tb j) c)) (hg : w.grownBy w' (some (mb i))) : TS w' B n1 tb mb cnt rw ord (fun k => if k = i then setM (mp i) (tb j) c else mp k) := by
  refine ⟨fun k hk => (hg.block _ (h.lt k hk).1 (by intro e; exact h.tm k i hk hi (Option.some.inj e))).trans (h.obj k hk), h.low, h.inj, h.injm, fun k hk => ?_, fun k hk p hp => ?_, fun k hk => (h.row k hk).but hg (.inr (h.mr i k hi hk)), h.apart, h.nil, h.ok⟩
  · by_cases e : k = i
    · subst e; rw [if_pos rfl]; exact hP
    · rw [if_neg e]
      exact (h.map k hk).same (hg.block _ (h.lt k hk).2 (by intro e2; exact e (h.injm k i hk hi (Option.some.inj e2))))
  · by_cases e : k = i
    · subst e
      rw [if_pos rfl] at hp
      have hmem : ∀ (ps : List (Nat × Int)) (p : Nat × Int), p ∈ setM ps (tb j) c → p ∈ ps ∨ p.1 = tb j := by
        intro ps
        induction ps with
        | nil => intro p hp; simp [setM] at hp; exact .inr (by rw [hp])
        | cons q r ih =>
          intro p hp
          unfold setM at hp
          split at hp
          · rcases List.mem_cons.1 hp with h1 | h1
            · exact .inr (by rw [h1])
            · exact .inl (List.mem_cons_of_mem _ h1)
          · rcases List.mem_cons.1 hp with h1 | h1
            · exact .inl (by rw [h1]; simp)
            · exact (ih p h1).imp (List.mem_cons_of_mem _) id
      rcases hmem _ _ hp with h1 | h1
      · exact h.keys k hk p h1
      · exact ⟨j, hj, h1⟩
    · rw [if_neg e] at hp
      exact h.keys k hk p hp
/-- The row of one of them grows. -/
theorem TS.longer {w w' : World} {B n1 : Nat} {tb mb : Nat → Nat} {cnt : Nat → Int} {rw : Nat → Value} {ord : Nat → List Nat} {mp : Nat → List (Nat × Int)} (h : TS w B n1 tb mb cnt rw ord mp) (i j : Nat) (hi : i < n1) (hj : j < n1) (b n c : Nat) (hO : OwnG shT 56 w' B (.slice (some ⟨b, 0, none⟩) n c) ((ord i ++ [j]).map tb)) (hg : w.grownBy w' (rw i).ownBlock) (hl : (rw i).ownBlock = some b ∨ b = w.heap.size) :
    TS (w'.setCell ⟨tb i, 7, none⟩ (.slice (some ⟨b, 0, none⟩) n c)) B n1 tb mb cnt (fun k => if k = i then .slice (some ⟨b, 0, none⟩) n c else rw k) (fun k => if k = i then ord i ++ [j] else ord k) mp := by
  have hb1 : ∀ k, k < n1 → w'.heap[tb k]? = w.heap[tb k]? := fun k hk => hg.block _ (h.lt k hk).1 (fun e => h.tr k i hk hi e.symm)
  have hb2 : ∀ k, k < n1 → w'.heap[mb k]? = w.heap[mb k]? := fun k hk => hg.block _ (h.lt k hk).2 (fun e => h.mr k i hk hi e.symm)
  have hoth : ∀ x, x ≠ tb i → (w'.setCell ⟨tb i, 7, none⟩ (.slice (some ⟨b, 0, none⟩) n c)).heap[x]? = w'.heap[x]? := fun x hx => Below.heap_setCell _ _ _ _ hx
  have key : ∀ k, k < n1 → k ≠ i → (rw k).ownBlock = none ∨ (rw k).ownBlock ≠ some b := by
    intro k hk hne
    rcases h.apart k i hk hi hne with h1 | h1
    · exact .inl h1
    · rcases hl with h2 | h2
      · rw [h2] at h1; exact .inr h1
      · right; intro e
        have := ((h.row k hk).lt b e).2
        omega
  have hnb : some b ≠ some (tb i) := by
    intro e
    rcases hl with h2 | h2
    · exact h.tr i i hi hi (h2.trans e)
    · have := (h.lt i hi).1; have := Option.some.inj e; omega
  have gs := gb_set w' (tb i) 7 (.slice (some ⟨b, 0, none⟩) n c)
  refine ⟨fun k hk => ?_, h.low, h.inj, h.injm, fun k hk => (h.map k hk).same ((hoth _ (fun e => h.tm i k hi hk e.symm)).trans (hb2 k hk)), h.keys, fun k hk => ?_, fun k l hk hl2 hkl => ?_, fun k hk => ?_, fun k hk x hx => ?_⟩
  · by_cases e : k = i
    · subst e
      rw [if_pos rfl, heap_setCell_same w' (tb k) 7 _ _ _ ((hb1 k hk).trans (h.obj k hk))]
      rfl
    · rw [if_neg e, hoth _ (fun e2 => e (h.inj k i hk hi e2)), hb1 k hk]
      exact h.obj k hk
  · by_cases e : k = i
    · subst e
      rw [if_pos rfl, if_pos rfl]
      exact hO.but gs (.inr hnb)
    · rw [if_neg e, if_neg e]
      have h1 := (h.row k hk).but hg (h.apart k i hk hi e)
      exact h1.but gs (.inr (h.tr i k hi hk))
  · by_cases e : k = i
    · subst e
      rw [if_pos rfl, if_neg (fun e => hkl e.symm)]
      rcases key l hl2 (fun e => hkl e.symm) with h1 | h1
      · right; rw [h1]; intro e; cases e
      · right; exact fun e => h1 e.symm
    · rw [if_neg e]
      by_cases e2 : l = i
      · subst e2; rw [if_pos rfl]; exact key k hk e
      · rw [if_neg e2]; exact h.apart k l hk hl2 hkl
  · by_cases e : k = i
    · subst e; rw [if_pos rfl]; intro h1; simp at h1
    · rw [if_neg e, if_neg e]; exact h.nil k hk
  · by_cases e : k = i
    · subst e
      rw [if_pos rfl, List.mem_append, List.mem_singleton] at hx
      rcases hx with h1 | h1
      · exact h.ok k hk x h1
      · rw [h1]; exact hj
    · rw [if_neg e] at hx; exact h.ok k hk x hx
theorem TS.keep {w w' : World} {B n1 : Nat} {tb mb : Nat → Nat} {cnt : Nat → Int} {rw : Nat → Value} {ord : Nat → List Nat} {mp : Nat → List (Nat × Int)} (h : TS w B n1 tb mb cnt rw ord mp) (hb : Below w.heap.size w w') : TS w' B n1 tb mb cnt rw ord mp :=
  ⟨fun i hi => (hb.block _ (h.lt i hi).1).trans (h.obj i hi), h.low, h.inj, h.injm, fun i hi => (h.map i hi).same (hb.block _ (h.lt i hi).2), h.keys, fun i hi => (h.row i hi).keep hb, h.apart, h.nil, h.ok⟩
end Go.Proofs.Ytjnalkeopehlbaa
