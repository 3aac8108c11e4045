import Derived.Test.YtjnalkeopehlbaaGrL
import Derived.Test.YtjnalkeopehlbaaGrS
namespace Go.Proofs.Ytjnalkeopehlbaa
open Go.RowKit Go.Maps
set_option linter.unusedVariables false
set_option linter.unusedSimpArgs false

set_option maxRecDepth 100000 in
theorem isNum_any (x n : Int) (w : World) : Calls Try.prog 29 #[.int .i64 x, .int .i64 n] w fun e w' => e = .returned (.bool (decide (1 ≤ x) && decide (x ≤ n))) ∧ w' = w := by
  go_enter Try.func29, Try.ntmps29
  by_cases h1 : 1 ≤ x
  · by_cases h2 : x ≤ n
    · go_wp2
      go_ret
      exact ⟨by simp [h1, h2], rfl⟩
    · go_wp2
      go_ret
      exact ⟨by simp [h1, h2], rfl⟩
  · go_wp2
    go_ret
    exact ⟨by rw [decide_eq_false (by omega : ¬ 1 ≤ x)]; rfl, rfl⟩
/-- The row of things, so many of them made. -/
structure MK (s0 vb N1 : Nat) (W1 w : World) (k : Nat) : Prop where
  row : ∃ xs : List (Option Nat), OwnG shQ 56 w vb (.slice (some ⟨vb, 0, none⟩) N1 N1) xs ∧ xs.length = N1 ∧ ∀ j, j < k → xs[j]? = some (some (s0 + 2 * j + 1))
  ts : TS w s0 k (fun i => s0 + 2 * i + 1) (fun i => s0 + 2 * i) noC noR noO noM
  size : w.heap.size = s0 + 2 * k
  lt : vb < s0
  below : Below vb W1 w
/-- What a round does: the world behind newThing, and the world behind the store. -/
theorem MK.round {s0 vb N1 : Nat} {W1 w : World} {k : Nat} (h : MK s0 vb N1 W1 w k) (hk : k < N1) :
    (∃ v, ((w.alloc (.map #[] 0)).alloc (.cells (thC k 0 w.heap.size (.slice none 0 0)) 78)).cell? ⟨vb, k, none⟩ = some v) ∧ ((w.alloc (.map #[] 0)).alloc (.cells (thC k 0 w.heap.size (.slice none 0 0)) 78)).frozen? ⟨vb, k, none⟩ = false ∧
    MK s0 vb N1 W1 (((w.alloc (.map #[] 0)).alloc (.cells (thC k 0 w.heap.size (.slice none 0 0)) 78)).setCell ⟨vb, k, none⟩ (.pointer (some ⟨w.heap.size + 1, 0, none⟩))) (k + 1) := by
  obtain ⟨⟨xs, oX, hl, hx⟩, hT, hs, hlt, hb⟩ := h
  have b1 : Below w.heap.size w (w.alloc (.map #[] 0)) := (Below.refl _ _).alloc (Nat.le_refl _) _
  have b2 : Below w.heap.size w ((w.alloc (.map #[] 0)).alloc (.cells (thC k 0 w.heap.size (.slice none 0 0)) 78)) := b1.alloc b1.size _
  have hT2 := (hT.more (by omega) (by rw [hs]) (by rw [hs])).congr hlt k (.pointer (some ⟨w.heap.size + 1, 0, none⟩))
  have hz : ((w.alloc (.map #[] 0)).alloc (.cells (thC k 0 w.heap.size (.slice none 0 0)) 78)).heap.size = w.heap.size + 2 := by rw [World.size_alloc, World.size_alloc]
  have oX2 := oX.keep b2
  have hkx : k < xs.length := by omega
  have e : k * shQ.n + 0 = k := by show k * 1 + 0 = k; omega
  have c1 := oX2.cell k hkx 0 (by decide)
  have oX3 := oX2.put k hkx 0 (by decide) (.pointer (some ⟨w.heap.size + 1, 0, none⟩)) (some (w.heap.size + 1)) trivial rfl
  have hbv := hb.trans (b2.mono (B' := vb) (by omega))
  rw [e] at c1 oX3
  have f1 := oX2.frozen k
  generalize (w.alloc (.map #[] 0)).alloc (.cells (thC k 0 w.heap.size (.slice none 0 0)) 78) = w' at *
  refine ⟨⟨_, c1⟩, f1, ⟨xs.set k (some (w.heap.size + 1)), oX3, by rw [List.length_set]; exact hl, fun j hj => ?_⟩, hT2, ?_, hlt, hbv.setCell (Nat.le_refl _) _⟩
  · rw [List.getElem?_set]
    by_cases ej : k = j
    · subst ej
      rw [if_pos rfl, if_pos hkx, hs]
    · rw [if_neg ej]
      exact hx j (by omega)
  · have : (w'.setCell ⟨vb, k, none⟩ (.pointer (some ⟨w.heap.size + 1, 0, none⟩))).heap.size = w'.heap.size := by simp [World.setCell]
    omega
/-- The things, so many holds done. -/
structure LH (s0 vb N1 : Nat) (W1 w : World) (pre : List Gp) : Prop where
  row : ∀ j, j < N1 → w.cell? ⟨vb, j, none⟩ = some (.pointer (some ⟨s0 + 2 * j + 1, 0, none⟩))
  all : ∃ cnt rw ord mp, TS w s0 N1 (fun i => s0 + 2 * i + 1) (fun i => s0 + 2 * i) cnt rw ord mp ∧ HI pre N1 (fun i => s0 + 2 * i + 1) cnt ord mp
  size : s0 ≤ w.heap.size
  lt : vb < s0
  below : Below vb W1 w
theorem MK.done {s0 vb N1 : Nat} {W1 w : World} (h : MK s0 vb N1 W1 w N1) : LH s0 vb N1 W1 w [] := by
  obtain ⟨⟨xs, oX, hl, hx⟩, hT, hs, hlt, hb⟩ := h
  refine ⟨fun j hj => ?_, ⟨_, _, _, _, hT, HI.start _ _⟩, by omega, hlt, hb⟩
  have c1 := oX.cell j (by omega) 0 (by decide)
  have e : j * shQ.n + 0 = j := by show j * 1 + 0 = j; omega
  have hj2 := hx j hj
  rw [List.getElem?_eq_getElem (by omega), Option.some.injEq] at hj2
  rw [e, hj2] at c1
  exact c1
theorem LH.keep {s0 vb N1 : Nat} {W1 w w' : World} {pre : List Gp} (h : LH s0 vb N1 W1 w pre) (hb : Below w.heap.size w w') : LH s0 vb N1 W1 w' pre := by
  obtain ⟨hr, ⟨cnt, rw, ord, mp, hT, hH⟩, hs, hlt, hB⟩ := h
  exact ⟨fun j hj => (hb.cell (p := ⟨vb, j, none⟩) (show vb < _ by omega)).trans (hr j hj), ⟨cnt, rw, ord, mp, hT.keep hb, hH⟩, Nat.le_trans hs hb.size, hlt, hB.trans (hb.mono (by omega))⟩
theorem LH.hold {s0 vb N1 : Nat} {W1 w w2 : World} {pre : List Gp} (h : LH s0 vb N1 W1 w pre) (hb : Below w.heap.size w w2) (hp : pre.length ≤ 1048576) (i j : Nat) (hi : i < N1) (hj : j < N1) (e0 : Gp) (ha : e0.a = (i : Int)) (hbb : e0.b = (j : Int)) :
    Calls Try.prog 30 #[.pointer (some ⟨s0 + 2 * i + 1, 0, none⟩), .pointer (some ⟨s0 + 2 * j + 1, 0, none⟩)] w2 fun e w' => e = .returned (.tuple #[]) ∧ LH s0 vb N1 W1 w' (pre ++ [e0]) ∧ (∀ b, w.heap.size ≤ b → b < w2.heap.size → w'.heap[b]? = w2.heap[b]?) ∧ w2.heap.size ≤ w'.heap.size := by
  obtain ⟨hr, ⟨cnt, rw, ord, mp, hT, hH⟩, hs, hlt, hB⟩ := id h
  have h2 := h.keep hb
  have hle := hH.le i j hi hj
  have hcn := hH.cnt j hj
  have hol := lenR_one ord N1 i hi
  have hln := hH.len
  refine (hold_any s0 N1 i j _ _ cnt rw ord mp w2 (hT.keep hb) hi hj ⟨hle.1, by omega⟩ ⟨hcn.1, by omega⟩ (by omega) h2.size).mono ?_
  rintro e w' ⟨rfl, rw', hT3, b3, q3⟩
  refine ⟨rfl, ⟨fun k hk => (b3.cell (p := ⟨vb, k, none⟩) hlt).trans (h2.row k hk), ⟨_, _, _, _, hT3, hH.step hT.inj i j hi hj e0 ha hbb⟩, Nat.le_trans h2.size b3.size, hlt, h2.below.trans (b3.mono (by omega))⟩, fun b h1 h4 => ?_, b3.size⟩
  have l1 := hT.lt i hi
  have l2 := hT.lt j hj
  refine q3 b h4 (by show b ≠ s0 + 2 * i + 1; omega) (by show b ≠ s0 + 2 * j + 1; omega) (by show b ≠ s0 + 2 * i; omega) (fun e => ?_)
  have := ((hT.row i hi).lt b e).2
  omega
end Go.Proofs.Ytjnalkeopehlbaa
