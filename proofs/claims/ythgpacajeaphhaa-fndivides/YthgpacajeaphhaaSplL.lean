import Derived.Test.YthgpacajeaphhaaNum
import Derived.Laws.CopyOwn
namespace Go.Proofs.Ythgpacajeaphhaa
open Go.RowKit
set_option linter.unusedVariables false
set_option linter.unusedSimpArgs false

theorem map_splice (xs : List Int) (n : Nat) (h : xs.length ≤ n) : splice ((List.replicate n (0 : Int)).map (Value.int .u32)) 0 (xs.map (Value.int .u32)) = (xs ++ List.replicate (n - xs.length) 0).map (Value.int .u32) := by
  unfold splice
  simp
theorem val_zeros (n : Nat) : val (List.replicate n 0) = 0 := by
  induction n with
  | zero => rfl
  | succ n ih => rw [List.replicate_succ]; simp [val, ih]

theorem Rd.src {w : World} {a : Option Addr} {n cap : Nat} {zs : List Int} (h : Rd w (.slice a n cap) zs) (h0 : 0 < (zs.map (Value.int .u32)).length) : ∃ ad, a = some ad ∧ ∀ j v, (zs.map (Value.int .u32))[j]? = some v → w.cell? (ad.add j) = some v := by
  obtain ⟨a', cap', hv, hl, hz, hn, hc⟩ := h
  simp at hv
  obtain ⟨rfl, rfl, rfl⟩ := hv
  obtain ⟨b, off, rfl, hb, hcell⟩ := hc (by simpa using h0)
  refine ⟨_, rfl, fun j v hj => ?_⟩
  have hjl : j < zs.length := by
    rcases Nat.lt_or_ge j zs.length with h1 | h1
    · exact h1
    · rw [List.getElem?_eq_none (by simpa using h1)] at hj; cases hj
  have := hcell j hjl
  simp [hjl] at hj
  rw [← hj]
  have e : (⟨b, off, none⟩ : Addr).add j = ⟨b, off + j, none⟩ := by
    unfold Addr.add
    by_cases h : j = 0
    · simp [h]
    · simp [h]
  rw [e]
  simpa [List.getD, hjl] using this

theorem Own.row {w : World} {B g n : Nat} {zs : List Int} (h : Own w B (.slice (some ⟨g, 0, none⟩) n n) zs) : w.heap[g]? = some (.cells (zs.map (Value.int .u32)).toArray 49 (0, 0)) ∧ B ≤ g := by
  have hn := h.len
  obtain ⟨⟨h1, h2⟩, hl, hz⟩ := h
  rcases h2 with ⟨h', _⟩ | ⟨g', cap', cur, hv, hg, hh, hc1, hc2, hs, ht⟩
  · cases h'
  · simp at hv
    obtain ⟨rfl, e1, rfl⟩ := hv
    refine ⟨?_, hg⟩
    rw [hh]
    have e2 : cur.toList = zs.map (Value.int .u32) := by
      rw [← ht, List.take_of_length_le]
      rw [Array.length_toList, hs]; omega
    rw [← e2]
theorem Own.ofRow {w : World} {B g : Nat} {zs : List Int} (hg : w.heap[g]? = some (.cells (zs.map (Value.int .u32)).toArray 49 (0, 0))) (hB : B ≤ g) (hl : zs.length ≤ 16777216) (hz : Limbs zs) : Own w B (.slice (some ⟨g, 0, none⟩) zs.length zs.length) zs := by
  refine ⟨⟨by simp, .inr ⟨g, zs.length, (zs.map (Value.int .u32)).toArray, rfl, hB, hg, Nat.le_refl _, by unfold maxLen; omega, by simp, ?_⟩⟩, hl, hz⟩
  rw [List.take_of_length_le (by simp)]
end Go.Proofs.Ythgpacajeaphhaa
