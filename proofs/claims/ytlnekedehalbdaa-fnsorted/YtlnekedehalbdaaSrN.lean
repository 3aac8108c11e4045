import Derived.Test.YtlnekedehalbdaaSrM
namespace Go.Proofs.Ytlnekedehalbdaa
open Go.RowKit
set_option linter.unusedVariables false
set_option linter.unusedSimpArgs false

/-- The numbers from a on, k of them. -/
def seg (a k : Nat) : List Int := (List.range k).map fun (i : Nat) => ((a + i : Nat) : Int)
theorem seg_len (a k : Nat) : (seg a k).length = k := by simp [seg]
theorem seg_succ (a k : Nat) : seg a (k + 1) = seg a k ++ [((a + k : Nat) : Int)] := by simp [seg, List.range_succ]
theorem seg_one (a : Nat) : seg a 1 = [(a : Int)] := by simp [seg, List.range_succ]
theorem seg_zero (a : Nat) : seg a 0 = [] := rfl
theorem seg_cons (a k : Nat) : seg a (k + 1) = (a : Int) :: seg (a + 1) k := by
  simp only [seg, List.range_succ_eq_map, List.map_cons, List.map_map]
  congr 1
  apply List.map_congr_left
  intro i _
  simp only [Function.comp, Nat.succ_eq_add_one]
  congr 1
  omega
theorem seg_nums (n : Nat) : seg 0 n = nums n := by simp [seg, nums]
theorem seg_split (a k m : Nat) : seg a (k + m) = seg a k ++ seg (a + k) m := by
  induction m with
  | zero => simp [seg_zero]
  | succ m ih => rw [← Nat.add_assoc, seg_succ, ih, seg_succ, List.append_assoc, Nat.add_assoc]
theorem seg_take (a k m : Nat) (h : k ≤ m) : (seg a m).take k = seg a k := by
  obtain ⟨d, rfl⟩ : ∃ d, m = k + d := ⟨m - k, by omega⟩
  rw [seg_split, List.take_append_of_le_length (by simp [seg_len]), List.take_of_length_le (by simp [seg_len])]
theorem seg_drop (a k m : Nat) (h : k ≤ m) : (seg a m).drop k = seg (a + k) (m - k) := by
  obtain ⟨d, rfl⟩ : ∃ d, m = k + d := ⟨m - k, by omega⟩
  rw [seg_split, List.drop_append_of_le_length (by simp [seg_len]), List.drop_of_length_le (by simp [seg_len])]
  simp
theorem seg_mem {a k : Nat} {y : Int} (h : y ∈ seg a k) : (a : Int) ≤ y ∧ y < ((a + k : Nat) : Int) := by
  simp only [seg, List.mem_map, List.mem_range] at h
  obtain ⟨i, hi, rfl⟩ := h
  omega
/-- The rest of the numbers below n, from a on. -/
def nf (a n : Nat) : List Int := seg a (n - a)
theorem nf_cons {a n : Nat} (h : a < n) : nf a n = (a : Int) :: nf (a + 1) n := by
  unfold nf
  rw [show n - a = (n - (a + 1)) + 1 by omega, seg_cons]
theorem nf_nil (n : Nat) : nf n n = [] := by simp [nf, seg]
theorem nf_len (a n : Nat) : (nf a n).length = n - a := by simp [nf, seg_len]
theorem nf_take {a n k : Nat} (h : a + k ≤ n) : (nf a n).take k = seg a k := seg_take a k _ (by omega)
theorem nf_drop {a n k : Nat} (h : a + k ≤ n) : (nf a n).drop k = nf (a + k) n := by
  unfold nf
  rw [seg_drop a k _ (by omega)]
  congr 1; omega
/-- What is turned round, j from each end. -/
def rvK (L : List Int) (j : Nat) : List Int := (List.range L.length).map fun m => if m < j ∨ L.length ≤ m + j then L.getD (L.length - 1 - m) 0 else L.getD m 0
theorem rvK_len (L : List Int) (j : Nat) : (rvK L j).length = L.length := by simp [rvK]
theorem rvK_get (L : List Int) (j m : Nat) (h : m < L.length) : (rvK L j)[m]? = some (if m < j ∨ L.length ≤ m + j then L.getD (L.length - 1 - m) 0 else L.getD m 0) := by
  simp [rvK, h]
theorem rvK_getD (L : List Int) (j m : Nat) (h : m < L.length) : (rvK L j).getD m 0 = (if m < j ∨ L.length ≤ m + j then L.getD (L.length - 1 - m) 0 else L.getD m 0) := by
  simp only [List.getD, rvK_get L j m h, Option.getD_some]
theorem rvK_zero (L : List Int) : rvK L 0 = L := by
  apply List.ext_getElem?
  intro m
  by_cases h : m < L.length
  · rw [rvK_get L 0 m h, if_neg (by omega)]
    simp [h]
  · rw [List.getElem?_eq_none (by rw [rvK_len]; omega), List.getElem?_eq_none (by omega)]
theorem rvK_step (L : List Int) (j : Nat) (h : j < L.length / 2) : ((rvK L j).set j (L.getD (L.length - 1 - j) 0)).set (L.length - 1 - j) (L.getD j 0) = rvK L (j + 1) := by
  apply List.ext_getElem?
  intro m
  rw [List.getElem?_set, List.getElem?_set]
  simp only [List.length_set, rvK_len]
  by_cases hm : m < L.length
  · rw [rvK_get L (j + 1) m hm, rvK_get L j m hm]
    by_cases h1 : L.length - 1 - j = m
    · subst h1
      rw [if_pos rfl, if_pos (by omega), if_pos (by omega)]
      congr 2; omega
    · rw [if_neg h1]
      by_cases h2 : j = m
      · subst h2
        rw [if_pos rfl, if_pos (by omega), if_pos (by omega)]
      · rw [if_neg h2]
        congr 1
        by_cases h3 : m < j ∨ L.length ≤ m + j
        · rw [if_pos h3, if_pos (by omega)]
        · rw [if_neg h3, if_neg (by omega)]
  · rw [List.getElem?_eq_none (by rw [rvK_len]; omega), List.getElem?_eq_none (by rw [rvK_len]; omega)]
    rw [if_neg (by omega), if_neg (by omega)]
theorem rvK_end (L : List Int) : rvK L (L.length / 2) = L.reverse := by
  apply List.ext_getElem?
  intro m
  by_cases h : m < L.length
  · rw [rvK_get L _ m h, List.getElem?_reverse h]
    rw [List.getElem?_eq_getElem (by omega)]
    congr 1
    split
    · simp [show L.length - 1 - m < L.length by omega]
    · have e : L.length - 1 - m = m := by omega
      simp [e, h]
  · rw [List.getElem?_eq_none (by rw [rvK_len]; omega), List.getElem?_eq_none (by simp; omega)]
theorem Own.upto {w : World} {B g n cap : Nat} {xs : List Int} (h : Own w B (.slice (some ⟨g, 0, none⟩) n cap) xs) (i : Nat) (hi : i ≤ xs.length) : Own w B (.slice (some ⟨g, 0, none⟩) i cap) (xs.take i) := by
  have hn := h.len
  obtain ⟨⟨h1, h2⟩, h3, h4⟩ := h
  have hl : (xs.take i).length = i := by simp; omega
  refine ⟨⟨by simp, ?_⟩, by rw [hl]; omega, h4.take i⟩
  rcases h2 with ⟨e, _⟩ | ⟨g', cap', cur, e, hg, hh, hc, hcs, hm, ht⟩
  · cases e
  · simp only [Value.slice.injEq, Option.some.injEq, Addr.mk.injEq, and_true] at e
    obtain ⟨rfl, e2, rfl⟩ := e
    refine .inr ⟨g, cap, cur, by rw [hl], hg, hh, by rw [hl]; omega, hcs, hm, ?_⟩
    rw [hl, List.map_take, ← ht, List.take_take]
    congr 1; omega
/-- A run's beginning: what is known behind the first loop. -/
structure RunA (t : Tl) (l : List Int) (s : St) (k : Nat) (L : List Int) (s' : St) : Prop where
  st : (runN t l s).2.2 = s'
  go : s'.k = false → (runN t l s).1 = k ∧ L = (if (runN t l s).2.1 then (l.take k).reverse else l.take k)
theorem nf_two {a n : Nat} (h : a + 1 < n) : nf a n = (a : Int) :: ((a + 1 : Nat) : Int) :: nf (a + 2) n := by
  rw [nf_cons (by omega), nf_cons (by omega)]
end Go.Proofs.Ytlnekedehalbdaa
