import Derived.Test.YtebpaobjonlelaaDoorEncP
import Derived.Test.YtebpaobjonlelaaDoorRTok
import Derived.Test.YtebpaobjonlelaaDoorSlcA
namespace Go.Proofs.YtebpaobjonlelaaDoor
open Go.RowKit Go.Lib
set_option linter.unusedVariables false
set_option linter.unusedSimpArgs false

theorem ans_range {n : Int} {lh : Bool} {la : Int} {hh : Bool} {ha : Int} {sh : Bool} {sa : Int} : ∀ z ∈ (sliceAns n lh la hh ha sh sa).1, 0 ≤ z ∧ z < n := by
  unfold sliceAns
  by_cases h1 : n < 0 ∨ 16384 < n
  · rw [if_pos h1]; simp
  · rw [if_neg h1]
    by_cases h2 : (if sh = true then sa else 1) = 0
    · rw [if_pos h2]; simp
    · rw [if_neg h2]
      by_cases h3 : 0 < (if sh = true then sa else 1)
      · rw [if_pos h3]
        have b1 := clampA_in (n := n) (at_ := la) (low := 0) (high := n) (none := 0) (has := lh) (by omega) (by omega) (by omega)
        have b2 := clampA_in (n := n) (at_ := ha) (low := 0) (high := n) (none := n) (has := hh) (by omega) (by omega) (by omega)
        intro z hz
        obtain ⟨j, hj, rfl⟩ := List.mem_map.1 hz
        have := stepsL_mem hj
        omega
      · rw [if_neg h3]
        have b1 := clampA_in (n := n) (at_ := la) (low := (-1)) (high := (n - 1)) (none := (n - 1)) (has := lh) (by omega) (by omega) (by omega)
        have b2 := clampA_in (n := n) (at_ := ha) (low := (-1)) (high := (n - 1)) (none := (-1)) (has := hh) (by omega) (by omega) (by omega)
        intro z hz
        obtain ⟨j, hj, rfl⟩ := List.mem_map.1 hz
        have := stepsL_mem hj
        omega
theorem ans_code {n : Int} {lh : Bool} {la : Int} {hh : Bool} {ha : Int} {sh : Bool} {sa : Int} : (sliceAns n lh la hh ha sh sa).2 = 0 ∨ (sliceAns n lh la hh ha sh sa).1 = [] := by
  unfold sliceAns
  by_cases h1 : n < 0 ∨ 16384 < n
  · rw [if_pos h1]; simp
  · rw [if_neg h1]
    by_cases h2 : (if sh = true then sa else 1) = 0
    · rw [if_pos h2]; simp
    · rw [if_neg h2]
      by_cases h3 : 0 < (if sh = true then sa else 1)
      · rw [if_pos h3]; exact .inl rfl
      · rw [if_neg h3]; exact .inl rfl
/-- The code points at some places. -/
def pick (rs : List Nat) (L : List Int) : List Nat := L.map fun z => rs.getD z.toNat 0
theorem pick_len (rs : List Nat) (L : List Int) : (pick rs L).length = L.length := by simp [pick]
theorem pick_snoc (rs : List Nat) (L : List Int) (k : Nat) (h : k < L.length) : pick rs (L.take k) ++ [rs.getD (L.getD k 0).toNat 0] = pick rs (L.take (k + 1)) := by
  unfold pick
  rw [List.take_succ_eq_append_getElem h, List.map_append]
  have : L.getD k 0 = L[k] := by simp [List.getD, h]
  rw [this]; rfl
theorem pick_scalar {rs : List Nat} {L : List Int} (hs : ∀ r ∈ rs, Scalar r) (hL : ∀ z ∈ L, 0 ≤ z ∧ z < (rs.length : Int)) : ∀ r ∈ pick rs L, Scalar r := by
  intro r hr
  obtain ⟨z, hz, rfl⟩ := List.mem_map.1 hr
  have := hL z hz
  have h2 : z.toNat < rs.length := by omega
  have : rs.getD z.toNat 0 = rs[z.toNat] := by simp [List.getD, h2]
  rw [this]; exact hs _ (List.getElem_mem h2)
/-- What TextCut answers. -/
def cutAns (s : ByteArray) (lh : Bool) (la : Int) (hh : Bool) (ha : Int) (sh : Bool) (sa : Int) : List UInt8 × Int :=
  match textOf s with
  | none => ([], 1)
  | some rs => (encs (pick rs (sliceAns (rs.length : Int) lh la hh ha sh sa).1), (sliceAns (rs.length : Int) lh la hh ha sh sa).2)
end Go.Proofs.YtebpaobjonlelaaDoor
