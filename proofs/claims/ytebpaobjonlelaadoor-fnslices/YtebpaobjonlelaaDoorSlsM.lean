import Derived.Test.YtebpaobjonlelaaDoorCutP
import Derived.Test.YtebpaobjonlelaaDoorSlcP
import Derived.Test.YtebpaobjonlelaaDoorEncP
import Derived.Test.YtebpaobjonlelaaDoorRTok
namespace Go.Proofs.YtebpaobjonlelaaDoor
open Go.RowKit Go.Lib
set_option linter.unusedVariables false
set_option linter.unusedSimpArgs false

theorem stepsL_one (d : Nat) : stepsL 1 d = List.range d := by
  unfold stepsL
  apply List.filter_eq_self.2
  intro j _
  simp [Nat.mod_one]
theorem pick_up (rs : List Nat) (c d : Nat) (h : c + d ≤ rs.length) : pick rs (upL (c : Int) 1 d) = (rs.drop c).take d := by
  unfold pick upL
  rw [stepsL_one, List.map_map]
  apply List.ext_getElem
  · simp; omega
  · intro j h1 h2
    simp at h1
    have e : ((c : Int) + (j : Int)).toNat = c + j := by omega
    simp [e, List.getD, show c + j < rs.length by omega]
theorem pick_down (rs : List Nat) : pick rs (downL ((rs.length : Int) - 1) 1 rs.length) = rs.reverse := by
  unfold pick downL
  rw [stepsL_one, List.map_map]
  apply List.ext_getElem
  · simp
  · intro j h1 h2
    simp at h1
    have e : ((rs.length : Int) - 1 - (j : Int)).toNat = rs.length - 1 - j := by omega
    simp [e, List.getD, show rs.length - 1 - j < rs.length by omega]
theorem text_parts {s : ByteArray} {rs : List Nat} (h : textOf s = some rs) : s.data.toList = encs rs ∧ (∀ r ∈ rs, Scalar r) ∧ rs.length ≤ 16384 ∧ s.size ≤ 16384 := by
  unfold textOf at h
  by_cases hs : s.size ≤ 16384
  · rw [if_pos hs] at h
    obtain ⟨h1, h2⟩ := (runesOf_iff s rs).1 h
    refine ⟨h1, h2, ?_, hs⟩
    have := encs_len rs h2
    rw [← h1, ← size_eq] at this
    omega
  · rw [if_neg hs] at h; cases h
theorem textOf_encs (rs : List Nat) (h : ∀ r ∈ rs, Scalar r) (hl : (encs rs).length ≤ 16384) : textOf ⟨(encs rs).toArray⟩ = some rs := by
  unfold textOf
  have hz : (⟨(encs rs).toArray⟩ : ByteArray).size = (encs rs).length := by show (encs rs).toArray.size = _; simp
  rw [if_pos (by rw [hz]; exact hl)]
  exact (runesOf_iff _ rs).2 ⟨rfl, h⟩
theorem cut_head {s : ByteArray} {rs : List Nat} (h : textOf s = some rs) (k : Int) : ∃ c, c ≤ rs.length ∧ cutAns s false 0 true k false 0 = (encs (rs.take c), 0) ∧ cutAns s true k false 0 false 0 = (encs (rs.drop c), 0) := by
  obtain ⟨_, _, hl, _⟩ := text_parts h
  have hc := clampA_in (n := (rs.length : Int)) (at_ := k) (low := 0) (high := (rs.length : Int)) (none := (rs.length : Int)) (has := true) (by omega) (by omega) (by omega)
  have hce : clampA (rs.length : Int) true k 0 (rs.length : Int) 0 = clampA (rs.length : Int) true k 0 (rs.length : Int) (rs.length : Int) := rfl
  obtain ⟨c, hcc⟩ : ∃ c : Nat, clampA (rs.length : Int) true k 0 (rs.length : Int) (rs.length : Int) = (c : Int) := ⟨(clampA (rs.length : Int) true k 0 (rs.length : Int) (rs.length : Int)).toNat, by omega⟩
  rw [hcc] at hc
  refine ⟨c, by omega, ?_, ?_⟩
  · unfold cutAns sliceAns
    rw [h]
    simp only [Bool.false_eq_true, if_false]
    rw [if_neg (by omega), if_neg (by decide), if_pos (by decide), hcc]
    have e0 : clampA (rs.length : Int) false 0 0 (rs.length : Int) 0 = ((0 : Nat) : Int) := rfl
    simp only [e0]
    rw [show ((1 : Int)).toNat = 1 from rfl, show ((c : Int) - ((0 : Nat) : Int)).toNat = c by omega, pick_up rs 0 c (by omega), List.drop_zero]
  · unfold cutAns sliceAns
    rw [h]
    simp only [Bool.false_eq_true, if_false]
    rw [if_neg (by omega), if_neg (by decide), if_pos (by decide), hce, hcc]
    have e0 : clampA (rs.length : Int) false 0 0 (rs.length : Int) (rs.length : Int) = (rs.length : Int) := rfl
    simp only [e0]
    rw [show ((1 : Int)).toNat = 1 from rfl, show ((rs.length : Int) - (c : Int)).toNat = rs.length - c by omega, pick_up rs c (rs.length - c) (by omega)]
    rw [List.take_of_length_le (by simp)]
theorem cut_back {s : ByteArray} {rs : List Nat} (h : textOf s = some rs) : cutAns s false 0 false 0 true (-1) = (encs rs.reverse, 0) := by
  obtain ⟨_, _, hl, _⟩ := text_parts h
  unfold cutAns sliceAns
  rw [h]
  simp only [if_true]
  rw [if_neg (by omega), if_neg (by decide), if_neg (by decide)]
  have e0 : clampA (rs.length : Int) false 0 (-1) ((rs.length : Int) - 1) ((rs.length : Int) - 1) = (rs.length : Int) - 1 := rfl
  have e1 : clampA (rs.length : Int) false 0 (-1) ((rs.length : Int) - 1) (-1) = -1 := rfl
  simp only [e0, e1]
  rw [show (- (-1 : Int)).toNat = 1 from rfl, show ((rs.length : Int) - 1 - -1).toNat = rs.length by omega, pick_down]
theorem encs_rev_len (rs : List Nat) : (encs rs.reverse).length = (encs rs).length := by
  induction rs with
  | nil => rfl
  | cons r rs ih => rw [List.reverse_cons, encs_append, List.length_append, ih, encs_cons r rs, encs_cons r [], encs_nil, List.append_nil, List.length_append]; omega
/-- The places rise all, or fall all. -/
theorem steps_pair (k d : Nat) : (stepsL k d).Pairwise (· < ·) := by
  unfold stepsL
  exact List.Pairwise.filter _ (List.pairwise_lt_range)
theorem ans_mono {n : Int} {lh : Bool} {la : Int} {hh : Bool} {ha : Int} {sh : Bool} {sa : Int} : (sliceAns n lh la hh ha sh sa).1.Pairwise (· < ·) ∨ (sliceAns n lh la hh ha sh sa).1.Pairwise (· > ·) := by
  unfold sliceAns
  generalize (if sh = true then sa else 1) = S
  split
  · exact .inl .nil
  · split
    · exact .inl .nil
    · split
      · left
        unfold upL
        rw [List.pairwise_map]
        exact (steps_pair _ _).imp (fun h => by omega)
      · right
        unfold downL
        rw [List.pairwise_map]
        exact (steps_pair _ _).imp (fun h => by show _ > _; omega)
theorem mono_at {L : List Int} (h : L.Pairwise (· < ·) ∨ L.Pairwise (· > ·)) (i : Nat) (h0 : 0 < i) (hi : i < L.length) :
    L.getD i 0 ≠ L.getD (i - 1) 0 ∧ (decide (L.getD (i - 1) 0 < L.getD i 0) = decide (L.getD 0 0 < L.getD 1 0)) := by
  have g : ∀ j, j < L.length → L.getD j 0 = L.getD j 0 := fun _ _ => rfl
  have e : ∀ j (hj : j < L.length), L.getD j 0 = L[j] := fun j hj => by simp [List.getD, hj]
  rw [e i hi, e (i - 1) (by omega), e 0 (by omega), e 1 (by omega)]
  rcases h with h | h
  · have h1 := List.pairwise_iff_getElem.1 h (i - 1) i (by omega) hi (by omega)
    have h2 := List.pairwise_iff_getElem.1 h 0 1 (by omega) (by omega) (by omega)
    exact ⟨by omega, by rw [decide_eq_true h1, decide_eq_true h2]⟩
  · have h1 : L[i - 1] > L[i] := List.pairwise_iff_getElem.1 h (i - 1) i (by omega) hi (by omega)
    have h2 : L[0] > L[1] := List.pairwise_iff_getElem.1 h 0 1 (by omega) (by omega) (by omega)
    exact ⟨by omega, by rw [decide_eq_false (by omega), decide_eq_false (by omega)]⟩
end Go.Proofs.YtebpaobjonlelaaDoor
