import Derived.Test.YtlnekedehalbdaaFsC
namespace Go.Proofs.Ytlnekedehalbdaa
open Go.RowKit
set_option linter.unusedVariables false
set_option linter.unusedSimpArgs false

/-- What the law wants of a sorted list and of its asks. -/
structure Sd (K : List Int) (O : List Int) (H : List (Int × Int)) : Prop where
  len : O.length = K.length
  at_ : ∀ i, i < K.length → ∃ x : Nat, O.getD i 0 = (x : Int) ∧ x < K.length ∧ (x : Int) ∉ O.take i
  lt : ∀ i, i + 1 < K.length → Lt K (O.getD i 0) (O.getD (i + 1) 0)
  ak : Ak K.length H
  many : K.length ≤ H.length + 1
  plan : ∀ j, j ≤ H.length → ansA K.length ((H.take j).map (kl K)) = if j < H.length then (H.take (j + 1), [], false) else (H, O, true)
theorem cn_map (K : List Int) (H : List (Int × Int)) (j : Nat) : Cn K ((H.take j).map (kl K)) H := by
  intro i p hp hi
  simp only [List.length_map, List.length_take] at hi
  rw [List.getElem?_map, List.getElem?_take, if_pos (by omega), hp]; rfl
theorem sd (K : List Int) (hn : K.length ≤ 2000) : ∃ O H, ansK K = (O, ((H.length : Nat) : Int)) ∧ Sd K O H := by
  obtain ⟨h1, h2, h3, h4⟩ := sort_ok K K.length
  refine ⟨(sortS (tellK K) K.length).1.headD [], (sortS (tellK K) K.length).2.h, by unfold ansK; rw [if_neg (by omega)], ?_⟩
  have hl : ((sortS (tellK K) K.length).1.headD []).length = K.length := by rw [h2.length_eq]; simp [nums]
  have hnd : ((sortS (tellK K) K.length).1.headD []).Nodup := by
    rw [h2.nodup_iff]
    exact (nums_up K.length).imp (fun h => by omega)
  have hpl : ∀ j, j ≤ (sortS (tellK K) K.length).2.h.length → ansA K.length (((sortS (tellK K) K.length).2.h.take j).map (kl K)) = if j < (sortS (tellK K) K.length).2.h.length then ((sortS (tellK K) K.length).2.h.take (j + 1), [], false) else ((sortS (tellK K) K.length).2.h, (sortS (tellK K) K.length).1.headD [], true) := by
    intro j hj
    obtain ⟨⟨-, s1⟩, s2⟩ := sortS_sm K (((sortS (tellK K) K.length).2.h.take j).map (kl K)) K.length (cn_map K _ j)
    have hlen : (((sortS (tellK K) K.length).2.h.take j).map (kl K)).length = j := by simp; omega
    rw [hlen] at s1
    unfold ansA
    rw [if_neg (by omega), Int.toNat_natCast]
    rcases s1 with ⟨p1, p2⟩ | ⟨p1, p2⟩
    · have e := s2 (by rw [p2])
      rw [e, p2, if_neg (Nat.not_lt.mpr p1)]; rfl
    · rw [if_pos p1, p2]; rfl
  generalize (sortS (tellK K) K.length).1.headD [] = O at *
  generalize (sortS (tellK K) K.length).2.h = H at *
  refine ⟨hl, ?_, ?_, h3, h4, hpl⟩
  · intro i hi
    have hi' : i < O.length := by omega
    have e : O.getD i 0 = O[i] := by simp [List.getD, hi']
    have hm : O[i] ∈ nums K.length := h2.mem_iff.mp (List.getElem_mem hi')
    rw [← seg_nums] at hm
    have hs := seg_mem hm
    refine ⟨O[i].toNat, by rw [e]; omega, by omega, ?_⟩
    rw [show ((O[i].toNat : Nat) : Int) = O[i] by omega]
    intro hin
    obtain ⟨k, hk, ek⟩ := List.mem_iff_getElem.mp hin
    simp only [List.length_take] at hk
    rw [List.getElem_take] at ek
    have := (List.getElem_inj hnd).mp ek
    omega
  · intro i hi
    have e0 : O.getD i 0 = O[i]'(by omega) := by simp [List.getD, show i < O.length by omega]
    have e1 : O.getD (i + 1) 0 = O[i + 1]'(by omega) := by simp [List.getD, show i + 1 < O.length by omega]
    rw [e0, e1]
    exact List.pairwise_iff_getElem.mp h1 i (i + 1) (by omega) (by omega) (by omega)
end Go.Proofs.Ytlnekedehalbdaa
