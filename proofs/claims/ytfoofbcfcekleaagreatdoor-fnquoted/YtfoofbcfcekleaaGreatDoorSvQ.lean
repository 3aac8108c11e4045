import Derived.Test.YtfoofbcfcekleaaGreatDoorSvP
import Derived.Lib.CutLaws
namespace Go.Proofs.YtfoofbcfcekleaaGreatDoor
open Go.RowKit Go.Lib
set_option linter.unusedVariables false
set_option linter.unusedSimpArgs false

theorem hx_bytes : ∀ (n v : Nat) (u : List Nat), (∀ r ∈ u, Scalar r) → (if (encs u).length < n then none else hxN n v (((encs u).take n).map UInt8.toNat)) = hxN n v u := by
  intro n
  induction n with
  | zero => intro v u _; simp [hxN]
  | succ n ih =>
    intro v u hs
    cases u with
    | nil => rw [encs_nil]; simp [hxN]
    | cons c t =>
      have hst : ∀ r ∈ t, Scalar r := fun r hr => hs r (by simp [hr])
      obtain ⟨b, tl, e, hb, htl⟩ := enc_shape c (hs c (by simp))
      by_cases hc : c < 128
      · have e1 : encodeRune (c : Int) = [c.toUInt8] := by
          rcases enc_cases c (hs c (by simp)) with ⟨a, e⟩ | ⟨a, b, e⟩ | ⟨a, b, e⟩ | ⟨a, b, e⟩
          · exact e
          all_goals omega
        rw [encs_cons, e1, hxN, List.singleton_append, List.length_cons]
        cases hv : hxV c with
        | none =>
          simp only [Option.bind_none]
          split
          · rfl
          · rw [List.take_succ_cons, List.map_cons, hxN, byte_nat (by omega), hv]; rfl
        | some d =>
          simp only [Option.bind_some]
          rw [← ih (v * 16 + d) t hst]
          by_cases hl : (encs t).length < n
          · rw [if_pos hl, if_pos (by omega)]
          · rw [if_neg hl, if_neg (by omega), List.take_succ_cons, List.map_cons, hxN, byte_nat (by omega), hv]; rfl
      · have hv : hxV c = none := by
          cases hv : hxV c with
          | none => rfl
          | some d => have := (hxV_lt hv).2; omega
        have hb192 : 192 ≤ b.toNat := by
          rcases enc_cases c (hs c (by simp)) with ⟨a, e2⟩ | ⟨a, a2, e2⟩ | ⟨a, a2, e2⟩ | ⟨a, a2, e2⟩
          · omega
          all_goals
            rw [e2] at e
            injection e with e3 _
            rw [← e3, byte_nat (by omega)]; omega
        have hvb : hxV b.toNat = none := by
          cases hv : hxV b.toNat with
          | none => rfl
          | some d => have := (hxV_lt hv).2; omega
        rw [hxN, hv, encs_cons, e]
        simp only [Option.bind_none]
        split
        · rfl
        · rw [List.cons_append, List.take_succ_cons, List.map_cons, hxN, hvb]; rfl
/-- A \ stands among the bytes just where it is a code point. -/
theorem mem92 (l : List Nat) (hs : ∀ r ∈ l, Scalar r) : (92 : UInt8) ∈ encs l ↔ 92 ∈ l := by
  induction l with
  | nil => simp [encs]
  | cons c t ih =>
    have hst : ∀ r ∈ t, Scalar r := fun r hr => hs r (by simp [hr])
    rw [encs_cons, List.mem_append, ih hst, List.mem_cons]
    refine or_congr ?_ Iff.rfl
    rcases enc_cases c (hs c (by simp)) with ⟨a, e⟩ | ⟨a, b, e⟩ | ⟨a, b, e⟩ | ⟨a, b, e⟩
    · rw [e, List.mem_singleton]
      constructor
      · intro h
        have := congrArg UInt8.toNat h
        rw [byte_nat (by omega)] at this
        exact this
      · intro h; subst h; rfl
    all_goals
      rw [e]
      constructor
      · intro h
        exfalso
        simp only [List.mem_cons, List.not_mem_nil, or_false] at h
        have key : ∀ n : Nat, n < 256 → 128 ≤ n → ¬ (92 : UInt8) = n.toUInt8 := fun n h1 h2 h => by
          have := congrArg UInt8.toNat h
          rw [byte_nat h1] at this
          have h92 : (92 : UInt8).toNat = 92 := rfl
          omega
        first
          | (rcases h with h | h | h | h <;> exact key _ (by omega) (by omega) h)
          | (rcases h with h | h | h <;> exact key _ (by omega) (by omega) h)
          | (rcases h with h | h <;> exact key _ (by omega) (by omega) h)
      · intro h; omega
theorem index_byte (l p q : List UInt8) (b : UInt8) (hl : l = p ++ b :: q) (hp : b ∉ p) : index l [b] = (p.length : Int) := by
  refine index_first (by rw [hl]; simp) ?_ ?_
  · unfold occAt
    rw [List.isPrefixOf_iff_prefix, hl, List.drop_left]
    exact ⟨q, by simp⟩
  · intro j hj
    cases ho : occAt l [b] j with
    | false => rfl
    | true =>
      exfalso
      unfold occAt at ho
      rw [List.isPrefixOf_iff_prefix, hl, List.drop_append_of_le_length (by omega), List.drop_eq_getElem_cons hj] at ho
      obtain ⟨u, hu⟩ := ho
      injection hu with h1 _
      exact hp (h1 ▸ List.getElem_mem hj)
theorem index_none_byte (l : List UInt8) (b : UInt8) (hp : b ∉ l) : index l [b] = -1 := by
  refine index_none ?_
  intro j _
  cases ho : occAt l [b] j with
  | false => rfl
  | true =>
    exfalso
    unfold occAt at ho
    rw [List.isPrefixOf_iff_prefix] at ho
    obtain ⟨u, hu⟩ := ho
    have : b ∈ l.drop j := by rw [← hu]; simp
    exact hp (List.mem_of_mem_drop this)
/-- What is cut at the first \. -/
theorem cut_esc (p t : List Nat) (hs : ∀ r ∈ p ++ 92 :: t, Scalar r) (hp : 92 ∉ p) : cut (encs (p ++ 92 :: t)) [92] = (encs p, encs t, true) := by
  have e92 : encs (p ++ 92 :: t) = encs p ++ (92 : UInt8) :: encs t := by
    rw [encs_append, encs_cons]
    rcases enc_cases 92 (.inl (by omega)) with ⟨a, e⟩ | ⟨a, b, e⟩ | ⟨a, b, e⟩ | ⟨a, b, e⟩
    · rw [e]; rfl
    all_goals omega
  have hi := index_byte (encs (p ++ 92 :: t)) (encs p) (encs t) 92 e92 (fun h => hp ((mem92 p (fun r hr => hs r (by simp [hr]))).1 h))
  unfold cut
  rw [hi, if_pos (by omega), Int.toNat_natCast, e92]
  simp
theorem cut_plain (t : List Nat) (hs : ∀ r ∈ t, Scalar r) (hp : 92 ∉ t) : cut (encs t) [92] = (encs t, [], false) := by
  unfold cut
  rw [index_none_byte _ _ (fun h => hp ((mem92 t hs).1 h)), if_neg (by omega)]
theorem split92 (t : List Nat) : 92 ∉ t ∨ ∃ p u, t = p ++ 92 :: u ∧ 92 ∉ p := by
  induction t with
  | nil => left; simp
  | cons c t ih =>
    by_cases hc : c = 92
    · right; exact ⟨[], t, by rw [hc]; rfl, by simp⟩
    · rcases ih with h | ⟨p, u, h1, h2⟩
      · left; simp; exact ⟨fun h => hc h.symm, h⟩
      · right; exact ⟨c :: p, u, by rw [h1]; rfl, by simp; exact ⟨fun h => hc h.symm, h2⟩⟩
end Go.Proofs.YtfoofbcfcekleaaGreatDoor
