import Derived.Lib.Replace
import Derived.Lib.ReplaceLaws
import Derived.Lib.Join
import Derived.Lib.SplitLaws
import Derived.Lib.IndexMore
namespace Go.Proofs.YtiihfaohdgkhaaaDoor
open Go.Lib
set_option linter.unusedVariables false
set_option linter.unusedSimpArgs false

theorem joinTail_cons (sep y : List UInt8) (r : List (List UInt8)) : joinTail sep (y :: r) = sep ++ (y ++ joinTail sep r) := by
  simp [joinTail, List.append_assoc]
theorem join_more (x : List UInt8) (L : List (List UInt8)) (sep : List UInt8) (h : L ≠ []) : Lib.join (x :: L) sep = x ++ sep ++ Lib.join L sep := by
  cases L with
  | nil => exact absurd rfl h
  | cons y r => rw [join_cons, join_cons, joinTail_cons, List.append_assoc]
theorem splitK_ne (sep : List UInt8) (save k : Nat) (s : List UInt8) : splitK sep save k s ≠ [] := by
  cases k with
  | zero => simp [splitK]
  | succ k =>
    unfold splitK
    split <;> simp
theorem replaceK_join (old new : List UInt8) : ∀ (k : Nat) (s : List UInt8), replaceK old new k s = Lib.join (splitK old 0 k s) new
  | 0, s => by rw [replaceK, splitK, join_one]
  | k + 1, s => by
    rw [replaceK, splitK]
    by_cases h : (index s old == -1) = true
    · rw [if_pos h, if_pos h, join_one]
    · rw [if_neg h, if_neg h, Nat.add_zero, join_more _ _ _ (splitK_ne _ _ _ _), ← replaceK_join old new k]
theorem index_parts (s sub : List UInt8) (i : Nat) (h : index s sub = (i : Int)) : s.take i ++ sub ++ s.drop (i + sub.length) = s := by
  rcases index_spec s sub with ⟨h1, _⟩ | ⟨j, h1, h2, h3, _⟩
  · omega
  · obtain rfl : j = i := by omega
    have h4 : sub = (s.drop j).take sub.length := by
      have h5 : sub.isPrefixOf (s.drop j) = true := by
        first | exact h3 | (unfold occAt at h3; exact h3) | (unfold occAt at h3; simpa using h3)
      have h6 := List.isPrefixOf_iff_prefix.1 h5
      exact (List.prefix_iff_eq_take.1 h6)
    calc s.take j ++ sub ++ s.drop (j + sub.length) = s.take j ++ ((s.drop j).take sub.length ++ (s.drop j).drop sub.length) := by rw [← h4, List.drop_drop, List.append_assoc]
      _ = s.take j ++ s.drop j := by rw [List.take_append_drop]
      _ = s := List.take_append_drop _ _
theorem replaceK_same (old : List UInt8) : ∀ (k : Nat) (s : List UInt8), replaceK old old k s = s
  | 0, s => rfl
  | k + 1, s => by
    rw [replaceK]
    by_cases h : (index s old == -1) = true
    · rw [if_pos h]
    · rw [if_neg h, replaceK_same old k]
      have h1 := index_ge s old
      have h2 : index s old ≠ -1 := fun e => h (by rw [e]; rfl)
      exact index_parts s old (index s old).toNat (by omega)
theorem replaceAll_join (s old new : List UInt8) : replaceAll s old new = Lib.join (splitK old 0 (count s old) s) new := by
  unfold replaceAll replace
  by_cases h : (old == new) = true
  · rw [if_pos h, ← replaceK_join, ← (beq_iff_eq.1 h), replaceK_same]
  · rw [if_neg h, replaceK_join]
    unfold replaceNum
    rw [if_pos (.inl (by decide))]
theorem lens_split (old : List UInt8) (ho : old ≠ []) : ∀ (k : Nat) (s : List UInt8), count s old = k → lens (splitK old 0 k s) + k * old.length = s.length
  | 0, s, h => by simp [splitK, lens]
  | k + 1, s, h => by
    obtain ⟨i, hi⟩ := index_of_count (s := s) (old := old) (by omega)
    have hc := count_hit ho hi
    have hr := index_room s old (by omega)
    have ih := lens_split old ho k (s.drop (i + old.length)) (by omega)
    have hne : ¬ (index s old == -1) = true := fun e => by have := beq_iff_eq.1 e; omega
    rw [splitK, if_neg hne, show (index s old).toNat = i by omega]
    rw [show lens (s.take (i + 0) :: splitK old 0 k (s.drop (i + old.length))) = (s.take (i + 0)).length + lens (splitK old 0 k (s.drop (i + old.length))) by simp [lens]]
    rw [Nat.succ_mul, List.length_take]
    rw [List.length_drop] at ih
    omega
theorem lens_cons (x : List UInt8) (r : List (List UInt8)) : lens (x :: r) = x.length + lens r := by simp [lens]
theorem splitK_len (old : List UInt8) (ho : old ≠ []) : ∀ (k : Nat) (s : List UInt8), count s old = k → (splitK old 0 k s).length = k + 1
  | 0, s, h => by simp [splitK]
  | k + 1, s, h => by
    obtain ⟨i, hi⟩ := index_of_count (s := s) (old := old) (by omega)
    have hc := count_hit ho hi
    have hne : ¬ (index s old == -1) = true := fun e => by have := beq_iff_eq.1 e; omega
    have ih := splitK_len old ho k (s.drop (i + old.length)) (by omega)
    rw [splitK, if_neg hne, show (index s old).toNat = i by omega, List.length_cons, ih]
/-- How long the replaced text is. -/
theorem replaced_len (s old new : List UInt8) (ho : old ≠ []) : (Lib.join (splitK old 0 (count s old) s) new).length + count s old * old.length = s.length + count s old * new.length := by
  have h1 := lens_split old ho _ s rfl
  have h2 := splitK_len old ho _ s rfl
  generalize splitK old 0 (count s old) s = L at h1 h2 ⊢
  cases L with
  | nil => simp at h2
  | cons x r =>
    rw [join_length]
    simp only [List.length_cons] at h2
    have h3 : r.length = count s old := by omega
    rw [h3, Nat.mul_comm new.length]
    omega
/-- A part of the pieces is no longer than all. -/
theorem join_take_len (sep : List UInt8) (L : List (List UInt8)) (k : Nat) : (Lib.join (L.take k) sep).length ≤ (Lib.join L sep).length := by
  cases L with
  | nil => simp
  | cons x r =>
    cases k with
    | zero => simp [join_nil]
    | succ k =>
      rw [List.take_succ_cons, join_cons, join_cons, List.length_append, List.length_append]
      have := joinTail_take_le sep r k
      omega
theorem join_snoc (sep y : List UInt8) (L : List (List UInt8)) (h : L ≠ []) : Lib.join (L ++ [y]) sep = Lib.join L sep ++ sep ++ y := by
  cases L with
  | nil => exact absurd rfl h
  | cons x r =>
    rw [List.cons_append, join_cons, join_cons]
    simp [joinTail, List.append_assoc]
theorem join_len_any (L : List (List UInt8)) (sep : List UInt8) : (Lib.join L sep).length = sep.length * (L.length - 1) + lens L := by
  cases L with
  | nil => simp [join_nil, lens]
  | cons x r => rw [join_length]; simp
end Go.Proofs.YtiihfaohdgkhaaaDoor
