import Derived.Test.YtfoofbcfcekleaaGreatDoorBaseI
import Derived.Lib.TrimUEq
import Derived.Lib.ValidU
import Derived.Lib.RuneCount
namespace Go.Proofs.YtfoofbcfcekleaaGreatDoor
open Go.RowKit Go.Lib
set_option linter.unusedVariables false
set_option linter.unusedSimpArgs false

/-- The code points of s from a place on, or none where one of them is no rune's form. -/
def vgo (s : ByteArray) : Nat → Nat → Option (List Nat)
  | 0, _ => some []
  | f + 1, pos => if pos < s.size then (if (Utf8.decode s pos).1 = 65533 ∧ (Utf8.decode s pos).2 = 1 then none else (vgo s f (pos + (Utf8.decode s pos).2)).map ((Utf8.decode s pos).1 :: ·)) else some []
theorem vgo_end (s : ByteArray) (f pos : Nat) (h : ¬ pos < s.size) : vgo s f pos = some [] := by
  cases f with
  | zero => rfl
  | succ f => rw [vgo, if_neg h]
theorem vgo_same (s : ByteArray) : ∀ f g pos, s.size - pos ≤ f → s.size - pos ≤ g → vgo s f pos = vgo s g pos := by
  intro f
  induction f with
  | zero => intro g pos h1 h2; rw [vgo_end s 0 pos (by omega), vgo_end s g pos (by omega)]
  | succ f ih =>
    intro g pos h1 h2
    by_cases hp : pos < s.size
    · obtain ⟨g', rfl⟩ : ∃ g', g = g' + 1 := ⟨g - 1, by omega⟩
      have hw := width_pos s pos
      rw [vgo, vgo, if_pos hp, if_pos hp, ih g' (pos + (Utf8.decode s pos).2) (by omega) (by omega)]
    · rw [vgo_end s _ pos hp, vgo_end s _ pos hp]
/-- The code points of a text, or none. -/
def runesOf (s : ByteArray) : Option (List Nat) := vgo s s.size 0
theorem vgo_bad {s : ByteArray} {pos : Nat} (hp : pos < s.size) (h : (Utf8.decode s pos).1 = 65533 ∧ (Utf8.decode s pos).2 = 1) : vgo s (s.size - pos) pos = none := by
  obtain ⟨g, hg⟩ : ∃ g, s.size - pos = g + 1 := ⟨s.size - pos - 1, by omega⟩
  rw [hg, vgo, if_pos hp, if_pos h]
theorem vgo_good {s : ByteArray} {pos c k : Nat} (hp : pos < s.size) (hd : Utf8.decode s pos = (c, k)) (h : ¬ (c = 65533 ∧ k = 1)) : vgo s (s.size - pos) pos = (vgo s (s.size - (pos + k)) (pos + k)).map (c :: ·) := by
  obtain ⟨g, hg⟩ : ∃ g, s.size - pos = g + 1 := ⟨s.size - pos - 1, by omega⟩
  have hw := width_pos s pos
  rw [hg, vgo, if_pos hp, hd, if_neg h]
  rw [hd] at hw
  simp only at hw ⊢
  rw [vgo_same s g (s.size - (pos + k)) (pos + k) (by omega) (Nat.le_refl _)]
theorem valid_vgo (s : ByteArray) : ∀ n pos, validGoD n (s.data.toList.drop pos) = (vgo s n pos).isSome := by
  intro n
  induction n with
  | zero => intro pos; rfl
  | succ n ih =>
    intro pos
    rw [validGoD, vgo, decodeL_drop]
    have hsz : s.size = s.data.toList.length := size_eq s
    by_cases hp : pos < s.size
    · rw [if_neg (by intro h; have := List.drop_eq_nil_iff.1 h; omega), if_pos hp]
      by_cases hb : (Utf8.decode s pos).1 = 65533 ∧ (Utf8.decode s pos).2 = 1
      · rw [if_pos hb, if_pos hb]; rfl
      · rw [if_neg hb, if_neg hb, List.drop_drop, ih]; simp
    · rw [if_pos (List.drop_eq_nil_iff.2 (by omega)), if_neg hp]; rfl
theorem valid_runes (s : ByteArray) : validD s.data.toList = (runesOf s).isSome := by
  unfold validD runesOf
  rw [← size_eq]
  have := valid_vgo s s.size 0
  rwa [List.drop_zero] at this
theorem count_vgo (s : ByteArray) : ∀ n pos rs, vgo s n pos = some rs → rs.length = runeCountFrom s n pos := by
  intro n
  induction n with
  | zero => intro pos rs h; simp [vgo] at h; subst h; rfl
  | succ n ih =>
    intro pos rs h
    rw [vgo] at h
    rw [runeCountFrom]
    by_cases hp : pos < s.size
    · rw [if_pos hp] at h ⊢
      by_cases hb : (Utf8.decode s pos).1 = 65533 ∧ (Utf8.decode s pos).2 = 1
      · rw [if_pos hb] at h; cases h
      · rw [if_neg hb] at h
        obtain ⟨r, hr, rfl⟩ := Option.map_eq_some_iff.1 h
        rw [List.length_cons, ih _ _ hr, Nat.add_comm]
    · rw [if_neg hp] at h ⊢; simp at h; subst h; rfl
theorem count_runes {s : ByteArray} {rs : List Nat} (h : runesOf s = some rs) : rs.length = runeCount s := count_vgo s s.size 0 rs h
/-- A code point's form begins at a place: so many bytes behind the first. -/
theorem decode_1 {s : ByteArray} {i : Nat} (h : (s.get! i).toNat < 128) : Utf8.decode s i = ((s.get! i).toNat, 1) := by
  unfold Utf8.decode
  simp only [Nat.add_zero]
  rw [if_pos h]
def cont (s : ByteArray) (j : Nat) : Prop := j < s.size ∧ (s.get! j).toNat / 64 = 2
theorem decode_bad {s : ByteArray} {i : Nat} (h0 : ¬ (s.get! i).toNat < 128)
    (h2 : ¬ ((s.get! i).toNat / 32 = 6 ∧ cont s (i + 1) ∧ 128 ≤ (s.get! i).toNat % 32 * 64 + (s.get! (i + 1)).toNat % 64))
    (h3 : ¬ ((s.get! i).toNat / 16 = 14 ∧ cont s (i + 1) ∧ cont s (i + 2) ∧ 2048 ≤ (s.get! i).toNat % 16 * 4096 + (s.get! (i + 1)).toNat % 64 * 64 + (s.get! (i + 2)).toNat % 64 ∧ Utf8.valid (((s.get! i).toNat % 16 * 4096 + (s.get! (i + 1)).toNat % 64 * 64 + (s.get! (i + 2)).toNat % 64 : Nat) : Int) = true))
    (h4 : ¬ ((s.get! i).toNat / 8 = 30 ∧ cont s (i + 1) ∧ cont s (i + 2) ∧ cont s (i + 3) ∧ 65536 ≤ (s.get! i).toNat % 8 * 262144 + (s.get! (i + 1)).toNat % 64 * 4096 + (s.get! (i + 2)).toNat % 64 * 64 + (s.get! (i + 3)).toNat % 64 ∧ Utf8.valid (((s.get! i).toNat % 8 * 262144 + (s.get! (i + 1)).toNat % 64 * 4096 + (s.get! (i + 2)).toNat % 64 * 64 + (s.get! (i + 3)).toNat % 64 : Nat) : Int) = true)) :
    (Utf8.decode s i).1 = 65533 ∧ (Utf8.decode s i).2 = 1 := by
  unfold Utf8.decode
  unfold cont at h2 h3 h4
  simp only [Nat.add_zero, Utf8.runeError]
  rw [if_neg h0]
  split
  · rename_i h
    simp only [Bool.and_eq_true, beq_iff_eq, decide_eq_true_eq] at h
    split
    · rename_i hc; exact absurd ⟨h.1, h.2, hc⟩ h2
    · exact ⟨rfl, rfl⟩
  · split
    · rename_i h
      simp only [Bool.and_eq_true, beq_iff_eq, decide_eq_true_eq] at h
      split
      · rename_i hc
        simp only [Bool.and_eq_true, decide_eq_true_eq] at hc
        exact absurd ⟨h.1.1, h.1.2, h.2, hc.1, hc.2⟩ h3
      · exact ⟨rfl, rfl⟩
    · split
      · rename_i h
        simp only [Bool.and_eq_true, beq_iff_eq, decide_eq_true_eq] at h
        split
        · rename_i hc
          simp only [Bool.and_eq_true, decide_eq_true_eq] at hc
          exact absurd ⟨h.1.1.1, h.1.1.2, h.1.2, h.2, hc.1, hc.2⟩ h4
        · exact ⟨rfl, rfl⟩
      · exact ⟨rfl, rfl⟩
theorem decode_2 {s : ByteArray} {i : Nat} (h0 : (s.get! i).toNat / 32 = 6) (h1 : cont s (i + 1)) (hc : 128 ≤ (s.get! i).toNat % 32 * 64 + (s.get! (i + 1)).toNat % 64) :
    Utf8.decode s i = ((s.get! i).toNat % 32 * 64 + (s.get! (i + 1)).toNat % 64, 2) := by
  unfold Utf8.decode
  unfold cont at h1
  simp only [Nat.add_zero]
  rw [if_neg (by omega), if_pos (by simp [h0, h1]), if_pos hc]
theorem decode_3 {s : ByteArray} {i : Nat} (h0 : (s.get! i).toNat / 16 = 14) (h1 : cont s (i + 1)) (h2 : cont s (i + 2)) (hc : 2048 ≤ (s.get! i).toNat % 16 * 4096 + (s.get! (i + 1)).toNat % 64 * 64 + (s.get! (i + 2)).toNat % 64)
    (hv : Utf8.valid (((s.get! i).toNat % 16 * 4096 + (s.get! (i + 1)).toNat % 64 * 64 + (s.get! (i + 2)).toNat % 64 : Nat) : Int) = true) :
    Utf8.decode s i = ((s.get! i).toNat % 16 * 4096 + (s.get! (i + 1)).toNat % 64 * 64 + (s.get! (i + 2)).toNat % 64, 3) := by
  unfold Utf8.decode
  unfold cont at h1 h2
  simp only [Nat.add_zero]
  rw [if_neg (by omega), if_neg (by have : ¬ (s.get! i).toNat / 32 = 6 := by omega
                                    simp [this]), if_pos (by simp [h0, h1, h2]), if_pos (by rw [Bool.and_eq_true]; exact ⟨decide_eq_true hc, hv⟩)]
theorem decode_4 {s : ByteArray} {i : Nat} (h0 : (s.get! i).toNat / 8 = 30) (h1 : cont s (i + 1)) (h2 : cont s (i + 2)) (h3 : cont s (i + 3)) (hc : 65536 ≤ (s.get! i).toNat % 8 * 262144 + (s.get! (i + 1)).toNat % 64 * 4096 + (s.get! (i + 2)).toNat % 64 * 64 + (s.get! (i + 3)).toNat % 64)
    (hv : Utf8.valid (((s.get! i).toNat % 8 * 262144 + (s.get! (i + 1)).toNat % 64 * 4096 + (s.get! (i + 2)).toNat % 64 * 64 + (s.get! (i + 3)).toNat % 64 : Nat) : Int) = true) :
    Utf8.decode s i = ((s.get! i).toNat % 8 * 262144 + (s.get! (i + 1)).toNat % 64 * 4096 + (s.get! (i + 2)).toNat % 64 * 64 + (s.get! (i + 3)).toNat % 64, 4) := by
  unfold Utf8.decode
  unfold cont at h1 h2 h3
  simp only [Nat.add_zero]
  rw [if_neg (by omega), if_neg (by have : ¬ (s.get! i).toNat / 32 = 6 := by omega
                                    simp [this]), if_neg (by have : ¬ (s.get! i).toNat / 16 = 14 := by omega
                                                             simp [this]), if_pos (by simp [h0, h1, h2, h3]), if_pos (by rw [Bool.and_eq_true]; exact ⟨decide_eq_true hc, hv⟩)]
theorem valid_iff (c : Nat) (hc : c ≤ 2097151) : Utf8.valid (c : Int) = true ↔ ¬ (1114111 < c ∨ (55296 ≤ c ∧ c < 57344)) := by
  unfold Utf8.valid
  simp only [Bool.or_eq_true, Bool.and_eq_true, decide_eq_true_eq]
  omega
end Go.Proofs.YtfoofbcfcekleaaGreatDoor
