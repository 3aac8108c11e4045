import Derived.Test.YtfoofbcfcekleaaGreatDoorRuneP
import Derived.Lib.MapLaws
import Derived.Lib.RuneBytes
namespace Go.Proofs.YtfoofbcfcekleaaGreatDoor
open Go.RowKit Go.Lib
set_option linter.unusedVariables false
set_option linter.unusedSimpArgs false

/-- A code point, cased: how = 1 up, 2 down. -/
def recase (how r : Int) : Int := if how = 1 ∧ 97 ≤ r ∧ r ≤ 122 then r - 32 else if how = 2 ∧ 65 ≤ r ∧ r ≤ 90 then r + 32 else r
/-- A byte, cased. -/
def caseB (how : Int) (b : UInt8) : UInt8 := (recase how (b.toNat : Int)).toNat.toUInt8
def caseFrom (how : Int) (s : ByteArray) : Nat → Nat → List UInt8
  | 0, _ => []
  | f + 1, pos => if pos < s.size then encodeRune (recase how ((Utf8.decode s pos).1 : Int)) ++ caseFrom how s f (pos + (Utf8.decode s pos).2) else []
theorem caseFrom_end (how : Int) (s : ByteArray) (f pos : Nat) (h : ¬ pos < s.size) : caseFrom how s f pos = [] := by
  cases f with
  | zero => rfl
  | succ f => rw [caseFrom, if_neg h]
theorem caseB_high (how : Int) (b : UInt8) (h : 128 ≤ b.toNat) : caseB how b = b := by
  unfold caseB recase
  rw [if_neg (by omega), if_neg (by omega)]
  simp
theorem recase_high (how r : Int) (h : 128 ≤ r) : recase how r = r := by
  unfold recase
  rw [if_neg (by omega), if_neg (by omega)]
theorem recase_low (how r : Int) (h0 : 0 ≤ r) (h : r < 128) : 0 ≤ recase how r ∧ recase how r < 128 := by
  unfold recase
  split
  · omega
  · split <;> omega
theorem enc_low {r : Int} (h0 : 0 ≤ r) (h : r < 128) : encodeRune r = [r.toNat.toUInt8] := by
  unfold encodeRune
  rw [encodeRuneZ_one h0 (by omega)]; rfl
theorem enc_high {r : Int} (h : 128 ≤ r) (h1 : r ≤ 1114111) : ∀ b ∈ encodeRune r, 128 ≤ b.toNat := by
  intro b hb
  unfold encodeRune at hb
  obtain ⟨z, hz, rfl⟩ := List.mem_map.1 hb
  have hz2 : 128 ≤ z ∧ z < 256 := by
    unfold encodeRuneZ at hz
    rw [if_neg (by omega)] at hz
    split at hz
    · simp at hz; omega
    · split at hz
      · simp at hz; omega
      · split at hz
        · simp at hz; omega
        · simp at hz; omega
  have : z.toNat.toUInt8.toNat = z.toNat := by
    rw [Nat.toUInt8, UInt8.toNat_ofNat']; omega
  omega
theorem case_enc (how : Int) (c : Nat) (hc : c ≤ 1114111) : (encodeRune (c : Int)).map (caseB how) = encodeRune (recase how (c : Int)) := by
  by_cases h : c < 128
  · have hr := recase_low how (c : Int) (by omega) (by omega)
    rw [enc_low (by omega) (by omega), enc_low hr.1 hr.2]
    have e : ((c : Int).toNat.toUInt8).toNat = c := by
      rw [Nat.toUInt8, UInt8.toNat_ofNat']; omega
    simp only [List.map_cons, List.map_nil, List.cons.injEq, and_true]
    unfold caseB
    rw [e]
  · rw [recase_high how (c : Int) (by omega)]
    have hh := enc_high (r := (c : Int)) (by omega) (by omega)
    exact (List.map_congr_left (fun b hb => caseB_high how b (hh b hb))).trans (List.map_id _)
theorem caseFrom_map (how : Int) (s : ByteArray) : ∀ f pos rs, s.size ≤ pos + f → vgo s f pos = some rs → caseFrom how s f pos = (s.data.toList.drop pos).map (caseB how) := by
  intro f
  induction f with
  | zero => intro pos rs h _; rw [caseFrom, List.drop_eq_nil_of_le (by rw [← size_eq]; omega)]; rfl
  | succ f ih =>
    intro pos rs h hv
    rw [caseFrom]
    rw [vgo] at hv
    by_cases hp : pos < s.size
    · rw [if_pos hp] at hv ⊢
      by_cases hb : (Utf8.decode s pos).1 = 65533 ∧ (Utf8.decode s pos).2 = 1
      · rw [if_pos hb] at hv; cases hv
      · rw [if_neg hb] at hv
        obtain ⟨r, hr, rfl⟩ := Option.map_eq_some_iff.1 hv
        have hw := width_pos s pos
        rw [ih _ r (by omega) hr, ← case_enc how _ (rune_le s pos)]
        have hed := encode_decode (s.data.toList.drop pos) (by intro h2; have := List.drop_eq_nil_iff.1 h2; rw [← size_eq] at this; omega) (by rw [decodeL_drop]; exact hb)
        rw [decodeL_drop] at hed
        rw [hed, ← List.map_append, ← List.drop_drop, List.take_append_drop]
    · rw [if_neg hp, List.drop_eq_nil_of_le (by rw [← size_eq]; omega)]; rfl
end Go.Proofs.YtfoofbcfcekleaaGreatDoor
