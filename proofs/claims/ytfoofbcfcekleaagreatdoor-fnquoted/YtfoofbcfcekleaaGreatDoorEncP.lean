import Derived.Test.YtfoofbcfcekleaaGreatDoorCaseP
import Derived.Lib.QuoteLoop
namespace Go.Proofs.YtfoofbcfcekleaaGreatDoor
open Go.RowKit Go.Lib
set_option linter.unusedVariables false
set_option linter.unusedSimpArgs false

/-- A code point that a text can have. -/
def Scalar (c : Nat) : Prop := c < 55296 ∨ (57343 < c ∧ c ≤ 1114111)
/-- A byte that begins no code point. -/
def tailB (b : UInt8) : Prop := 128 ≤ b.toNat ∧ b.toNat < 192
instance (b : UInt8) : Decidable (tailB b) := inferInstanceAs (Decidable (_ ∧ _))
theorem byte_nat {n : Nat} (h : n < 256) : n.toUInt8.toNat = n := by rw [Nat.toUInt8, UInt8.toNat_ofNat']; omega
/-- The four forms. -/
theorem enc_cases (c : Nat) (h : Scalar c) :
    (c < 128 ∧ encodeRune (c : Int) = [c.toUInt8]) ∨
    (128 ≤ c ∧ c < 2048 ∧ encodeRune (c : Int) = [(192 + c / 64).toUInt8, (128 + c % 64).toUInt8]) ∨
    (2048 ≤ c ∧ c < 65536 ∧ encodeRune (c : Int) = [(224 + c / 4096).toUInt8, (128 + c / 64 % 64).toUInt8, (128 + c % 64).toUInt8]) ∨
    (65536 ≤ c ∧ c ≤ 1114111 ∧ encodeRune (c : Int) = [(240 + c / 262144).toUInt8, (128 + c / 4096 % 64).toUInt8, (128 + c / 64 % 64).toUInt8, (128 + c % 64).toUInt8]) := by
  unfold Scalar at h
  unfold encodeRune
  by_cases h1 : c < 128
  · refine .inl ⟨h1, ?_⟩
    rw [encodeRuneZ_one (by omega) (by omega)]; rfl
  · by_cases h2 : c < 2048
    · refine .inr (.inl ⟨by omega, h2, ?_⟩)
      rw [encodeRuneZ_two (by omega) (by omega)]
      simp only [List.map_cons, List.map_nil]
      rw [show (192 + (c : Int) / 64).toNat = 192 + c / 64 by omega, show (128 + (c : Int) % 64).toNat = 128 + c % 64 by omega]
    · by_cases h3 : c < 65536
      · refine .inr (.inr (.inl ⟨by omega, h3, ?_⟩))
        rw [encodeRuneZ_three (by omega)]
        simp only [List.map_cons, List.map_nil]
        rw [show (224 + (c : Int) / 4096).toNat = 224 + c / 4096 by omega, show (128 + (c : Int) / 64 % 64).toNat = 128 + c / 64 % 64 by omega, show (128 + (c : Int) % 64).toNat = 128 + c % 64 by omega]
      · refine .inr (.inr (.inr ⟨by omega, by omega, ?_⟩))
        rw [encodeRuneZ_four (by omega) (by omega)]
        simp only [List.map_cons, List.map_nil]
        rw [show (240 + (c : Int) / 262144).toNat = 240 + c / 262144 by omega, show (128 + (c : Int) / 4096 % 64).toNat = 128 + c / 4096 % 64 by omega, show (128 + (c : Int) / 64 % 64).toNat = 128 + c / 64 % 64 by omega, show (128 + (c : Int) % 64).toNat = 128 + c % 64 by omega]
theorem enc_shape (c : Nat) (h : Scalar c) : ∃ b tl, encodeRune (c : Int) = b :: tl ∧ ¬ tailB b ∧ ∀ x ∈ tl, tailB x := by
  rcases enc_cases c h with ⟨a, e⟩ | ⟨a, b, e⟩ | ⟨a, b, e⟩ | ⟨a, b, e⟩
  · refine ⟨_, _, e, ?_, by simp⟩
    unfold tailB; rw [byte_nat (by omega)]; omega
  · refine ⟨_, _, e, ?_, ?_⟩
    · unfold tailB; rw [byte_nat (by omega)]; omega
    · intro x hx; simp only [List.mem_cons, List.not_mem_nil, or_false] at hx
      subst hx; unfold tailB; rw [byte_nat (by omega)]; omega
  · refine ⟨_, _, e, ?_, ?_⟩
    · unfold tailB; rw [byte_nat (by omega)]; omega
    · intro x hx; simp only [List.mem_cons, List.not_mem_nil, or_false] at hx
      rcases hx with rfl | rfl <;> (unfold tailB; rw [byte_nat (by omega)]; omega)
  · refine ⟨_, _, e, ?_, ?_⟩
    · unfold tailB; rw [byte_nat (by omega)]; omega
    · intro x hx; simp only [List.mem_cons, List.not_mem_nil, or_false] at hx
      rcases hx with rfl | rfl | rfl <;> (unfold tailB; rw [byte_nat (by omega)]; omega)
theorem enc_pos (c : Nat) (h : Scalar c) : 1 ≤ (encodeRune (c : Int)).length := by
  obtain ⟨b, tl, e, _, _⟩ := enc_shape c h
  rw [e]; simp
theorem enc_le4 (c : Nat) : (encodeRune (c : Int)).length ≤ 4 := by
  unfold encodeRune; rw [List.length_map]; exact (encodeRuneZ_length _).2
/-- What was encoded is decoded, whatever follows. -/
theorem decodeL_enc (c : Nat) (h : Scalar c) (t : List UInt8) : decodeL (encodeRune (c : Int) ++ t) = (c, (encodeRune (c : Int)).length) := by
  rw [decodeL_N]
  unfold Scalar at h
  rcases enc_cases c h with ⟨a, e⟩ | ⟨a, b, e⟩ | ⟨a, b, e⟩ | ⟨a, b, e⟩
  · rw [e]
    simp only [List.cons_append, List.nil_append, List.getD_cons_zero, List.length_cons, List.length_nil]
    rw [byte_nat (by omega), decodeN_ascii _ _ _ _ _ a]
  · rw [e]
    simp only [List.cons_append, List.nil_append, List.getD_cons_zero, List.getD_cons_succ, List.length_cons, List.length_nil]
    rw [byte_nat (n := 192 + c / 64) (by omega), byte_nat (n := 128 + c % 64) (by omega)]
    unfold decodeN
    rw [if_neg (by omega), if_pos (by omega), if_pos (by omega)]
    rw [show (192 + c / 64) % 32 * 64 + (128 + c % 64) % 64 = c by omega]
  · rw [e]
    simp only [List.cons_append, List.nil_append, List.getD_cons_zero, List.getD_cons_succ, List.length_cons, List.length_nil]
    rw [byte_nat (n := 224 + c / 4096) (by omega), byte_nat (n := 128 + c / 64 % 64) (by omega), byte_nat (n := 128 + c % 64) (by omega)]
    unfold decodeN
    rw [if_neg (by omega), if_neg (by omega), if_pos (by omega), if_pos (by omega)]
    rw [show (224 + c / 4096) % 16 * 4096 + (128 + c / 64 % 64) % 64 * 64 + (128 + c % 64) % 64 = c by omega]
  · rw [e]
    simp only [List.cons_append, List.nil_append, List.getD_cons_zero, List.getD_cons_succ, List.length_cons, List.length_nil]
    rw [byte_nat (n := 240 + c / 262144) (by omega), byte_nat (n := 128 + c / 4096 % 64) (by omega), byte_nat (n := 128 + c / 64 % 64) (by omega), byte_nat (n := 128 + c % 64) (by omega)]
    unfold decodeN
    rw [if_neg (by omega), if_neg (by omega), if_neg (by omega), if_pos (by omega), if_pos (by omega)]
    rw [show (240 + c / 262144) % 8 * 262144 + (128 + c / 4096 % 64) % 64 * 4096 + (128 + c / 64 % 64) % 64 * 64 + (128 + c % 64) % 64 = c by omega]
/-- The bytes of code points. -/
def encs (rs : List Nat) : List UInt8 := rs.flatMap fun (r : Nat) => encodeRune (r : Int)
theorem encs_nil : encs [] = [] := rfl
theorem encs_cons (r : Nat) (rs : List Nat) : encs (r :: rs) = encodeRune (r : Int) ++ encs rs := by unfold encs; simp
theorem encs_append (a b : List Nat) : encs (a ++ b) = encs a ++ encs b := by unfold encs; simp
theorem encs_len (rs : List Nat) (h : ∀ r ∈ rs, Scalar r) : rs.length ≤ (encs rs).length := by
  induction rs with
  | nil => simp
  | cons r rs ih =>
    rw [encs_cons, List.length_append, List.length_cons]
    have := enc_pos r (h r (.head _))
    have := ih (fun x hx => h x (.tail _ hx))
    omega
/-- The code points of bytes: a list's own words. -/
def vgoL : Nat → List UInt8 → Option (List Nat)
  | 0, _ => some []
  | f + 1, l => if l = [] then some [] else (if (decodeL l).1 = 65533 ∧ (decodeL l).2 = 1 then none else (vgoL f (l.drop (decodeL l).2)).map ((decodeL l).1 :: ·))
theorem vgo_L (s : ByteArray) : ∀ f pos, vgo s f pos = vgoL f (s.data.toList.drop pos) := by
  intro f
  induction f with
  | zero => intro pos; rfl
  | succ f ih =>
    intro pos
    rw [vgo, vgoL, decodeL_drop]
    have hsz : s.size = s.data.toList.length := size_eq s
    by_cases hp : pos < s.size
    · rw [if_pos hp, ih, List.drop_drop]
      exact (if_neg (by intro h; have := List.drop_eq_nil_iff.1 h; omega)).symm
    · rw [if_neg hp, if_pos (List.drop_eq_nil_iff.2 (by omega))]
theorem runesOf_L (s : ByteArray) : runesOf s = vgoL s.data.toList.length s.data.toList := by
  unfold runesOf; rw [vgo_L, size_eq]; simp
theorem vgoL_encs : ∀ (rs : List Nat) (f : Nat), (∀ r ∈ rs, Scalar r) → (encs rs).length ≤ f → vgoL f (encs rs) = some rs := by
  intro rs
  induction rs with
  | nil => intro f _ _; rw [encs_nil]; cases f with
    | zero => rfl
    | succ f => rw [vgoL, if_pos rfl]
  | cons r rs ih =>
    intro f h hf
    have hr := h r (.head _)
    have hp := enc_pos r hr
    rw [encs_cons, List.length_append] at hf
    obtain ⟨g, rfl⟩ : ∃ g, f = g + 1 := ⟨f - 1, by omega⟩
    rw [vgoL, encs_cons, decodeL_enc r hr]
    rw [if_neg (by intro h2; have h3 := congrArg List.length h2; rw [List.length_append, List.length_nil] at h3; omega)]
    have hne : ¬ (r = 65533 ∧ (encodeRune (r : Int)).length = 1) := by
      rintro ⟨h1, h2⟩
      subst h1
      rcases enc_cases 65533 hr with ⟨a, e⟩ | ⟨a, b, e⟩ | ⟨a, b, e⟩ | ⟨a, b, e⟩
      · omega
      · omega
      · rw [e] at h2; simp at h2
      · omega
    simp only
    rw [if_neg hne, List.drop_left, ih g (fun x hx => h x (.tail _ hx)) (by omega)]
    rfl
theorem encs_vgoL : ∀ (f : Nat) (l : List UInt8) (rs : List Nat), l.length ≤ f → vgoL f l = some rs → l = encs rs ∧ ∀ r ∈ rs, Scalar r := by
  intro f
  induction f with
  | zero =>
    intro l rs hl h
    simp [vgoL] at h; subst h
    have : l = [] := by cases l with
      | nil => rfl
      | cons a b => simp at hl
    subst this
    exact ⟨rfl, by simp⟩
  | succ f ih =>
    intro l rs hl h
    rw [vgoL] at h
    by_cases hn : l = []
    · rw [if_pos hn] at h
      simp at h; subst h; subst hn
      exact ⟨rfl, by simp⟩
    · rw [if_neg hn] at h
      by_cases hb : (decodeL l).1 = 65533 ∧ (decodeL l).2 = 1
      · rw [if_pos hb] at h; cases h
      · rw [if_neg hb] at h
        obtain ⟨r, hr, rfl⟩ := Option.map_eq_some_iff.1 h
        have hw := decodeL_width l
        obtain ⟨e, hs⟩ := ih _ r (by simp; omega) hr
        refine ⟨?_, ?_⟩
        · rw [encs_cons, encode_decode l hn hb, ← e, List.take_append_drop]
        · intro x hx
          rcases List.mem_cons.1 hx with rfl | h2
          · unfold Scalar
            rw [decodeL_N]
            exact decodeN_valid _ _ _ _ _ (UInt8.toNat_lt _)
          · exact hs x h2
theorem runesOf_iff (s : ByteArray) (rs : List Nat) : runesOf s = some rs ↔ s.data.toList = encs rs ∧ ∀ r ∈ rs, Scalar r := by
  rw [runesOf_L]
  constructor
  · exact encs_vgoL _ _ _ (Nat.le_refl _)
  · rintro ⟨h, hs⟩
    rw [h]; exact vgoL_encs rs _ hs (Nat.le_refl _)
/-- Where the n-th code point begins. -/
def offOf (rs : List Nat) (n : Nat) : Nat := (encs (rs.take n)).length
theorem offOf_zero (rs : List Nat) : offOf rs 0 = 0 := rfl
theorem offOf_all (rs : List Nat) : offOf rs rs.length = (encs rs).length := by unfold offOf; rw [List.take_length]
theorem encs_split (rs : List Nat) (n : Nat) : encs rs = encs (rs.take n) ++ encs (rs.drop n) := by rw [← encs_append, List.take_append_drop]
theorem encs_take (rs : List Nat) (n : Nat) : (encs rs).take (offOf rs n) = encs (rs.take n) := by
  rw [encs_split rs n]; unfold offOf; rw [List.take_left]
theorem encs_drop (rs : List Nat) (n : Nat) : (encs rs).drop (offOf rs n) = encs (rs.drop n) := by
  rw [encs_split rs n]; unfold offOf; rw [List.drop_left]
theorem offOf_le (rs : List Nat) (n : Nat) : offOf rs n ≤ (encs rs).length := by
  rw [encs_split rs n, List.length_append]; unfold offOf; omega
theorem offOf_succ (rs : List Nat) (n : Nat) (h : n < rs.length) : offOf rs (n + 1) = offOf rs n + (encodeRune ((rs[n] : Nat) : Int)).length := by
  unfold offOf
  rw [List.take_succ_eq_append_getElem h, encs_append, List.length_append, encs_cons, encs_nil, List.append_nil]
theorem offOf_lt (rs : List Nat) (n : Nat) (h : n < rs.length) (hs : ∀ r ∈ rs, Scalar r) : offOf rs n < (encs rs).length := by
  have h1 := offOf_succ rs n h
  have h2 := enc_pos _ (hs _ (List.getElem_mem h))
  have h3 := offOf_le rs (n + 1)
  omega
theorem decode_off (s : ByteArray) (rs : List Nat) (n : Nat) (hr : s.data.toList = encs rs) (hs : ∀ r ∈ rs, Scalar r) (h : n < rs.length) : Utf8.decode s (offOf rs n) = (rs[n], (encodeRune ((rs[n] : Nat) : Int)).length) := by
  rw [← decodeL_drop, hr, encs_drop, List.drop_eq_getElem_cons h, encs_cons, decodeL_enc _ (hs _ (List.getElem_mem h))]
/-- A byte that is no tail's stands where a code point begins. -/
theorem off_of_head : ∀ (rs : List Nat) (p : Nat) (b : UInt8), (∀ r ∈ rs, Scalar r) → (encs rs)[p]? = some b → ¬ tailB b → ∃ n, n < rs.length ∧ p = offOf rs n := by
  intro rs
  induction rs with
  | nil => intro p b _ h _; rw [encs_nil] at h; simp at h
  | cons r rs ih =>
    intro p b hs h hb
    obtain ⟨x, tl, e, hx, ht⟩ := enc_shape r (hs r (.head _))
    by_cases h0 : p = 0
    · exact ⟨0, by simp, by rw [h0]; rfl⟩
    · by_cases h1 : p < (encodeRune (r : Int)).length
      · exfalso
        rw [encs_cons, List.getElem?_append_left h1, e] at h
        obtain ⟨q, rfl⟩ : ∃ q, p = q + 1 := ⟨p - 1, by omega⟩
        rw [List.getElem?_cons_succ] at h
        exact hb (ht b (List.mem_of_getElem? h))
      · rw [encs_cons, List.getElem?_append_right (by omega)] at h
        obtain ⟨n, hn, hp⟩ := ih _ b (fun y hy => hs y (.tail _ hy)) h hb
        refine ⟨n + 1, by simp; omega, ?_⟩
        have : offOf (r :: rs) (n + 1) = (encodeRune (r : Int)).length + offOf rs n := by
          unfold offOf; rw [List.take_succ_cons, encs_cons, List.length_append]
        omega
/-- How many bytes of some begin a code point. -/
def heads (l : List UInt8) : Nat := l.countP fun b => decide (¬ tailB b)
theorem heads_encs (rs : List Nat) (h : ∀ r ∈ rs, Scalar r) : heads (encs rs) = rs.length := by
  induction rs with
  | nil => rfl
  | cons r rs ih =>
    obtain ⟨x, tl, e, hx, ht⟩ := enc_shape r (h r (.head _))
    have h2 := ih (fun y hy => h y (.tail _ hy))
    unfold heads at h2 ⊢
    rw [encs_cons, List.countP_append, h2, e, List.countP_cons_of_pos (by simpa using hx), List.countP_eq_zero.2 (by intro y hy; simpa using ht y hy)]
    simp; omega
end Go.Proofs.YtfoofbcfcekleaaGreatDoor
