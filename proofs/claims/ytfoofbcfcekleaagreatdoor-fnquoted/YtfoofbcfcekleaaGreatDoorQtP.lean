import Derived.Test.YtfoofbcfcekleaaGreatDoorSvP
import Derived.Test.YtfoofbcfcekleaaGreatDoorReprP
import Derived.Test.YtfoofbcfcekleaaGreatDoorQtG
namespace Go.Proofs.YtfoofbcfcekleaaGreatDoor
open Go.RowKit Go.Lib
set_option linter.unusedVariables false
set_option linter.unusedSimpArgs false

/-- A code point, as a repr has it: code points. -/
def rprN (q r : Nat) : List Nat := if r < 128 then reprN q r else [r]
theorem hexN_lt {d : Nat} (h : d < 16) : hexN d < 128 := by unfold hexN; split <;> omega
theorem reprN_low {q r : Nat} (hq : q < 128) (hr : r < 128) : ∀ x ∈ reprN q r, x < 128 := by
  have h1 := hexN_lt (d := r / 16) (by omega)
  have h2 := hexN_lt (d := r % 16) (by omega)
  intro x hx
  unfold reprN at hx
  repeat' split at hx
  all_goals simp at hx
  all_goals omega
theorem encs_low : ∀ l : List Nat, (∀ x ∈ l, x < 128) → encs l = toB l
  | [], _ => rfl
  | x :: l, h => by
    rw [encs_cons, encs_low l (fun y hy => h y (by simp [hy]))]
    have hx := h x (by simp)
    rcases enc_cases x (.inl (by omega)) with ⟨a, e⟩ | ⟨a, _⟩ | ⟨a, _⟩ | ⟨a, _⟩
    · rw [e]; rfl
    all_goals omega
theorem rpr_enc (q r : Nat) (hq : q < 128) : encs (rprN q r) = reprR q r := by
  unfold rprN reprR
  split
  · rename_i h; exact encs_low _ (reprN_low hq h)
  · rw [encs_cons, encs_nil, List.append_nil]
theorem rpr_encs (q : Nat) (hq : q < 128) : ∀ rs : List Nat, encs (rs.flatMap (rprN q)) = rs.flatMap (reprR q)
  | [] => rfl
  | r :: rs => by rw [List.flatMap_cons, encs_append, rpr_enc q r hq, rpr_encs q hq rs, List.flatMap_cons]
theorem rpr_scalar (q : Nat) (hq : q < 128) (rs : List Nat) (hs : ∀ r ∈ rs, Scalar r) : ∀ x ∈ rs.flatMap (rprN q), Scalar x := by
  intro x hx
  obtain ⟨r, hr, h⟩ := List.mem_flatMap.1 hx
  unfold rprN at h
  split at h
  · rename_i h1; exact .inl (by have := reprN_low hq h1 x h; omega)
  · rw [List.mem_singleton] at h; subst h; exact hs x hr
theorem hxV_hexN {d : Nat} (h : d < 16) : hxV (hexN d) = some d := by
  unfold hxV hexN
  by_cases h1 : d < 10
  · rw [if_pos h1, if_pos (by omega)]; congr 1; omega
  · rw [if_neg h1, if_neg (by omega), if_pos (by omega)]; congr 1; omega
/-- What is read back is what was written. -/
theorem sv_rpr (q : Nat) (hq : q = 39 ∨ q = 34) : ∀ rs : List Nat, sv (rs.flatMap (rprN q)) = some rs
  | [] => rfl
  | r :: rs => by
    have ih := sv_rpr q hq rs
    rw [List.flatMap_cons]
    generalize rs.flatMap (rprN q) = T at ih
    unfold rprN
    by_cases h128 : r < 128
    · rw [if_pos h128]
      unfold reprN
      by_cases h1 : r = 92 ∨ r = q
      · rw [if_pos h1, List.cons_append, List.singleton_append, sv_esc]
        have e : escR r T = some ([r], 0) := by
          unfold escR
          rw [if_neg (by omega), if_pos (by omega)]
        rw [e]
        simp [ih]
      rw [if_neg h1]
      by_cases h2 : r = 10
      · subst h2
        rw [if_pos rfl, List.cons_append, List.singleton_append, sv_esc]
        have e : escR 110 T = some ([10], 0) := by unfold escR; simp
        rw [e]; simp [ih]
      rw [if_neg h2]
      by_cases h3 : r = 9
      · subst h3
        rw [if_pos rfl, List.cons_append, List.singleton_append, sv_esc]
        have e : escR 116 T = some ([9], 0) := by unfold escR; simp
        rw [e]; simp [ih]
      rw [if_neg h3]
      by_cases h4 : r = 13
      · subst h4
        rw [if_pos rfl, List.cons_append, List.singleton_append, sv_esc]
        have e : escR 114 T = some ([13], 0) := by unfold escR; simp
        rw [e]; simp [ih]
      rw [if_neg h4]
      by_cases h5 : r < 32 ∨ r = 127
      · rw [if_pos h5]
        show sv (92 :: 120 :: hexN (r / 16) :: hexN (r % 16) :: T) = _
        rw [sv_esc]
        have e : escR 120 (hexN (r / 16) :: hexN (r % 16) :: T) = some ([r], 2) := by
          unfold escR
          rw [if_neg (by omega), if_neg (by omega), if_neg (by omega), if_neg (by omega), if_neg (by omega), if_neg (by omega), if_pos rfl]
          unfold ptR
          rw [hxN, hxV_hexN (by omega)]
          simp only [Option.bind_some]
          rw [hxN, hxV_hexN (by omega)]
          simp only [Option.bind_some, hxN]
          have e2 : (0 * 16 + r / 16) * 16 + r % 16 = r := by omega
          rw [e2, if_neg (by omega)]
        rw [e]
        simp [ih]
      · rw [if_neg h5, List.singleton_append, sv_plain r T (by omega), ih]
        rfl
    · rw [if_neg h128, List.singleton_append, sv_plain r T (by omega), ih]
      rfl
theorem gd_plain {q : UInt8} : ∀ l : List UInt8, (∀ b ∈ l, b ≠ 92 ∧ b ≠ q ∧ b ≠ 10) → Gd q l
  | [], _ => .nil
  | b :: l, h => .one (h b (by simp)).1 (h b (by simp)).2.1 (h b (by simp)).2.2 (gd_plain l (fun c hc => h c (by simp [hc])))
theorem byte_ne {n m : Nat} (h1 : n < 256) (h2 : m < 256) (h : n ≠ m) : n.toUInt8 ≠ m.toUInt8 := fun e => h (by
  have := congrArg UInt8.toNat e
  rw [byte_nat h1, byte_nat h2] at this
  exact this)
theorem gd_repr (q r : Nat) (hq : q = 39 ∨ q = 34) (hr : Scalar r) : Gd q.toUInt8 (reprR q r) := by
  unfold reprR
  by_cases h128 : r < 128
  · rw [if_pos h128]
    have h1 := hexN_lt (d := r / 16) (by omega)
    have h2 := hexN_lt (d := r % 16) (by omega)
    have hx : ∀ d, d < 16 → hexN d ≠ 92 ∧ hexN d ≠ q ∧ hexN d ≠ 10 := fun d hd => by unfold hexN; split <;> omega
    have e92 : (92 : Nat).toUInt8 = 92 := rfl
    have e10 : (10 : Nat).toUInt8 = 10 := rfl
    unfold reprN
    by_cases c1 : r = 92 ∨ r = q
    · rw [if_pos c1]; exact .two .nil
    rw [if_neg c1]
    by_cases c2 : r = 10
    · rw [if_pos c2]; exact .two .nil
    rw [if_neg c2]
    by_cases c3 : r = 9
    · rw [if_pos c3]; exact .two .nil
    rw [if_neg c3]
    by_cases c4 : r = 13
    · rw [if_pos c4]; exact .two .nil
    rw [if_neg c4]
    by_cases c5 : r < 32 ∨ r = 127
    · rw [if_pos c5]
      refine .two (gd_plain _ (fun b hb => ?_))
      have hb2 : b = (hexN (r / 16)).toUInt8 ∨ b = (hexN (r % 16)).toUInt8 := by simpa using hb
      rcases hb2 with rfl | rfl
      · obtain ⟨p1, p2, p3⟩ := hx (r / 16) (by omega)
        exact ⟨byte_ne (m := 92) (by omega) (by omega) p1, byte_ne (m := q) (by omega) (by omega) p2, byte_ne (m := 10) (by omega) (by omega) p3⟩
      · obtain ⟨p1, p2, p3⟩ := hx (r % 16) (by omega)
        exact ⟨byte_ne (m := 92) (by omega) (by omega) p1, byte_ne (m := q) (by omega) (by omega) p2, byte_ne (m := 10) (by omega) (by omega) p3⟩
    · rw [if_neg c5]
      refine gd_plain _ (fun b hb => ?_)
      have hb2 : b = r.toUInt8 := by simpa [toB] using hb
      subst hb2
      exact ⟨byte_ne (m := 92) (by omega) (by omega) (by omega), byte_ne (m := q) (by omega) (by omega) (by omega), byte_ne (m := 10) (by omega) (by omega) c2⟩
  · rw [if_neg h128]
    have hs := hr
    unfold Scalar at hs
    have hh := enc_high (r := (r : Int)) (by omega) (by omega)
    refine gd_plain _ (fun b hb => ?_)
    have h5 := hh b hb
    refine ⟨fun e => ?_, fun e => ?_, fun e => ?_⟩
    · subst e; have : (92 : UInt8).toNat = 92 := rfl; omega
    · subst e; rw [byte_nat (by omega)] at h5; omega
    · subst e; have : (10 : UInt8).toNat = 10 := rfl; omega
theorem gd_all (q : Nat) (hq : q = 39 ∨ q = 34) : ∀ rs : List Nat, (∀ r ∈ rs, Scalar r) → Gd q.toUInt8 (rs.flatMap (reprR q))
  | [], _ => .nil
  | r :: rs, h => by rw [List.flatMap_cons]; exact (gd_repr q r hq (h r (by simp))).app (gd_all q hq rs (fun x hx => h x (by simp [hx])))
/-- Neither a newline nor a carriage return stands in a repr. -/
theorem repr_no (q r : Nat) (hq : q = 39 ∨ q = 34) (hr : Scalar r) : ∀ b ∈ reprR q r, b ≠ 10 ∧ b ≠ 13 := by
  intro b hb
  unfold reprR at hb
  by_cases h128 : r < 128
  · rw [if_pos h128] at hb
    have h1 : ∀ x ∈ reprN q r, x ≠ 10 ∧ x ≠ 13 ∧ x < 128 := by
      have a1 : ∀ d, d < 16 → hexN d ≠ 10 ∧ hexN d ≠ 13 ∧ hexN d < 128 := fun d hd => by unfold hexN; split <;> omega
      have a2 := a1 (r / 16) (by omega)
      have a3 := a1 (r % 16) (by omega)
      intro x hx
      unfold reprN at hx
      repeat' split at hx
      all_goals simp at hx
      all_goals omega
    unfold toB at hb
    obtain ⟨x, hx, rfl⟩ := List.mem_map.1 hb
    obtain ⟨p1, p2, p3⟩ := h1 x hx
    exact ⟨byte_ne (m := 10) (by omega) (by omega) p1, byte_ne (m := 13) (by omega) (by omega) p2⟩
  · rw [if_neg h128] at hb
    have hs := hr
    unfold Scalar at hs
    have h5 := enc_high (r := (r : Int)) (by omega) (by omega) b hb
    refine ⟨fun e => ?_, fun e => ?_⟩
    · subst e; have : (10 : UInt8).toNat = 10 := rfl; omega
    · subst e; have : (13 : UInt8).toNat = 13 := rfl; omega
end Go.Proofs.YtfoofbcfcekleaaGreatDoor
