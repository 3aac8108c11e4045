import Derived.Test.YtfoofbcfcekleaaGreatDoorReprP
import Derived.Test.YtfoofbcfcekleaaGreatDoorBldR
import Derived.Test.YtfoofbcfcekleaaGreatDoorTOk
import Derived.Deep.RegionWith
namespace Go.Proofs.YtfoofbcfcekleaaGreatDoor
open Go.RowKit Go.Lib Go.Shelf
set_option linter.unusedVariables false
set_option linter.unusedSimpArgs false

theorem enc8 (r : Nat) (hr : Scalar r) : Utf8.encode (r : Int) = ⟨(encodeRune (r : Int)).toArray⟩ := by
  have hv : Utf8.valid (r : Int) = true := by
    unfold Scalar at hr
    unfold Utf8.valid
    simp only [Bool.or_eq_true, Bool.and_eq_true, decide_eq_true_eq]
    omega
  unfold Utf8.encode
  simp only [hv, if_true, Int.toNat_natCast]
  rcases enc_cases r hr with ⟨a, e⟩ | ⟨a, b, e⟩ | ⟨a, b, e⟩ | ⟨a, b, e⟩
  · rw [if_pos a, e]
  · rw [if_neg (by omega), if_pos b, e]
  · rw [if_neg (by omega), if_neg (by omega), if_pos b, e]
  · rw [if_neg (by omega), if_neg (by omega), if_neg (by omega), e]
theorem enc_one (r : Nat) (h : r < 128) : encodeRune (r : Int) = [r.toUInt8] := by
  rcases enc_cases r (by unfold Scalar; omega) with ⟨a, e⟩ | ⟨a, b, e⟩ | ⟨a, b, e⟩ | ⟨a, b, e⟩
  · exact e
  all_goals omega
/-- The signs of all digits. -/
abbrev digS : ByteArray := ⟨#[48, 49, 50, 51, 52, 53, 54, 55, 56, 57, 97, 98, 99, 100, 101, 102, 103, 104, 105, 106, 107, 108, 109, 110, 111, 112, 113, 114, 115, 116, 117, 118, 119, 120, 121, 122]⟩
theorem dig_lt {n : Nat} (h : n < 16) : n < digS.size := Nat.lt_of_lt_of_le h (by decide)
theorem dig_all : ∀ m : Fin 16, digS[m.1]'(dig_lt m.2) = (hexN m.1).toUInt8 := by decide
theorem dig_at (n : Nat) (h : n < 16) : digS[n]'(dig_lt h) = (hexN n).toUInt8 := dig_all ⟨n, h⟩
set_option maxRecDepth 100000 in
theorem runeRepr_plain (r q : Nat) (w : World) (hr : Scalar r) (h1 : r ≠ 92) (h2 : r ≠ q) (h3 : 32 ≤ r) (h4 : r ≠ 127) :
    Calls Tryz.prog 16 #[.int .i32 r, .int .i32 q] w fun e w' => e = .returned (.string ⟨(encodeRune (r : Int)).toArray⟩) ∧ w'.heap = w.heap ∧ Below w.heap.size w w' := by
  have e1 : ((r : Int) == 92) = false := by rw [beq_eq_false_iff_ne]; omega
  have e2 : ((r : Int) == (q : Int)) = false := by rw [beq_eq_false_iff_ne]; omega
  have e3 : ((r : Int) == 10) = false := by rw [beq_eq_false_iff_ne]; omega
  have e4 : ((r : Int) == 9) = false := by rw [beq_eq_false_iff_ne]; omega
  have e5 : ((r : Int) == 13) = false := by rw [beq_eq_false_iff_ne]; omega
  have e6 : ¬ (r : Int) < 32 := by omega
  have e7 : ((r : Int) == 127) = false := by rw [beq_eq_false_iff_ne]; omega
  have he := enc8 r hr
  clear h1 h2 h3 h4
  go_enter Tryz.func16, Tryz.ntmps16
  go_wp2
  go_ret
  exact ⟨rfl, rfl, Below.refl _ _⟩
set_option maxRecDepth 100000 in
theorem runeRepr_92 (q : Nat) (w : World) :
    Calls Tryz.prog 16 #[.int .i32 92, .int .i32 q] w fun e w' => e = .returned (.string ⟨#[92, 92]⟩) ∧ w'.heap = w.heap ∧ Below w.heap.size w w' := by
  go_enter Tryz.func16, Tryz.ntmps16
  go_wp2
  go_ret
  exact ⟨rfl, rfl, Below.refl _ _⟩
set_option maxRecDepth 100000 in
theorem runeRepr_q (q : Nat) (w : World) (hq : q = 39 ∨ q = 34) :
    Calls Tryz.prog 16 #[.int .i32 q, .int .i32 q] w fun e w' => e = .returned (.string ⟨#[92, q.toUInt8]⟩) ∧ w'.heap = w.heap ∧ Below w.heap.size w w' := by
  rcases hq with rfl | rfl
  · go_enter Tryz.func16, Tryz.ntmps16
    go_wp2
    go_ret
    exact ⟨rfl, rfl, Below.refl _ _⟩
  · go_enter Tryz.func16, Tryz.ntmps16
    go_wp2
    go_ret
    exact ⟨rfl, rfl, Below.refl _ _⟩
set_option maxRecDepth 100000 in
theorem runeRepr_ctl (r c q : Nat) (w : World) (hq : q = 39 ∨ q = 34) (h : (r = 10 ∧ c = 110) ∨ (r = 9 ∧ c = 116) ∨ (r = 13 ∧ c = 114)) :
    Calls Tryz.prog 16 #[.int .i32 r, .int .i32 q] w fun e w' => e = .returned (.string ⟨#[92, c.toUInt8]⟩) ∧ w'.heap = w.heap ∧ Below w.heap.size w w' := by
  rcases hq with rfl | rfl <;> rcases h with ⟨rfl, rfl⟩ | ⟨rfl, rfl⟩ | ⟨rfl, rfl⟩
  all_goals
    (go_enter Tryz.func16, Tryz.ntmps16
     go_wp2
     go_ret
     exact ⟨rfl, rfl, Below.refl _ _⟩)
set_option maxRecDepth 100000 in
theorem runeRepr_hex (r q : Nat) (w : World) (h1 : r ≠ 92) (h2 : r ≠ q) (h3 : r < 32 ∨ r = 127) (h4 : r ≠ 10) (h5 : r ≠ 9) (h6 : r ≠ 13) :
    Calls Tryz.prog 16 #[.int .i32 r, .int .i32 q] w fun e w' => e = .returned (.string ⟨(toB [92, 120, hexN (r / 16), hexN (r % 16)]).toArray⟩) ∧ w'.heap = w.heap ∧ Below w.heap.size w w' := by
  have e1 : ((r : Int) == 92) = false := by rw [beq_eq_false_iff_ne]; omega
  have e2 : ((r : Int) == (q : Int)) = false := by rw [beq_eq_false_iff_ne]; omega
  have e3 : ((r : Int) == 10) = false := by rw [beq_eq_false_iff_ne]; omega
  have e4 : ((r : Int) == 9) = false := by rw [beq_eq_false_iff_ne]; omega
  have e5 : ((r : Int) == 13) = false := by rw [beq_eq_false_iff_ne]; omega
  obtain ⟨n1, hn1⟩ : ∃ n1 : Nat, r / 16 = n1 := ⟨_, rfl⟩
  obtain ⟨n2, hn2⟩ : ∃ n2 : Nat, r % 16 = n2 := ⟨_, rfl⟩
  have hn1b : n1 < 16 := by omega
  have hn2b : n2 < 16 := by omega
  have hsA := dig_at n1 hn1b
  have hsB := dig_at n2 hn2b
  have hq : Int.tdiv (r : Int) 16 = (n1 : Int) := by rw [← hn1]; exact (Int.ofNat_tdiv r 16).symm
  have hm : Int.tmod (r : Int) 16 = (n2 : Int) := by rw [← hn2]; rfl
  have w1 : IntKind.i32.wrap (n1 : Int) = (n1 : Int) := by simp [IntKind.wrap, IntKind.bits, IntKind.signed]; omega
  have w2 : IntKind.i32.wrap (n2 : Int) = (n2 : Int) := by simp [IntKind.wrap, IntKind.bits, IntKind.signed]; omega
  rw [hn1, hn2]
  obtain ⟨A, hA⟩ : ∃ A : Nat, hexN n1 = A := ⟨_, rfl⟩
  obtain ⟨B, hB⟩ : ∃ B : Nat, hexN n2 = B := ⟨_, rfl⟩
  have hA1 : A < 128 := by rw [← hA]; unfold hexN; split <;> omega
  have hB1 : B < 128 := by rw [← hB]; unfold hexN; split <;> omega
  rw [hA] at hsA ⊢
  rw [hB] at hsB ⊢
  have hvA : (A : Int) % 256 = (A : Int) := by omega
  have hvB : (B : Int) % 256 = (B : Int) := by omega
  have hEA : Utf8.encode (A : Int) = ⟨#[A.toUInt8]⟩ := by rw [enc8 A (by unfold Scalar; omega), enc_one A hA1]
  have hEB : Utf8.encode (B : Int) = ⟨#[B.toUInt8]⟩ := by rw [enc8 B (by unfold Scalar; omega), enc_one B hB1]
  have i1 : (n1 : Int) < 36 := by omega
  have i2 : (n2 : Int) < 36 := by omega
  clear hn1 hn2 hA hB
  by_cases h7 : (r : Int) < 32
  · clear h1 h2 h3 h4 h5 h6
    go_enter Tryz.func16, Tryz.ntmps16
    go_wp2_with fail
    go_region_with fail
    all_goals (try go_wp2)
    all_goals refine bodyPost_ret (v := .string ⟨#[92, 120, A.toUInt8, B.toUInt8]⟩) (by simp [results, Tryz.results16, go_sem, Act.put]; rfl) rfl ?_
    all_goals exact ⟨rfl, rfl, (by first | exact Below.refl _ _ | exact (Below.refl _ _).drew | exact ((Below.refl _ _).drew).drew)⟩
  · have e7 : ((r : Int) == 127) = true := by rw [beq_iff_eq]; omega
    have h127 : r = 127 := by omega
    clear h1 h2 h3 h4 h5 h6 h127
    go_enter Tryz.func16, Tryz.ntmps16
    go_wp2_with fail
    go_region_with fail
    all_goals (try go_wp2)
    all_goals refine bodyPost_ret (v := .string ⟨#[92, 120, A.toUInt8, B.toUInt8]⟩) (by simp [results, Tryz.results16, go_sem, Act.put]; rfl) rfl ?_
    all_goals exact ⟨rfl, rfl, (by first | exact Below.refl _ _ | exact (Below.refl _ _).drew | exact ((Below.refl _ _).drew).drew)⟩
theorem runeRepr_any (r q : Nat) (w : World) (hr : Scalar r) (hq : q = 39 ∨ q = 34) :
    Calls Tryz.prog 16 #[.int .i32 r, .int .i32 q] w fun e w' => e = .returned (.string ⟨(reprR q r).toArray⟩) ∧ w'.heap = w.heap ∧ Below w.heap.size w w' := by
  have hq2 : q < 128 := by omega
  unfold reprR
  by_cases h0 : r < 128
  · rw [if_pos h0]
    unfold reprN
    by_cases h1 : r = 92 ∨ r = q
    · rw [if_pos h1]
      rcases h1 with rfl | rfl
      · exact runeRepr_92 q w
      · exact runeRepr_q r w hq
    · rw [if_neg h1]
      by_cases h2 : r = 10
      · rw [if_pos h2]; exact runeRepr_ctl r 110 q w hq (.inl ⟨h2, rfl⟩)
      · rw [if_neg h2]
        by_cases h3 : r = 9
        · rw [if_pos h3]; exact runeRepr_ctl r 116 q w hq (.inr (.inl ⟨h3, rfl⟩))
        · rw [if_neg h3]
          by_cases h4 : r = 13
          · rw [if_pos h4]; exact runeRepr_ctl r 114 q w hq (.inr (.inr ⟨h4, rfl⟩))
          · rw [if_neg h4]
            by_cases h5 : r < 32 ∨ r = 127
            · rw [if_pos h5]; exact runeRepr_hex r q w (fun h => h1 (.inl h)) (fun h => h1 (.inr h)) h5 h2 h3 h4
            · rw [if_neg h5]
              have := runeRepr_plain r q w hr (fun h => h1 (.inl h)) (fun h => h1 (.inr h)) (by omega) (by omega)
              rw [enc_one r h0] at this
              exact this
  · rw [if_neg h0]
    exact runeRepr_plain r q w hr (by omega) (by omega) (by omega) (by omega)
theorem bld_heap {B b : Nat} {bs : List Value} {w w' : World} (h : Bld B b bs w) (he : w'.heap = w.heap) : Bld B b bs w' := by
  cases w
  cases w'
  simp only at he
  subst he
  exact h
end Go.Proofs.YtfoofbcfcekleaaGreatDoor
