import Derived.Test.YtleobhdcdniccaaPowR
import Derived.Test.YtleobhdcdniccaaPowS
namespace Go.Proofs.Ytleobhdcdniccaa
open Go.RowKit
set_option linter.unusedVariables false
set_option linter.unusedSimpArgs false

theorem pw_args {X : Nat} {n : Int} {p : Bool} : pwS false p X n = false ∧ pwL false X n = [] ∧ pwC false X n = 1 := by
  unfold pwS pwL pwC; simp
theorem pw_neg {X : Nat} {n : Int} {p : Bool} (h : n < 0) : pwS true p X n = false ∧ pwL true X n = [] ∧ pwC true X n = 4 := by
  unfold pwS pwL pwC; simp [h]
theorem pw_ok {X : Nat} {n : Int} {p : Bool} (h : ¬ n < 0) : pwS true p X n = fitS (p && decide (n % 2 = 1)) (X ^ n.toNat) ∧ pwL true X n = fitL (X ^ n.toNat) ∧ pwC true X n = fitC (X ^ n.toNat) := by
  unfold pwS pwL pwC; simp only [if_pos rfl, if_neg h, and_self, if_true]

theorem bigPow_any (p : Bool) (v : Value) (xs : List Int) (n : Int) (w : World) (hx : Rd w v xs) (h0 : -9223372036854775808 ≤ n) (h1 : n ≤ 9223372036854775807) :
    Calls Try.prog 25 #[.agg #[.bool p, v], .int .i64 n] w fun e w' => ∃ a c, e = .returned (.tuple #[.agg #[.bool (pwS (okB p xs) p (val xs) n), .slice a (pwL (okB p xs) (val xs) n).length c], .int .i64 (pwC (okB p xs) (val xs) n)]) ∧ Own w' w.heap.size (.slice a (pwL (okB p xs) (val xs) n).length c) (pwL (okB p xs) (val xs) n) ∧ Below w.heap.size w w' := by
  cases hok : okB p xs with
  | false => obtain ⟨e1, e2, e3⟩ := pw_args (X := val xs) (n := n) (p := p); rw [e1, e2, e3]; exact pw_impl_args p v xs n w hx hok
  | true =>
    by_cases hn : n < 0
    · obtain ⟨e1, e2, e3⟩ := pw_neg (X := val xs) (p := p) hn
      rw [e1, e2, e3]; exact pw_impl_neg p v xs n w hx hok hn
    · obtain ⟨e1, e2, e3⟩ := pw_ok (X := val xs) (p := p) hn
      rw [e1, e2, e3]; exact bigPow_ok p v xs n w hx hok (by omega) h1

theorem bits_small {xs : List Int} (hz : Limbs xs) (hn : Norm xs) (hb : bitsN xs < 2) : val xs ≤ 1 := by
  by_cases hne : xs.length = 0
  · rw [List.eq_nil_of_length_eq_zero hne]; decide
  · obtain ⟨b1, b2⟩ := bits_val hz hn hne
    have : (bitsN xs).toNat ≤ 1 := by omega
    have h3 : 2 ^ (bitsN xs).toNat ≤ 2 ^ 1 := Nat.pow_le_pow_right (by omega) this
    omega
theorem bits_two {xs : List Int} (hz : Limbs xs) (hn : Norm xs) (hb : ¬ bitsN xs < 2) : 2 ≤ val xs := by
  have hne : ¬ xs.length = 0 := fun e => hb (by unfold bitsN; rw [if_pos e]; decide)
  obtain ⟨b1, b2⟩ := bits_val hz hn hne
  have h3 : 2 ^ 2 ≤ 2 ^ (bitsN xs).toNat := Nat.pow_le_pow_right (by omega) (by omega)
  omega
theorem pow_one_zero {x m : Nat} (h : x ≤ 1) (hm : 1 ≤ m) : x ^ m = x := by
  rcases Nat.lt_or_ge x 1 with h1 | h1
  · have : x = 0 := by omega
    subst this; exact Nat.zero_pow (by omega)
  · have : x = 1 := by omega
    subst this; exact Nat.one_pow m

theorem bigPowS_any (p : Bool) (v : Value) (xs : List Int) (n : Int) (w : World) (hx : Rd w v xs) (h0 : -9223372036854775808 ≤ n) (h1 : n ≤ 9223372036854775807) :
    Calls Try.prog 26 #[.agg #[.bool p, v], .int .i64 n] w fun e w' => ∃ a c, e = .returned (.tuple #[.agg #[.bool (pwS (okB p xs) p (val xs) n), .slice a (pwL (okB p xs) (val xs) n).length c], .int .i64 (pwC (okB p xs) (val xs) n)]) ∧ Own w' w.heap.size (.slice a (pwL (okB p xs) (val xs) n).length c) (pwL (okB p xs) (val xs) n) ∧ Below w.heap.size w w' := by
  have hz := hx
  obtain ⟨_, _, _, _, hz, _, _⟩ := hz
  cases hok : okB p xs with
  | false => obtain ⟨e1, e2, e3⟩ := pw_args (X := val xs) (n := n) (p := p); rw [e1, e2, e3]; exact pw_spec_args p v xs n w hx hok
  | true =>
    by_cases hn : n < 0
    · obtain ⟨e1, e2, e3⟩ := pw_neg (X := val xs) (p := p) hn
      rw [e1, e2, e3]; exact pw_spec_neg p v xs n w hx hok hn
    · obtain ⟨e1, e2, e3⟩ := pw_ok (X := val xs) (p := p) hn
      rw [e1, e2, e3]
      obtain ⟨m, rfl⟩ : ∃ m : Nat, n = m := ⟨n.toNat, by omega⟩
      rw [Int.toNat_natCast]
      have hnm := okB_norm hok
      by_cases hm0 : m = 0
      · subst hm0
        obtain ⟨f1, f2, f3⟩ := fit_yes (n := val xs ^ 0) (by rw [Nat.pow_zero, lim_one]; simp) (p && decide (((0 : Nat) : Int) % 2 = 1))
        rw [f1, f2, f3, Nat.pow_zero]
        have e : nz (p && decide (((0 : Nat) : Int) % 2 = 1)) 1 = false := by cases p <;> rfl
        rw [e]
        exact pw_spec_one p v xs 0 w hx hok
      · by_cases hb : bitsN xs < 2
        · have hs := bits_small hz hnm.1 hb
          have hp1 := pow_one_zero (m := m) hs (by omega)
          obtain ⟨f1, f2, f3⟩ := fit_yes (n := val xs ^ m) (Nat.le_trans (pow_len_small hs) (by decide)) (p && decide ((m : Int) % 2 = 1))
          rw [f1, f2, f3, hp1]
          cases p with
          | false => exact pw_spec_smallF false v xs m w hx m rfl (by omega) h1 rfl hok hb
          | true => exact pw_spec_smallT true v xs m w hx m rfl (by omega) h1 rfl hok hb
        · exact bigPowS_loop p v xs m w hx hok h1 (by omega) (by omega) (bits_two hz hnm.1 hb)
end Go.Proofs.Ytleobhdcdniccaa
