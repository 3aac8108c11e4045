import Derived.Test.YtipoafmabiahoaaShiftI
import Derived.Test.YtipoafmabiahoaaShiftS
namespace Go.Proofs.Ytipoafmabiahoaa
open Go.RowKit
set_option linter.unusedVariables false
set_option linter.unusedSimpArgs false

theorem sh_neg {X : Nat} {n : Int} {p : Bool} (hX : ¬ X = 0) (hn : n < 0) : shS true p X n = nz p (flQ p X false (2 ^ (min (-n) 4096).toNat)) ∧ shL true p X n = lim (flQ p X false (2 ^ (min (-n) 4096).toNat)) ∧ shC true X n = 0 := by
  unfold shS shL shC; simp only [if_pos rfl, if_neg hX, if_pos hn, and_self, if_true]
theorem sh_up {X : Nat} {n : Int} {p : Bool} (hX : ¬ X = 0) (hn : ¬ n < 0) (h4 : ¬ 4096 < n) : shS true p X n = fitS p (X * 2 ^ n.toNat) ∧ shL true p X n = fitL (X * 2 ^ n.toNat) ∧ shC true X n = fitC (X * 2 ^ n.toNat) := by
  unfold shS shL shC; simp only [if_pos rfl, if_neg hX, if_neg hn, if_neg h4, and_self, if_true]
theorem sh_large {X : Nat} {n : Int} {p : Bool} (hX : ¬ X = 0) (hn : ¬ n < 0) (h4 : 4096 < n) : shS true p X n = false ∧ shL true p X n = [] ∧ shC true X n = 3 := by
  unfold shS shL shC; simp only [if_pos rfl, if_neg hX, if_neg hn, if_pos h4, and_self, if_true]
theorem sh_zero {n : Int} {p : Bool} : shS true p 0 n = false ∧ shL true p 0 n = [] ∧ shC true 0 n = 0 := by
  unfold shS shL shC; simp
theorem sh_args {X : Nat} {n : Int} {p : Bool} : shS false p X n = false ∧ shL false p X n = [] ∧ shC false X n = 1 := by
  unfold shS shL shC; simp

theorem bigShift_any (p : Bool) (v : Value) (xs : List Int) (n : Int) (w : World) (hx : Rd w v xs) (h0 : -9223372036854775808 ≤ n) (h1 : n ≤ 9223372036854775807) :
    Calls Try.prog 8 #[.agg #[.bool p, v], .int .i64 n] w fun e w' => ∃ a c, e = .returned (.tuple #[.agg #[.bool (shS (okB p xs) p (val xs) n), .slice a (shL (okB p xs) p (val xs) n).length c], .int .i64 (shC (okB p xs) (val xs) n)]) ∧ Own w' w.heap.size (.slice a (shL (okB p xs) p (val xs) n).length c) (shL (okB p xs) p (val xs) n) ∧ Below w.heap.size w w' := by
  have hz := hx
  obtain ⟨_, _, _, _, hz, _, _⟩ := hz
  cases hok : okB p xs with
  | false => obtain ⟨e1, e2, e3⟩ := sh_args (X := val xs) (n := n) (p := p); rw [e1, e2, e3]; exact sh_impl_args p v xs n w hx hok
  | true =>
    by_cases hl : xs.length = 0
    · have e : val xs = 0 := by rw [List.eq_nil_of_length_eq_zero hl]; rfl
      obtain ⟨e1, e2, e3⟩ := sh_zero (n := n) (p := p); rw [e, e1, e2, e3]; exact sh_impl_zero p v xs n w hx hok hl
    · have hX : 0 < val xs := norm_pos hz (okB_norm hok).1 hl
      have hX' : ¬ val xs = 0 := by omega
      by_cases hn : n < 0
      · obtain ⟨e1, e2, e3⟩ := sh_neg (p := p) hX' hn
        rw [e1, e2, e3]
        cases p with
        | false => exact sh_impl_downP false v xs n w hx (min (-n) 4096).toNat rfl hok hl hn h0 (by omega)
        | true => exact sh_impl_downN true v xs n w hx (min (-n) 4096).toNat rfl hok hl hn h0 (by omega)
      · by_cases h4 : 4096 ≤ n
        · have h := sh_impl_large p v xs n w hx hok hl h4
          by_cases h5 : 4096 < n
          · obtain ⟨e1, e2, e3⟩ := sh_large (p := p) hX' hn h5
            rw [e1, e2, e3]; exact h
          · obtain ⟨e1, e2, e3⟩ := sh_up (p := p) hX' hn h5
            have hlg := up_large (val xs) 128 n.toNat hX (by omega)
            obtain ⟨f1, f2, f3⟩ := fit_no (n := val xs * 2 ^ n.toNat) (by omega) p
            rw [e1, e2, e3, f1, f2, f3]; exact h
        · obtain ⟨e1, e2, e3⟩ := sh_up (p := p) hX' hn (by omega)
          rw [e1, e2, e3]
          exact sh_impl_up p v xs n w hx n.toNat (by omega) hok hl (by omega)
end Go.Proofs.Ytipoafmabiahoaa
