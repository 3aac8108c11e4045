import Derived.Test.YtipoafmabiahoaaShiftA
import Derived.Test.YtipoafmabiahoaaShiftD
import Derived.Test.YtipoafmabiahoaaShiftE
namespace Go.Proofs.Ytipoafmabiahoaa
open Go.RowKit
set_option linter.unusedVariables false
set_option linter.unusedSimpArgs false

theorem bigShiftS_any (p : Bool) (v : Value) (xs : List Int) (n : Int) (w : World) (hx : Rd w v xs) (h0 : -9223372036854775808 ≤ n) (h1 : n ≤ 9223372036854775807) :
    Calls Try.prog 6 #[.agg #[.bool p, v], .int .i64 n] w fun e w' => ∃ a c, e = .returned (.tuple #[.agg #[.bool (shS (okB p xs) p (val xs) n), .slice a (shL (okB p xs) p (val xs) n).length c], .int .i64 (shC (okB p xs) (val xs) n)]) ∧ Own w' w.heap.size (.slice a (shL (okB p xs) p (val xs) n).length c) (shL (okB p xs) p (val xs) n) ∧ Below w.heap.size w w' := by
  have hz := hx
  obtain ⟨_, _, _, _, hz, _, _⟩ := hz
  cases hok : okB p xs with
  | false => obtain ⟨e1, e2, e3⟩ := sh_args (X := val xs) (n := n) (p := p); rw [e1, e2, e3]; exact sh_spec_args p v xs n w hx hok
  | true =>
    by_cases hl : xs.length = 0
    · have e : val xs = 0 := by rw [List.eq_nil_of_length_eq_zero hl]; rfl
      obtain ⟨e1, e2, e3⟩ := sh_zero (n := n) (p := p); rw [e, e1, e2, e3]; exact sh_spec_zero p v xs n w hx hok hl
    · have hX : 0 < val xs := norm_pos hz (okB_norm hok).1 hl
      have hX' : ¬ val xs = 0 := by omega
      by_cases hn : n < 0
      · obtain ⟨e1, e2, e3⟩ := sh_neg (p := p) hX' hn
        rw [e1, e2, e3]
        by_cases hlo : n < -4096
        · have ed : (min (-n) 4096).toNat = 4096 := by omega
          rw [ed]
          exact sh_spec_downB p v xs n w hx 4096 hok hl hn hlo rfl
        · exact sh_spec_downA p v xs n w hx (min (-n) 4096).toNat hok hl hn (by omega) (by omega)
      · by_cases h5 : 4096 < n
        · obtain ⟨e1, e2, e3⟩ := sh_large (p := p) hX' hn h5
          rw [e1, e2, e3]; exact sh_spec_large p v xs n w hx hok hl h5
        · obtain ⟨e1, e2, e3⟩ := sh_up (p := p) hX' hn h5
          rw [e1, e2, e3]
          exact sh_spec_up p v xs n w hx n.toNat (by omega) hok hl (by omega)
end Go.Proofs.Ytipoafmabiahoaa
