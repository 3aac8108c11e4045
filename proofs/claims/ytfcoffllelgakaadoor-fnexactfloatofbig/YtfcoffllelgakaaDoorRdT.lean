import Derived.Test.YtfcoffllelgakaaDoorRdS
import Derived.Test.YtfcoffllelgakaaDoorShl
import Derived.Test.YtfcoffllelgakaaDoorDivM
import Derived.Test.YtfcoffllelgakaaDoorCmp
import Derived.Test.YtfcoffllelgakaaDoorBitM
import Derived.Test.YtfcoffllelgakaaDoorBits
import Derived.Test.YtfcoffllelgakaaDoorAdd
import Derived.Laws.BitsAllLaws
namespace Go.Proofs.YtfcoffllelgakaaDoor
open Go.RowKit
set_option linter.unusedVariables false
set_option linter.unusedSimpArgs false

theorem setN_lt (neg : Bool) (x : Nat) (h : x < 18446744073709551616) : setN neg x < 18446744073709551616 := by
  unfold setN
  split
  · exact Nat.or_lt_two_pow (n := 64) h (by decide)
  · exact h
set_option maxRecDepth 100000 in
theorem set_any (neg : Bool) (x : Nat) (w : World) (h : x < 18446744073709551616) :
    Calls Tryd.prog 51 #[.bool neg, .int .u64 x] w fun e w' => e = .returned (.int .u64 (setN neg x)) ∧ w' = w := by
  have h1 := u64_or_nat x 9223372036854775808 h (by decide)
  generalize hz : x ||| 9223372036854775808 = z at h1
  have h2 : bits .or .u64 (x : Int) 9223372036854775808 = (z : Int) := h1
  cases neg
  · go_enter Tryd.func51, Tryd.ntmps51
    go_wp2
    go_ret
    exact ⟨rfl, rfl⟩
  · have h3 : setN true x = z := by unfold setN; rw [if_pos rfl, hz]
    rw [h3]
    clear hz h3 h1
    go_enter Tryd.func51, Tryd.ntmps51
    go_wp2
    go_ret
    exact ⟨rfl, rfl⟩
theorem or_join2 (x y : Nat) (hx : x < 4294967296) (hy : y < 4294967296) : bits .or .u64 ((x : Int) * 4294967296) (y : Int) = ((x * 4294967296 + y : Nat) : Int) := by
  have h := u64_or_nat (x * 4294967296) y (by omega) (by omega)
  rw [show ((x * 4294967296 : Nat) : Int) = (x : Int) * 4294967296 from by omega] at h
  rw [h]
  congr 1
  have := Nat.two_pow_add_eq_or_of_lt (i := 32) hy x
  rw [Nat.mul_comm x]
  exact this.symm
end Go.Proofs.YtfcoffllelgakaaDoor
