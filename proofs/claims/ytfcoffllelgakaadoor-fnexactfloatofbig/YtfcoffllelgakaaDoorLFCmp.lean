import Derived.Test.YtfcoffllelgakaaDoorFCmp
namespace Go.Proofs.YtfcoffllelgakaaDoor
open Go.RowKit
set_option linter.unusedVariables false
set_option linter.unusedSimpArgs false

theorem isN_lt {x : Nat} (h : isN x = false) (h2 : isI x = false) : frung x < 9218868437227405312 := by
  have := of_decide_eq_false h
  have := of_decide_eq_false h2
  omega

theorem isNan_any (x : Nat) (w : World) :
    Calls Tryd.prog 43 #[.float .f64 x] w fun e w' => e = .returned (.bool (isN x)) ∧ w' = w := by
  have h := order_self x
  cases hn : isN x with
  | true =>
    rw [hn, if_pos rfl] at h
    have h' : FloatKind.f64.format.order x x = none := h
    go_enter Tryd.func43, Tryd.ntmps43
    go_wp2
    go_ret
    exact ⟨rfl, rfl⟩
  | false =>
    rw [hn, if_neg (by simp)] at h
    have h' : FloatKind.f64.format.order x x = some .eq := h
    go_enter Tryd.func43, Tryd.ntmps43
    go_wp2
    go_ret
    exact ⟨rfl, rfl⟩

end Go.Proofs.YtfcoffllelgakaaDoor
