import Derived.Test.YtfcoffllelgakaaDoorFCmp
namespace Go.Proofs.YtfcoffllelgakaaDoor
open Go.RowKit
set_option linter.unusedVariables false
set_option linter.unusedSimpArgs false

theorem isN_lt {x : Nat} (h : isN x = false) (h2 : isI x = false) : frung x < 9218868437227405312 := by
  have := of_decide_eq_false h
  have := of_decide_eq_false h2
  omega

theorem isNan_any (x : Nat) (w : World) :
    Calls Tryd.prog 43 #[.float .f64 x] w fun e w' => e = .returned (.bool (isN x)) ∧ w' = w := by
  have h := order_self x
  cases hn : isN x with
  | true =>
    rw [hn, if_pos rfl] at h
    have h' : FloatKind.f64.format.order x x = none := h
    go_enter Tryd.func43, Tryd.ntmps43
    go_wp2
    go_ret
    exact ⟨rfl, rfl⟩
  | false =>
    rw [hn, if_neg (by simp)] at h
    have h' : FloatKind.f64.format.order x x = some .eq := h
    go_enter Tryd.func43, Tryd.ntmps43
    go_wp2
    go_ret
    exact ⟨rfl, rfl⟩

theorem cmpF_any (x y : Nat) (w : World) (hx : isN x = false) (hy : isN y = false) :
    Calls Tryd.prog 44 #[.float .f64 x, .float .f64 y] w fun e w' => e = .returned (.int .i64 (ordI (Ieee.double.order x y))) ∧ w' = w := by
  have h1 := order_self x
  rw [hx, if_neg (by simp)] at h1
  have h2 := order_self y
  rw [hy, if_neg (by simp)] at h2
  obtain ⟨o, ho⟩ := order_some x y hx hy
  have h1' : FloatKind.f64.format.order x x = some .eq := h1
  have h2' : FloatKind.f64.format.order y y = some .eq := h2
  have h3' : FloatKind.f64.format.order x y = some o := ho
  rw [ho]
  clear h1 h2 ho
  cases o <;>
  · go_enter Tryd.func44, Tryd.ntmps44
    go_wp2
    go_ret
    exact ⟨rfl, rfl⟩

set_option maxRecDepth 100000 in
theorem floatCmp_any (a b : Int) (w : World) (h0 : 0 ≤ a) (h1 : a ≤ 18446744073709551615) (h2 : 0 ≤ b) (h3 : b ≤ 18446744073709551615) :
    Calls Tryd.prog 17 #[.int .u64 a, .int .u64 b] w fun e w' => e = .returned (.int .i64 (ordI (Ieee.double.order a.toNat b.toNat))) ∧ w' = w := by
  have hNa := fun W => isNan_any a.toNat W
  have hNb := fun W => isNan_any b.toNat W
  have hF := frombits_run
  cases hna : isN a.toNat with
  | true =>
    rw [order_nan_left _ _ (of_decide_eq_true hna)]
    rw [hna] at hNa
    go_enter Tryd.func17, Tryd.ntmps17
    go_wp2_with fail
    refine (hNa _).mono ?_
    rintro e w1 ⟨rfl, rfl⟩
    go_wp2
    go_ret
    exact ⟨rfl, rfl⟩
  | false =>
    rw [hna] at hNa
    cases hnb : isN b.toNat with
    | true =>
      rw [order_nan_right _ _ (of_decide_eq_true hnb)]
      rw [hnb] at hNb
      go_enter Tryd.func17, Tryd.ntmps17
      go_wp2_with fail
      refine (hNa _).mono ?_
      rintro e w1 ⟨rfl, rfl⟩
      go_wp2_with fail
      refine (hNb _).mono ?_
      rintro e w1 ⟨rfl, rfl⟩
      go_wp2
      go_ret
      exact ⟨rfl, rfl⟩
    | false =>
      rw [hnb] at hNb
      have hC := fun W => cmpF_any a.toNat b.toNat W hna hnb
      generalize ordI (Ieee.double.order a.toNat b.toNat) = r at hC ⊢
      go_enter Tryd.func17, Tryd.ntmps17
      go_wp2_with fail
      refine (hNa _).mono ?_
      rintro e w1 ⟨rfl, rfl⟩
      go_wp2_with fail
      refine (hNb _).mono ?_
      rintro e w1 ⟨rfl, rfl⟩
      go_wp2_with fail
      refine (hC _).mono ?_
      rintro e w1 ⟨rfl, rfl⟩
      go_wp2
      go_ret
      exact ⟨rfl, rfl⟩

end Go.Proofs.YtfcoffllelgakaaDoor
