import Derived.Test.YtlaniifdmneldaaFCmp
namespace Go.Proofs.Ytlaniifdmneldaa
open Go.RowKit
set_option linter.unusedVariables false
set_option linter.unusedSimpArgs false

theorem inf_two (x : Int) (h0 : 0 ≤ x) (h1 : x ≤ 18446744073709551615) (h : isI x.toNat = true) : x = 9218868437227405312 ∨ x = 18442240474082181120 := by
  have := of_decide_eq_true h
  unfold frung at this
  omega
theorem inf_not (x : Int) (h : isI x.toNat = false) : ¬ x = 9218868437227405312 ∧ ¬ x = 18442240474082181120 := by
  have := of_decide_eq_false h
  unfold frung at this
  constructor <;> intro e <;> subst e <;> exact this (by decide)
theorem isN_lt {x : Nat} (h : isN x = false) (h2 : isI x = false) : frung x < 9218868437227405312 := by
  have := of_decide_eq_false h
  have := of_decide_eq_false h2
  omega

set_option maxHeartbeats 1000000 in
set_option maxRecDepth 100000 in
theorem floatCmpS_any (a b : Int) (w : World) (h0 : 0 ≤ a) (h1 : a ≤ 18446744073709551615) (h2 : 0 ≤ b) (h3 : b ≤ 18446744073709551615) :
    Calls Try.prog 9 #[.int .u64 a, .int .u64 b] w fun e w' => e = .returned (.int .i64 (ordI (Ieee.double.order a.toNat b.toNat))) ∧ Below w.heap.size w w' := by
  have hNa := fun W => isNanS_any a W h0 h1
  have hNb := fun W => isNanS_any b W h2 h3
  have hIa := fun W => isInfS_any a W h0 h1
  have hIb := fun W => isInfS_any b W h2 h3
  cases hna : isN a.toNat with
  | true =>
    rw [order_nan_left _ _ (of_decide_eq_true hna)]
    rw [hna] at hNa
    clear hNb hIa hIb hna
    go_enter Try.func9, Try.ntmps9
    go_wp2_with fail
    refine (hNa _).mono ?_
    rintro e w1 ⟨rfl, rfl⟩
    go_wp2
    go_ret
    exact ⟨rfl, Below.refl _ _⟩
  | false =>
    rw [hna] at hNa
    cases hnb : isN b.toNat with
    | true =>
      rw [order_nan_right _ _ (of_decide_eq_true hnb)]
      rw [hnb] at hNb
      clear hIa hIb hna hnb
      go_enter Try.func9, Try.ntmps9
      go_wp2_with fail
      refine (hNa _).mono ?_
      rintro e w1 ⟨rfl, rfl⟩
      go_wp2_with fail
      refine (hNb _).mono ?_
      rintro e w1 ⟨rfl, rfl⟩
      go_wp2
      go_ret
      exact ⟨rfl, Below.refl _ _⟩
    | false =>
      rw [hnb] at hNb
      cases hia : isI a.toNat with
      | true =>
        rw [hia] at hIa
        cases hib : isI b.toNat with
        | true =>
          rcases inf_two a h0 h1 hia with rfl | rfl <;> rcases inf_two b h2 h3 hib with rfl | rfl
          · rw [order_inf_inf _ _ (of_decide_eq_true hia) (of_decide_eq_true hib)]
            clear hna hnb hia hib
            go_enter Try.func9, Try.ntmps9
            go_wp2_with fail
            refine (hNa _).mono ?_
            rintro e w1 ⟨rfl, rfl⟩
            go_wp2_with fail
            refine (hNb _).mono ?_
            rintro e w1 ⟨rfl, rfl⟩
            go_wp2_with fail
            refine (hIa _).mono ?_
            rintro e w1 ⟨rfl, rfl⟩
            clear hNa hNb hIa hIb
            go_wp2
            go_ret
            exact ⟨rfl, Below.refl _ _⟩
          · rw [order_inf_inf _ _ (of_decide_eq_true hia) (of_decide_eq_true hib)]
            clear hna hnb hia hib
            go_enter Try.func9, Try.ntmps9
            go_wp2_with fail
            refine (hNa _).mono ?_
            rintro e w1 ⟨rfl, rfl⟩
            go_wp2_with fail
            refine (hNb _).mono ?_
            rintro e w1 ⟨rfl, rfl⟩
            go_wp2_with fail
            refine (hIa _).mono ?_
            rintro e w1 ⟨rfl, rfl⟩
            clear hNa hNb hIa hIb
            go_wp2
            go_ret
            exact ⟨rfl, Below.refl _ _⟩
          · rw [order_inf_inf _ _ (of_decide_eq_true hia) (of_decide_eq_true hib)]
            clear hna hnb hia hib
            go_enter Try.func9, Try.ntmps9
            go_wp2_with fail
            refine (hNa _).mono ?_
            rintro e w1 ⟨rfl, rfl⟩
            go_wp2_with fail
            refine (hNb _).mono ?_
            rintro e w1 ⟨rfl, rfl⟩
            go_wp2_with fail
            refine (hIa _).mono ?_
            rintro e w1 ⟨rfl, rfl⟩
            clear hNa hNb hIa hIb
            go_wp2
            go_ret
            exact ⟨rfl, Below.refl _ _⟩
          · rw [order_inf_inf _ _ (of_decide_eq_true hia) (of_decide_eq_true hib)]
            clear hna hnb hia hib
            go_enter Try.func9, Try.ntmps9
            go_wp2_with fail
            refine (hNa _).mono ?_
            rintro e w1 ⟨rfl, rfl⟩
            go_wp2_with fail
            refine (hNb _).mono ?_
            rintro e w1 ⟨rfl, rfl⟩
            go_wp2_with fail
            refine (hIa _).mono ?_
            rintro e w1 ⟨rfl, rfl⟩
            clear hNa hNb hIa hIb
            go_wp2
            go_ret
            exact ⟨rfl, Below.refl _ _⟩
        | false =>
          obtain ⟨m1, m2⟩ := inf_not b hib
          have hlt := isN_lt hnb hib
          rcases inf_two a h0 h1 hia with rfl | rfl
          · rw [order_inf_num _ _ (of_decide_eq_true hia) hlt]
            have e1 : ((9218868437227405312 : Int) == b) = false := beq_eq_false_iff_ne.mpr (fun e => m1 e.symm)
            have e2 : (b == (18442240474082181120 : Int)) = false := beq_eq_false_iff_ne.mpr m2
            clear hna hnb hia hib
            go_enter Try.func9, Try.ntmps9
            go_wp2_with fail
            refine (hNa _).mono ?_
            rintro e w1 ⟨rfl, rfl⟩
            go_wp2_with fail
            refine (hNb _).mono ?_
            rintro e w1 ⟨rfl, rfl⟩
            go_wp2_with fail
            refine (hIa _).mono ?_
            rintro e w1 ⟨rfl, rfl⟩
            clear hNa hNb hIa hIb
            go_wp2
            go_ret
            exact ⟨rfl, Below.refl _ _⟩
          · rw [order_inf_num _ _ (of_decide_eq_true hia) hlt]
            have e1 : ((18442240474082181120 : Int) == b) = false := beq_eq_false_iff_ne.mpr (fun e => m2 e.symm)
            have e2 : (b == (18442240474082181120 : Int)) = false := beq_eq_false_iff_ne.mpr m2
            clear hna hnb hia hib
            go_enter Try.func9, Try.ntmps9
            go_wp2_with fail
            refine (hNa _).mono ?_
            rintro e w1 ⟨rfl, rfl⟩
            go_wp2_with fail
            refine (hNb _).mono ?_
            rintro e w1 ⟨rfl, rfl⟩
            go_wp2_with fail
            refine (hIa _).mono ?_
            rintro e w1 ⟨rfl, rfl⟩
            clear hNa hNb hIa hIb
            go_wp2
            go_ret
            exact ⟨rfl, Below.refl _ _⟩
      | false =>
        rw [hia] at hIa
        cases hib : isI b.toNat with
        | true =>
          rw [hib] at hIb
          obtain ⟨m1, m2⟩ := inf_not a hia
          have hlt := isN_lt hna hia
          rcases inf_two b h2 h3 hib with rfl | rfl
          · rw [order_num_inf _ _ hlt (of_decide_eq_true hib)]
            have e1 : (a == (9218868437227405312 : Int)) = false := beq_eq_false_iff_ne.mpr m1
            have e2 : (a == (9218868437227405312 : Int)) = false := beq_eq_false_iff_ne.mpr m1
            clear hna hnb hia hib
            go_enter Try.func9, Try.ntmps9
            go_wp2_with fail
            refine (hNa _).mono ?_
            rintro e w1 ⟨rfl, rfl⟩
            go_wp2_with fail
            refine (hNb _).mono ?_
            rintro e w1 ⟨rfl, rfl⟩
            go_wp2_with fail
            refine (hIa _).mono ?_
            rintro e w1 ⟨rfl, rfl⟩
            go_wp2_with fail
            refine (hIb _).mono ?_
            rintro e w1 ⟨rfl, rfl⟩
            clear hNa hNb hIa hIb
            go_wp2
            go_ret
            exact ⟨rfl, Below.refl _ _⟩
          · rw [order_num_inf _ _ hlt (of_decide_eq_true hib)]
            have e1 : (a == (18442240474082181120 : Int)) = false := beq_eq_false_iff_ne.mpr m2
            have e2 : (a == (9218868437227405312 : Int)) = false := beq_eq_false_iff_ne.mpr m1
            clear hna hnb hia hib
            go_enter Try.func9, Try.ntmps9
            go_wp2_with fail
            refine (hNa _).mono ?_
            rintro e w1 ⟨rfl, rfl⟩
            go_wp2_with fail
            refine (hNb _).mono ?_
            rintro e w1 ⟨rfl, rfl⟩
            go_wp2_with fail
            refine (hIa _).mono ?_
            rintro e w1 ⟨rfl, rfl⟩
            go_wp2_with fail
            refine (hIb _).mono ?_
            rintro e w1 ⟨rfl, rfl⟩
            clear hNa hNb hIa hIb
            go_wp2
            go_ret
            exact ⟨rfl, Below.refl _ _⟩
        | false =>
          rw [hib] at hIb
          have hA := fun W => wholeS_any a W h0 h1
          have hB := fun W => wholeS_any b W h2 h3
          have ha := isN_lt hna hia
          have hb := isN_lt hnb hib
          have hO := fun W v u hv hu => orderS_any (nz (fneg a.toNat) (fu a.toNat)) (nz (fneg b.toNat) (fu b.toNat)) v u (lim (fu a.toNat)) (lim (fu b.toNat)) W hv hu (lim_norm _) (lim_norm _) (Nat.le_trans (lim_len_fu _ ha) (by decide)) (Nat.le_trans (lim_len_fu _ hb) (by decide)) (by rw [val_lim]; unfold nz; simp) (by rw [val_lim]; unfold nz; simp)
          rw [val_lim, val_lim, order_cmpR, ← order_fin _ _ ha hb] at hO
          generalize ordI (Ieee.double.order a.toNat b.toNat) = r at hO ⊢
          generalize nz (fneg a.toNat) (fu a.toNat) = s at hA hO
          generalize nz (fneg b.toNat) (fu b.toNat) = t at hB hO
          generalize lim (fu a.toNat) = La at hA hO
          generalize lim (fu b.toNat) = Lb at hB hO
          clear hna hnb hia hib ha hb
          go_enter Try.func9, Try.ntmps9
          go_wp2_with fail
          refine (hNa _).mono ?_
          rintro e w1 ⟨rfl, rfl⟩
          go_wp2_with fail
          refine (hNb _).mono ?_
          rintro e w1 ⟨rfl, rfl⟩
          go_wp2_with fail
          refine (hIa _).mono ?_
          rintro e w1 ⟨rfl, rfl⟩
          go_wp2_with fail
          refine (hIb _).mono ?_
          rintro e w1 ⟨rfl, rfl⟩
          go_wp2_with fail
          refine (hA _).mono ?_
          rintro e w2 ⟨a2, c2, rfl, hO2, hB2⟩
          clear hNa hNb hIa hIb
          go_wp2_with fail
          refine (hB _).mono ?_
          rintro e w3 ⟨a3, c3, rfl, hO3, hB3⟩
          have hB23 := hB2.trans (hB3.mono hB2.size)
          go_wp2_with fail
          refine (hO _ _ _ (hO2.rd.keep hB3) hO3.rd).mono ?_
          rintro e w4 ⟨rfl, hB4⟩
          go_wp2
          go_ret
          exact ⟨rfl, hB23.trans (hB4.mono hB23.size)⟩

theorem isNan_any (x : Nat) (w : World) :
    Calls Try.prog 31 #[.float .f64 x] w fun e w' => e = .returned (.bool (isN x)) ∧ w' = w := by
  have h := order_self x
  cases hn : isN x with
  | true =>
    rw [hn, if_pos rfl] at h
    have h' : FloatKind.f64.format.order x x = none := h
    go_enter Try.func31, Try.ntmps31
    go_wp2
    go_ret
    exact ⟨rfl, rfl⟩
  | false =>
    rw [hn, if_neg (by simp)] at h
    have h' : FloatKind.f64.format.order x x = some .eq := h
    go_enter Try.func31, Try.ntmps31
    go_wp2
    go_ret
    exact ⟨rfl, rfl⟩

theorem cmpF_any (x y : Nat) (w : World) (hx : isN x = false) (hy : isN y = false) :
    Calls Try.prog 32 #[.float .f64 x, .float .f64 y] w fun e w' => e = .returned (.int .i64 (ordI (Ieee.double.order x y))) ∧ w' = w := by
  have h1 := order_self x
  rw [hx, if_neg (by simp)] at h1
  have h2 := order_self y
  rw [hy, if_neg (by simp)] at h2
  obtain ⟨o, ho⟩ := order_some x y hx hy
  have h1' : FloatKind.f64.format.order x x = some .eq := h1
  have h2' : FloatKind.f64.format.order y y = some .eq := h2
  have h3' : FloatKind.f64.format.order x y = some o := ho
  rw [ho]
  clear h1 h2 ho
  cases o <;>
  · go_enter Try.func32, Try.ntmps32
    go_wp2
    go_ret
    exact ⟨rfl, rfl⟩

set_option maxRecDepth 100000 in
theorem floatCmp_any (a b : Int) (w : World) (h0 : 0 ≤ a) (h1 : a ≤ 18446744073709551615) (h2 : 0 ≤ b) (h3 : b ≤ 18446744073709551615) :
    Calls Try.prog 10 #[.int .u64 a, .int .u64 b] w fun e w' => e = .returned (.int .i64 (ordI (Ieee.double.order a.toNat b.toNat))) ∧ w' = w := by
  have hNa := fun W => isNan_any a.toNat W
  have hNb := fun W => isNan_any b.toNat W
  have hF := frombits_run
  cases hna : isN a.toNat with
  | true =>
    rw [order_nan_left _ _ (of_decide_eq_true hna)]
    rw [hna] at hNa
    go_enter Try.func10, Try.ntmps10
    go_wp2_with fail
    refine (hNa _).mono ?_
    rintro e w1 ⟨rfl, rfl⟩
    go_wp2
    go_ret
    exact ⟨rfl, rfl⟩
  | false =>
    rw [hna] at hNa
    cases hnb : isN b.toNat with
    | true =>
      rw [order_nan_right _ _ (of_decide_eq_true hnb)]
      rw [hnb] at hNb
      go_enter Try.func10, Try.ntmps10
      go_wp2_with fail
      refine (hNa _).mono ?_
      rintro e w1 ⟨rfl, rfl⟩
      go_wp2_with fail
      refine (hNb _).mono ?_
      rintro e w1 ⟨rfl, rfl⟩
      go_wp2
      go_ret
      exact ⟨rfl, rfl⟩
    | false =>
      rw [hnb] at hNb
      have hC := fun W => cmpF_any a.toNat b.toNat W hna hnb
      generalize ordI (Ieee.double.order a.toNat b.toNat) = r at hC ⊢
      go_enter Try.func10, Try.ntmps10
      go_wp2_with fail
      refine (hNa _).mono ?_
      rintro e w1 ⟨rfl, rfl⟩
      go_wp2_with fail
      refine (hNb _).mono ?_
      rintro e w1 ⟨rfl, rfl⟩
      go_wp2_with fail
      refine (hC _).mono ?_
      rintro e w1 ⟨rfl, rfl⟩
      go_wp2
      go_ret
      exact ⟨rfl, rfl⟩

theorem law_floatCmp (a b : Int) (w : World) (h0 : 0 ≤ a) (h1 : a ≤ 18446744073709551615) (h2 : 0 ≤ b) (h3 : b ≤ 18446744073709551615) :
    Calls Try.prog 3 #[.int .u64 a, .int .u64 b] w fun e w' => e = .returned (.bool true) ∧ Below w.heap.size w w' := by
  have hS := fun W => floatCmpS_any a b W h0 h1 h2 h3
  have hI := fun W => floatCmp_any a b W h0 h1 h2 h3
  generalize ordI (Ieee.double.order a.toNat b.toNat) = r at hS hI
  go_enter Try.func3, Try.ntmps3
  go_wp2_with fail
  refine (hS _).mono ?_
  rintro e w1 ⟨rfl, hB⟩
  go_wp2_with fail
  refine (hI _).mono ?_
  rintro e w2 ⟨rfl, rfl⟩
  go_wp2
  go_ret
  exact ⟨rfl, hB⟩
end Go.Proofs.Ytlaniifdmneldaa
