import Derived.Test.YtkjbbmmidjeecaaDoorFBcS
namespace Go.Proofs.YtkjbbmmidjeecaaDoor
open Go.RowKit
set_option linter.unusedVariables false
set_option linter.unusedSimpArgs false

theorem okB_lim (s : Bool) (n : Nat) (h : (lim n).length ≤ 128) : okB (nz s n) (lim n) = true := by
  unfold okB
  by_cases h0 : (lim n).length = 0
  · rw [if_pos h0]
    have : n = 0 := lim_eq_nil.1 (List.eq_nil_of_length_eq_zero h0)
    subst this
    unfold nz; simp
  · rw [if_neg h0, decide_eq_true h, Bool.true_and]
    have hn := lim_norm n
    rcases hn with hn | hn
    · exact absurd hn h0
    · rw [decide_eq_true hn]
theorem nz_self {p : Bool} {xs : List Int} (hz : Limbs xs) (h : okB p xs = true) : nz p (val xs) = p := by
  cases p with
  | false => rfl
  | true =>
    have := okB_pos hz h
    unfold nz; simp [this]
theorem cmpA_eq {p : Bool} {xs : List Int} (hz : Limbs xs) (h : okB p xs = true) (s : Bool) (n : Nat) (hn : (lim n).length ≤ 128) : cmpA p xs (nz s n) (lim n) = cmpI (sgn p (val xs)) (sgn s n) := by
  unfold cmpA
  rw [if_pos ⟨h, okB_lim s n hn⟩, val_lim, ← ordI_cmp, ← order_cmpR, nz_self hz h]
theorem inf_order (x : Nat) (hi : isI x = true) : ordI (Ieee.double.order 0 x) = if fneg x = true then 1 else -1 := by
  have h := of_decide_eq_true hi
  rw [order_num_inf 0 x (by decide) h]
  cases fneg x <;> rfl
theorem cmpI_b (a b : Int) : -1 ≤ cmpI a b ∧ cmpI a b ≤ 1 := by unfold cmpI; split <;> (try split) <;> omega
theorem bfc_b (p : Bool) (xs : List Int) (x : Nat) : -1 ≤ bfc p xs x ∧ bfc p xs x ≤ 2 := by
  unfold bfc
  split
  · split
    · split <;> omega
    · have := cmpI_b (sgn p (val xs) * (lowP : Int)) (sgn (fneg x) (fu x)); omega
  · omega
set_option maxHeartbeats 1000000 in
set_option maxRecDepth 100000 in
theorem bigFloatCmp_any (p : Bool) (v : Value) (xs : List Int) (x : Int) (aA : Addr) (w : World) (hx : Rd w v xs) (h0 : 0 ≤ x) (h1 : x ≤ 18446744073709551615) (hE : ErrA w aA) :
    Calls Tryd.prog 17 #[.agg #[.bool p, v], .int .u64 x] w fun e w' => e = .returned (.int .i64 (bfc p xs x.toNat)) ∧ Below w.heap.size w w' := by
  have hx' := hx
  obtain ⟨a, cap, rfl, _, hzx, hnx, hcx⟩ := hx
  clear hcx hnx
  have hF := frombits_run x
  have hN := fun W => isNan_any x.toNat W
  have hok := fun W h => bigOk_any p (.slice a xs.length cap) xs W h
  have hP := fun W h => wholePart_any x aA W h0 h1 h
  have bA := Box.new w (.bool p) (.slice a xs.length cap) 25
  have rx := hx'.alloc (Obj.cells #[.bool p, .slice a xs.length cap] 25)
  have hW := (Below.refl w.heap.size w).alloc (Nat.le_refl _) (Obj.cells #[.bool p, .slice a xs.length cap] 25)
  cases hoA : okB p xs with
  | false =>
    have HC : Hid (bfc p xs x.toNat = 2) := bfc_bad hoA
    rw [hoA] at hok
    clear hoA hx'
    go_enter Tryd.func17, Tryd.ntmps17
    go_wp2_with fail
    refine (hok _ rx).mono ?_
    rintro e w1 ⟨rfl, hB⟩
    replace hW := hW.trans (hB.mono hW.size)
    go_wp2
    go_ret
    exact ⟨by rw [HC.out]; rfl, hW⟩
  | true =>
    cases hn : isN x.toNat with
    | true =>
      have HC : Hid (bfc p xs x.toNat = 2) := bfc_nan hn
      rw [hoA] at hok
      rw [hn] at hN
      clear hoA hx' hn
      go_enter Tryd.func17, Tryd.ntmps17
      go_wp2_with fail
      refine (hok _ rx).mono ?_
      rintro e w1 ⟨rfl, hB⟩
      replace hW := hW.trans (hB.mono hW.size)
      go_wp2_with fail
      refine (hN _).mono ?_
      rintro e w2 ⟨rfl, rfl⟩
      go_wp2
      go_ret
      exact ⟨by rw [HC.out]; rfl, hW⟩
    | false =>
      cases hi : isI x.toNat with
      | true =>
        have hb : fbad x.toNat = true := by unfold fbad; rw [hi]; simp
        have hC := bfc_inf hoA hn hi
        rw [← inf_order _ hi] at hC
        have hQ := fun W => cmpF_any 0 x.toNat W (by decide) hn
        rw [← hC] at hQ
        obtain ⟨e1, e2, e3⟩ := fb_bad hb
        rw [hb, e1, e2] at hP
        simp only [if_true] at hP
        rw [hoA] at hok
        rw [hn] at hN
        obtain ⟨hR0, hR1⟩ := bfc_b p xs x.toNat
        clear hoA hx' hn hi hC e1 e2 e3 hb
        generalize bfc p xs x.toNat = R at hQ hR0 hR1 ⊢
        go_enter Tryd.func17, Tryd.ntmps17
        go_wp2_with fail
        refine (hok _ rx).mono ?_
        rintro e w1 ⟨rfl, hB⟩
        replace hW := hW.trans (hB.mono hW.size)
        go_wp2_with fail
        refine (hN _).mono ?_
        rintro e w2 ⟨rfl, rfl⟩
        go_wp2_with fail
        refine (hP _ (hE.below hW)).mono ?_
        rintro e w3 ⟨a3, c3, u3, rfl, rfl, o3, hB3⟩
        have hW3 := hW.trans (hB3.mono hW.size)
        clear hP
        go_wp2_with fail
        refine (hQ _).mono ?_
        rintro e w4 ⟨rfl, rfl⟩
        go_wp2
        go_ret
        exact ⟨rfl, hW3.alloc hW3.size _⟩
      | false =>
        have hlt := isN_lt hn hi
        have hb : fbad x.toNat = false := by unfold fbad; rw [hn, hi]; rfl
        have hC := bfc_fin hoA hn hi
        rw [split_cmp _ _ _ _ lowP_pos, show fu x.toNat / lowP = fq x.toNat from rfl, ← trunc_order _ hlt] at hC
        obtain ⟨e1, e2, e3⟩ := fb_good hb
        rw [hb, e1, e2] at hP
        simp only [Bool.false_eq_true, if_false] at hP
        have hql := fq_len hb
        have hD := fun u W h h2 => bigCmp_any p (nz (fneg x.toNat) (fq x.toNat)) (.slice a xs.length cap) u xs (lim (fq x.toNat)) W h h2
        rw [cmpA_eq hzx hoA (fneg x.toNat) (fq x.toNat) (by omega)] at hD
        have hTr := fun W => trunc_any x.toNat W hlt
        have hQ := fun W => cmpF_any (trunc x.toNat) x.toNat W (isN_of (trunc_facts _ hlt).1) hn
        obtain ⟨hR0, hR1⟩ := bfc_b p xs x.toNat
        rw [hoA] at hok
        rw [hn] at hN
        have hcb := cmpI_b (sgn p (val xs)) (sgn (fneg x.toNat) (fq x.toNat))
        clear hoA hn hi e1 e2 e3 hb hql hlt
        generalize bfc p xs x.toNat = R at hC hR0 hR1 ⊢
        generalize cmpI (sgn p (val xs)) (sgn (fneg x.toNat) (fq x.toNat)) = c1 at hC hD hcb
        generalize ordI (Ieee.double.order (trunc x.toNat) x.toNat) = c2 at hC hQ
        generalize trunc x.toNat = tr at hTr hQ
        generalize nz (fneg x.toNat) (fq x.toNat) = sg at hP hD
        generalize lim (fq x.toNat) = Q at hP hD
        by_cases hc : c1 = 0
        · subst hc
          rw [if_neg (by decide)] at hC
          subst hC
          go_enter Tryd.func17, Tryd.ntmps17
          go_wp2_with fail
          refine (hok _ rx).mono ?_
          rintro e w1 ⟨rfl, hB⟩
          replace hW := hW.trans (hB.mono hW.size)
          replace rx := rx.keep hB
          replace bA := bA.keep hB
          obtain ⟨-, k0, k1⟩ := id bA
          go_wp2_with fail
          refine (hN _).mono ?_
          rintro e w2 ⟨rfl, rfl⟩
          go_wp2_with fail
          refine (hP _ (hE.below hW)).mono ?_
          rintro e w3 ⟨a3, c3, u3, rfl, rfl, o3, hB3⟩
          have hW3 := hW.trans (hB3.mono hW.size)
          have hW4 := hW3.alloc hW3.size (Obj.cells #[.bool sg, .slice a3 Q.length c3] 25)
          have r4 := (rx.keep hB3).alloc (Obj.cells #[.bool sg, .slice a3 Q.length c3] 25)
          have o4 := o3.alloc (Obj.cells #[.bool sg, .slice a3 Q.length c3] 25)
          have b4 := (bA.keep hB3).alloc (Obj.cells #[.bool sg, .slice a3 Q.length c3] 25)
          have g4 := Box.new w3 (.bool sg) (.slice a3 Q.length c3) 25
          obtain ⟨-, m0, m1⟩ := id b4
          obtain ⟨-, n0, n1⟩ := id g4
          clear hP hok hN
          go_wp2_with fail
          refine (hD _ _ r4 o4.rd).mono ?_
          rintro e w5 ⟨rfl, hB5⟩
          have hW5 := hW4.trans (hB5.mono hW4.size)
          clear hD
          go_wp2_with fail
          refine (hTr _).mono ?_
          rintro e w6 ⟨rfl, rfl⟩
          go_wp2_with fail
          refine (hQ _).mono ?_
          rintro e w7 ⟨rfl, rfl⟩
          go_wp2
          go_ret
          exact ⟨rfl, hW5⟩
        · rw [if_pos hc] at hC
          subst hC
          have hcn : (R != 0) = true := by simpa using hc
          go_enter Tryd.func17, Tryd.ntmps17
          go_wp2_with fail
          refine (hok _ rx).mono ?_
          rintro e w1 ⟨rfl, hB⟩
          replace hW := hW.trans (hB.mono hW.size)
          replace rx := rx.keep hB
          replace bA := bA.keep hB
          obtain ⟨-, k0, k1⟩ := id bA
          go_wp2_with fail
          refine (hN _).mono ?_
          rintro e w2 ⟨rfl, rfl⟩
          go_wp2_with fail
          refine (hP _ (hE.below hW)).mono ?_
          rintro e w3 ⟨a3, c3, u3, rfl, rfl, o3, hB3⟩
          have hW3 := hW.trans (hB3.mono hW.size)
          have hW4 := hW3.alloc hW3.size (Obj.cells #[.bool sg, .slice a3 Q.length c3] 25)
          have r4 := (rx.keep hB3).alloc (Obj.cells #[.bool sg, .slice a3 Q.length c3] 25)
          have o4 := o3.alloc (Obj.cells #[.bool sg, .slice a3 Q.length c3] 25)
          have b4 := (bA.keep hB3).alloc (Obj.cells #[.bool sg, .slice a3 Q.length c3] 25)
          have g4 := Box.new w3 (.bool sg) (.slice a3 Q.length c3) 25
          obtain ⟨-, m0, m1⟩ := id b4
          obtain ⟨-, n0, n1⟩ := id g4
          clear hP hok hN
          go_wp2_with fail
          refine (hD _ _ r4 o4.rd).mono ?_
          rintro e w5 ⟨rfl, hB5⟩
          have hW5 := hW4.trans (hB5.mono hW4.size)
          clear hD
          go_wp2
          go_ret
          exact ⟨rfl, hW5⟩
end Go.Proofs.YtkjbbmmidjeecaaDoor
