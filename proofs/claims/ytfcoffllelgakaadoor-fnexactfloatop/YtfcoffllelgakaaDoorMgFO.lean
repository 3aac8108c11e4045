import Derived.Test.YtfcoffllelgakaaDoorRdW
import Derived.Test.YtfcoffllelgakaaDoorFCmp
import Derived.Test.YtfcoffllelgakaaDoorLimOne
import Derived.Test.YtfcoffllelgakaaDoorOk
namespace Go.Proofs.YtfcoffllelgakaaDoor
open Go.RowKit
set_option linter.unusedVariables false
set_option linter.unusedSimpArgs false

theorem rndV_lt (neg : Bool) {N D : Nat} (hD : 0 < D) : rndV neg N D < 18446744073709551616 := by
  unfold rndV
  split
  · exact setN_lt _ _ (by decide)
  · rename_i h0
    have h1 := rQ2_lt (N := N) (by omega) hD
    have h2 := rE2_ge N D
    split
    · exact setN_lt _ _ (by decide)
    · rename_i h3
      split
      · exact setN_lt _ _ (by omega)
      · refine setN_lt _ _ (Nat.or_lt_two_pow (n := 64) ?_ ?_)
        · have : (rE2 N D + 1075).toNat ≤ 2046 := by omega
          have h4 := Nat.mul_le_mul_right 4503599627370496 this
          omega
        · omega
theorem fu_len (x : Nat) : (lim (fu x)).length ≤ 70 :=
  lim_len_gen _ 2047 70 (fu_lt x 2047 (by have : fexp x < 2048 := Nat.mod_lt _ (by decide); omega)) (by decide)
end Go.Proofs.YtfcoffllelgakaaDoor

namespace Go.Proofs.YtfcoffllelgakaaDoor
open Go.RowKit
set_option linter.unusedVariables false
set_option linter.unusedSimpArgs false

theorem isZeroS_any (x : Int) (w : World) (h0 : 0 ≤ x) (h1 : x ≤ 18446744073709551615) :
    Calls Tryd.prog 34 #[.int .u64 x] w fun e w' => e = .returned (.bool (decide (frung x.toNat = 0))) ∧ w' = w := by
  have h := andNot_sign x h0 h1
  go_enter Tryd.func34, Tryd.ntmps34
  go_wp2
  go_ret
  refine ⟨congrArg (fun b => Ending.returned (Value.bool b)) (?_ : ((frung x.toNat : Int) == 0) = _), rfl⟩
  by_cases h : frung x.toNat = 0
  · rw [h]; rfl
  · rw [decide_eq_false h, beq_eq_false_iff_ne]; omega
theorem fu_pos {x : Nat} (h : ¬ frung x = 0) : 0 < fu x := by
  unfold fu
  split
  · rename_i h1
    unfold frung at h
    unfold fexp at h1
    unfold ffrac
    omega
  · exact Nat.mul_pos (by omega) (Nat.pow_pos (by decide))
/-- What l2Over answers. -/
def overV (a b : Nat) : Nat := if (isN a || isN b || (isI a && isI b)) = true then 9221120237041090560 else if isI a = true then setN (fneg a != fneg b) 9218868437227405312 else if isI b = true then setN (fneg a != fneg b) 0 else rndV (fneg a != fneg b) (fu a) (fu b)
theorem overV_lt {a b : Nat} (h : ¬ frung b = 0) : overV a b < 18446744073709551616 := by
  unfold overV
  split
  · decide
  · split
    · exact setN_lt _ _ (by decide)
    · split
      · exact setN_lt _ _ (by decide)
      · exact rndV_lt _ (fu_pos h)
set_option maxRecDepth 100000 in
set_option maxHeartbeats 2000000 in
theorem overS_any (a b : Nat) (w : World) (ha : a < 18446744073709551616) (hb : b < 18446744073709551616) (hz : ¬ frung b = 0) :
    Calls Tryd.prog 35 #[.int .u64 a, .int .u64 b] w fun e w' => e = .returned (.int .u64 (overV a b : Nat)) ∧ Below w.heap.size w w' := by
  have Na := fun W : World => negS_any (a : Int) W (by omega) (by omega)
  have Nb := fun W : World => negS_any (b : Int) W (by omega) (by omega)
  have Xa := fun W : World => isNanS_any (a : Int) W (by omega) (by omega)
  have Xb := fun W : World => isNanS_any (b : Int) W (by omega) (by omega)
  have Ia := fun W : World => isInfS_any (a : Int) W (by omega) (by omega)
  have Ib := fun W : World => isInfS_any (b : Int) W (by omega) (by omega)
  have Ua := fun W : World => unitsS_any (a : Int) W (by omega) (by omega)
  have Ub := fun W : World => unitsS_any (b : Int) W (by omega) (by omega)
  simp only [Int.toNat_natCast] at Na Nb Xa Xb Ia Ib Ua Ub
  have HV : Hid (overV a b = if (isN a || isN b || (isI a && isI b)) = true then 9221120237041090560 else if isI a = true then setN (fneg a != fneg b) 9218868437227405312 else if isI b = true then setN (fneg a != fneg b) 0 else rndV (fneg a != fneg b) (fu a) (fu b)) := rfl
  have la := fu_len a
  have lb := fu_len b
  have fp := fu_pos hz
  have HRd := fun (n : Bool) (W : World) (v u : Value) (h1 : Rd W v (lim (fu a))) (h2 : Rd W u (lim (fu b))) => round_any n v u (fu a) (fu b) W h1 h2 (by omega) (by omega) fp
  have Hs := fun (n : Bool) (W : World) => set_any n 9218868437227405312 W (by decide)
  have Hs0 := fun (n : Bool) (W : World) => set_any n 0 W (by decide)
  obtain ⟨V, hV⟩ : ∃ V, overV a b = V := ⟨_, rfl⟩
  rw [hV]
  have HVV : Hid (overV a b = V) := hV
  clear hV
  generalize fneg a = na at *
  generalize fneg b = nb at *
  generalize isN a = xa at *
  generalize isN b = xb at *
  generalize isI a = ia at *
  generalize isI b = ib at *
  generalize hn : (na != nb) = nn at *
  have hneq : (na == nb) = !nn := by rw [← hn]; cases na <;> cases nb <;> rfl
  have HN : Hid ((na != nb) = nn) := hn
  cases xa
  · cases xb
    · cases ia
      · cases ib
        · have e1 : V = rndV nn (fu a) (fu b) := by rw [← HVV.out, HV.out, if_neg (by decide), if_neg (by decide), if_neg (by decide)]
          have HR := HRd nn
          rw [← e1] at HR
          clear hn HRd Hs Hs0 e1 HV HVV
          go_enter Tryd.func35, Tryd.ntmps35
          go_wp2_with fail
          refine (Na _).mono ?_
          rintro e w1 ⟨rfl, hw1⟩
          rw [hw1]
          clear hw1 w1
          go_wp2_with fail
          refine (Nb _).mono ?_
          rintro e w1 ⟨rfl, hw1⟩
          rw [hw1]
          clear hw1 w1
          go_wp2_with fail
          refine (Xa _).mono ?_
          rintro e w1 ⟨rfl, hw1⟩
          rw [hw1]
          clear hw1 w1
          go_wp2_with fail
          refine (Xb _).mono ?_
          rintro e w1 ⟨rfl, hw1⟩
          rw [hw1]
          clear hw1 w1
          go_wp2_with fail
          refine (Ia _).mono ?_
          rintro e w1 ⟨rfl, hw1⟩
          rw [hw1]
          clear hw1 w1
          go_wp2_with fail
          refine (Ia _).mono ?_
          rintro e w1 ⟨rfl, hw1⟩
          rw [hw1]
          clear hw1 w1
          go_wp2_with fail
          refine (Ib _).mono ?_
          rintro e w1 ⟨rfl, hw1⟩
          rw [hw1]
          clear hw1 w1
          go_wp2_with fail
          refine (Ua _).mono ?_
          rintro e w1 ⟨a1, c1, rfl, O1, b1⟩
          go_wp2_with fail
          refine (Ub _).mono ?_
          rintro e w2 ⟨a2, c2, rfl, O2, b2⟩
          go_wp2_with fail
          refine (HR _ _ _ (O1.rd.keep b2) O2.rd).mono ?_
          rintro e w3 ⟨rfl, b3⟩
          have V3 := (b1.trans (b2.mono b1.size)).trans (b3.mono (b1.trans (b2.mono b1.size)).size)
          clear b1 b2 b3 O1 O2 HR
          go_wp2
          go_ret
          exact ⟨rfl, V3⟩
        · have e1 : V = setN nn 0 := by rw [← HVV.out, HV.out, if_neg (by decide), if_neg (by decide), if_pos (by simp)]
          have HS := Hs0 nn
          rw [← e1] at HS
          clear hn HRd Hs Hs0 e1 HV HVV
          go_enter Tryd.func35, Tryd.ntmps35
          go_wp2_with fail
          refine (Na _).mono ?_
          rintro e w1 ⟨rfl, hw1⟩
          rw [hw1]
          clear hw1 w1
          go_wp2_with fail
          refine (Nb _).mono ?_
          rintro e w1 ⟨rfl, hw1⟩
          rw [hw1]
          clear hw1 w1
          go_wp2_with fail
          refine (Xa _).mono ?_
          rintro e w1 ⟨rfl, hw1⟩
          rw [hw1]
          clear hw1 w1
          go_wp2_with fail
          refine (Xb _).mono ?_
          rintro e w1 ⟨rfl, hw1⟩
          rw [hw1]
          clear hw1 w1
          go_wp2_with fail
          refine (Ia _).mono ?_
          rintro e w1 ⟨rfl, hw1⟩
          rw [hw1]
          clear hw1 w1
          go_wp2_with fail
          refine (Ia _).mono ?_
          rintro e w1 ⟨rfl, hw1⟩
          rw [hw1]
          clear hw1 w1
          go_wp2_with fail
          refine (Ib _).mono ?_
          rintro e w1 ⟨rfl, hw1⟩
          rw [hw1]
          clear hw1 w1
          go_wp2_with fail
          refine (HS _).mono ?_
          rintro e w1 ⟨rfl, hw1⟩
          rw [hw1]
          clear hw1 w1
          go_wp2
          go_ret
          exact ⟨rfl, Below.refl _ _⟩
      · cases ib
        · have e1 : V = setN nn 9218868437227405312 := by rw [← HVV.out, HV.out, if_neg (by decide), if_pos (by simp)]
          have HS : ∀ W, Calls Tryd.prog 51 #[.bool nn, .int .u64 9218868437227405312] W fun e w' => e = .returned (.int .u64 (V : Nat)) ∧ w' = W := fun W => by rw [e1]; exact Hs nn W
          clear hn HRd Hs Hs0 e1 HV HVV
          go_enter Tryd.func35, Tryd.ntmps35
          go_wp2_with fail
          refine (Na _).mono ?_
          rintro e w1 ⟨rfl, hw1⟩
          rw [hw1]
          clear hw1 w1
          go_wp2_with fail
          refine (Nb _).mono ?_
          rintro e w1 ⟨rfl, hw1⟩
          rw [hw1]
          clear hw1 w1
          go_wp2_with fail
          refine (Xa _).mono ?_
          rintro e w1 ⟨rfl, hw1⟩
          rw [hw1]
          clear hw1 w1
          go_wp2_with fail
          refine (Xb _).mono ?_
          rintro e w1 ⟨rfl, hw1⟩
          rw [hw1]
          clear hw1 w1
          go_wp2_with fail
          refine (Ia _).mono ?_
          rintro e w1 ⟨rfl, hw1⟩
          rw [hw1]
          clear hw1 w1
          go_wp2_with fail
          refine (Ib _).mono ?_
          rintro e w1 ⟨rfl, hw1⟩
          rw [hw1]
          clear hw1 w1
          go_wp2_with fail
          refine (Ia _).mono ?_
          rintro e w1 ⟨rfl, hw1⟩
          rw [hw1]
          clear hw1 w1
          go_wp2_with fail
          refine (HS _).mono ?_
          rintro e w1 ⟨rfl, hw1⟩
          rw [hw1]
          clear hw1 w1
          go_wp2
          go_ret
          exact ⟨rfl, Below.refl _ _⟩
        · have e1 : V = 9221120237041090560 := by rw [← HVV.out, HV.out, if_pos (by simp)]
          subst e1
          clear hn HRd Hs Hs0 HV HVV
          go_enter Tryd.func35, Tryd.ntmps35
          go_wp2_with fail
          refine (Na _).mono ?_
          rintro e w1 ⟨rfl, hw1⟩
          rw [hw1]
          clear hw1 w1
          go_wp2_with fail
          refine (Nb _).mono ?_
          rintro e w1 ⟨rfl, hw1⟩
          rw [hw1]
          clear hw1 w1
          go_wp2_with fail
          refine (Xa _).mono ?_
          rintro e w1 ⟨rfl, hw1⟩
          rw [hw1]
          clear hw1 w1
          go_wp2_with fail
          refine (Xb _).mono ?_
          rintro e w1 ⟨rfl, hw1⟩
          rw [hw1]
          clear hw1 w1
          go_wp2_with fail
          refine (Ia _).mono ?_
          rintro e w1 ⟨rfl, hw1⟩
          rw [hw1]
          clear hw1 w1
          go_wp2_with fail
          refine (Ib _).mono ?_
          rintro e w1 ⟨rfl, hw1⟩
          rw [hw1]
          clear hw1 w1
          go_wp2
          go_ret
          exact ⟨rfl, Below.refl _ _⟩
    · have e1 : V = 9221120237041090560 := by rw [← HVV.out, HV.out, if_pos (by simp)]
      subst e1
      clear hn HRd Hs Hs0 HV HVV
      go_enter Tryd.func35, Tryd.ntmps35
      go_wp2_with fail
      refine (Na _).mono ?_
      rintro e w1 ⟨rfl, hw1⟩
      rw [hw1]
      clear hw1 w1
      go_wp2_with fail
      refine (Nb _).mono ?_
      rintro e w1 ⟨rfl, hw1⟩
      rw [hw1]
      clear hw1 w1
      go_wp2_with fail
      refine (Xa _).mono ?_
      rintro e w1 ⟨rfl, hw1⟩
      rw [hw1]
      clear hw1 w1
      go_wp2_with fail
      refine (Xb _).mono ?_
      rintro e w1 ⟨rfl, hw1⟩
      rw [hw1]
      clear hw1 w1
      go_wp2
      go_ret
      exact ⟨rfl, Below.refl _ _⟩
  · have e1 : V = 9221120237041090560 := by rw [← HVV.out, HV.out, if_pos (by simp)]
    subst e1
    clear hn HRd Hs Hs0 HV HVV
    go_enter Tryd.func35, Tryd.ntmps35
    go_wp2_with fail
    refine (Na _).mono ?_
    rintro e w1 ⟨rfl, hw1⟩
    rw [hw1]
    clear hw1 w1
    go_wp2_with fail
    refine (Nb _).mono ?_
    rintro e w1 ⟨rfl, hw1⟩
    rw [hw1]
    clear hw1 w1
    go_wp2_with fail
    refine (Xa _).mono ?_
    rintro e w1 ⟨rfl, hw1⟩
    rw [hw1]
    clear hw1 w1
    go_wp2
    go_ret
    exact ⟨rfl, Below.refl _ _⟩
end Go.Proofs.YtfcoffllelgakaaDoor
