import Derived.Test.YtfcoffllelgakaaDoorNrQ
import Derived.Test.YtfcoffllelgakaaDoorSum
import Derived.Test.YtfcoffllelgakaaDoorCmpR
import Derived.Deep.RegionHeld3
import Derived.Test.YtfcoffllelgakaaDoorMulS
namespace Go.Proofs.YtfcoffllelgakaaDoor
open Go.RowKit
set_option linter.unusedVariables false
set_option linter.unusedSimpArgs false

theorem sumR_abs (p : Bool) (x : Nat) (q : Bool) (y : Nat) : (sumR p x q y).2 = (sgn p x + sgn q y).natAbs ∧ (0 < (sumR p x q y).2 → (sumR p x q y).1 = decide (sgn p x + sgn q y < 0)) := by
  unfold sumR sgn
  cases p <;> cases q <;> simp <;> (repeat' split) <;> (try constructor) <;> (try intro) <;> (try simp) <;> omega
theorem nz_sgn (p : Bool) (x : Nat) : sgn (nz p x) x = sgn p x := by
  unfold nz sgn
  cases p <;> simp
  omega
/-- Sign and size of the sum. -/
def smS (a b : Nat) : Bool := nz (sumR (nz (fneg a) (fu a)) (fu a) (nz (fneg b) (fu b)) (fu b)).1 (sumR (nz (fneg a) (fu a)) (fu a) (nz (fneg b) (fu b)) (fu b)).2
def smN (a b : Nat) : Nat := (sumR (nz (fneg a) (fu a)) (fu a) (nz (fneg b) (fu b)) (fu b)).2
theorem sm_eq (a b : Nat) : smN a b = (sumI a b).natAbs ∧ (¬ smN a b = 0 → smS a b = decide (sumI a b < 0)) := by
  obtain ⟨h1, h2⟩ := sumR_abs (nz (fneg a) (fu a)) (fu a) (nz (fneg b) (fu b)) (fu b)
  rw [nz_sgn, nz_sgn] at h1 h2
  refine ⟨h1, fun h => ?_⟩
  have h3 : 0 < (sumR (nz (fneg a) (fu a)) (fu a) (nz (fneg b) (fu b)) (fu b)).2 := by unfold smN at h; omega
  have h4 := h2 h3
  unfold smS nz at *
  rw [h4, decide_eq_true h3, Bool.and_true]
  rfl
theorem smN_len (a b : Nat) : (lim (smN a b)).length ≤ 72 := by
  have h1 := fu_lt a 2047 (by have : fexp a < 2048 := Nat.mod_lt _ (by decide); omega)
  have h2 := fu_lt b 2047 (by have : fexp b < 2048 := Nat.mod_lt _ (by decide); omega)
  have h3 : smN a b ≤ fu a + fu b := by
    rw [(sm_eq a b).1]
    unfold sumI sgn
    cases fneg a <;> cases fneg b <;> simp <;> omega
  obtain ⟨K, hK⟩ : ∃ K : Nat, K = 2047 := ⟨_, rfl⟩
  rw [← hK] at h1 h2
  refine lim_len_gen _ (K + 1) 72 ?_ (by omega)
  have e : 2 ^ (K + 1) = 2 * 2 ^ K := by rw [Nat.pow_succ, Nat.mul_comm]
  rw [e]
  generalize 2 ^ K = A at h1 h2
  omega
set_option maxRecDepth 100000 in
set_option maxHeartbeats 1500000 in
theorem sumS_any (a b : Nat) (w : World) (ha : a < 18446744073709551616) (hb : b < 18446744073709551616) :
    Calls Tryd.prog 31 #[.int .u64 a, .int .u64 b] w fun e w' => e = .returned (.int .u64 (sumV a b : Nat)) ∧ Below w.heap.size w w' := by
  have Na := fun W : World => negS_any (a : Int) W (by omega) (by omega)
  have Nb := fun W : World => negS_any (b : Int) W (by omega) (by omega)
  have Xa := fun W : World => isNanS_any (a : Int) W (by omega) (by omega)
  have Xb := fun W : World => isNanS_any (b : Int) W (by omega) (by omega)
  have Ia := fun W : World => isInfS_any (a : Int) W (by omega) (by omega)
  have Ib := fun W : World => isInfS_any (b : Int) W (by omega) (by omega)
  have Ua := fun W : World => unitsS_any (a : Int) W (by omega) (by omega)
  have Ub := fun W : World => unitsS_any (b : Int) W (by omega) (by omega)
  simp only [Int.toNat_natCast] at Na Nb Xa Xb Ia Ib Ua Ub
  have HV : Hid (sumV a b = if (isN a || isN b || (isI a && isI b && (a != b))) = true then 9221120237041090560 else if isI a = true then a else if isI b = true then b else if sumI a b = 0 then setN (fneg a && fneg b) 0 else rndV (decide (sumI a b < 0)) (sumI a b).natAbs lowP) := rfl
  have la := fu_len a
  have lb := fu_len b
  have Ga := fun (W : World) v h => l1Big_lim (fneg a) v (fu a) W h
  have Gb := fun (W : World) v h => l1Big_lim (fneg b) v (fu b) W h
  have HS := fun (W : World) v u h1 h2 => l1Sum_any (nz (fneg a) (fu a)) (nz (fneg b) (fu b)) v u (lim (fu a)) (lim (fu b)) W h1 h2 (lim_norm _) (lim_norm _) (by omega) (by omega)
  rw [val_lim, val_lim] at HS
  have hz := sm_eq a b
  have hsl := smN_len a b
  have HR := fun (W : World) (v u : Value) (h1 : Rd W v (lim (smN a b))) (h2 : Rd W u (lim lowP)) => round_any (smS a b) v u (smN a b) lowP W h1 h2 (by omega) (by have := low_len; omega) lowP_pos
  have HO := fun W : World => oneS_any W
  have Hs0 := fun (n : Bool) (W : World) => set_any n 0 W (by decide)
  obtain ⟨V, hV⟩ : ∃ V, sumV a b = V := ⟨_, rfl⟩
  rw [hV]
  have HVV : Hid (sumV a b = V) := hV
  clear hV
  have hlen : smN a b = 0 ↔ (lim (smN a b)).length = 0 := by rw [List.length_eq_zero_iff, lim_eq_nil]
  have HZ : Hid (smN a b = (sumI a b).natAbs ∧ (¬ smN a b = 0 → smS a b = decide (sumI a b < 0))) := hz
  have HL : Hid (smN a b = 0 ↔ (lim (smN a b)).length = 0) := hlen
  clear hz hlen
  change ∀ (W : World) v u, Rd W v (lim (fu a)) → Rd W u (lim (fu b)) → Calls Tryd.prog 46 #[.agg #[.bool (nz (fneg a) (fu a)), v], .agg #[.bool (nz (fneg b) (fu b)), u]] W fun e w' => ∃ a' c, e = .returned (.agg #[.bool (smS a b), .slice a' (lim (smN a b)).length c]) ∧ Own w' W.heap.size (.slice a' (lim (smN a b)).length c) (lim (smN a b)) ∧ Below W.heap.size W w' at HS
  have hne : ((a : Int) == (b : Int)) = (a == b) := by
    by_cases h : a = b
    · subst h; simp
    · rw [beq_eq_false_iff_ne.2 h, beq_eq_false_iff_ne]; omega
  generalize nz (fneg a) (fu a) = sa at *
  generalize nz (fneg b) (fu b) = sb at *
  generalize isN a = xa at *
  generalize isN b = xb at *
  generalize isI a = ia at *
  generalize isI b = ib at *
  cases xa
  · cases xb
    · cases ia
      · cases ib
        · have HVs : Hid (V = if sumI a b = 0 then setN (fneg a && fneg b) 0 else rndV (decide (sumI a b < 0)) (sumI a b).natAbs lowP) := by rw [← HVV.out, HV.out, if_neg (by simp), if_neg (by decide), if_neg (by decide)]; rfl
          clear HV HVV hne
          by_cases h0 : (lim (smN a b)).length = 0
          · have hz0 : smN a b = 0 := HL.out.2 h0
            have e1 : V = setN (fneg a && fneg b) 0 := by
              rw [HVs.out, if_pos (by have := HZ.out.1; omega)]
            have HS0 := Hs0 (fneg a && fneg b)
            rw [← e1] at HS0
            clear HR HO Hs0 HVs e1 hsl HZ HL hz0
            generalize lim (smN a b) = L at *
            generalize smS a b = sg at *
            generalize fneg a = na at *
            generalize fneg b = nb at *
            generalize lim (fu a) = LA at *
            generalize lim (fu b) = LB at *
            cases na
            · have HS1 := HS0
              simp only [Bool.false_and] at HS1
              clear HS0
              go_enter Tryd.func31, Tryd.ntmps31
              go_wp2_with fail
              refine (Xa _).mono ?_
              rintro e w1 ⟨rfl, hw1⟩
              rw [hw1]
              clear hw1 w1
              go_wp2_with fail
              refine (Xb _).mono ?_
              rintro e w1 ⟨rfl, hw1⟩
              rw [hw1]
              clear hw1 w1
              go_wp2_with fail
              refine (Ia _).mono ?_
              rintro e w1 ⟨rfl, hw1⟩
              rw [hw1]
              clear hw1 w1
              go_wp2_with fail
              refine (Ia _).mono ?_
              rintro e w1 ⟨rfl, hw1⟩
              rw [hw1]
              clear hw1 w1
              go_wp2_with fail
              refine (Ib _).mono ?_
              rintro e w1 ⟨rfl, hw1⟩
              rw [hw1]
              clear hw1 w1
              go_wp2_with fail
              refine (Na _).mono ?_
              rintro e w1 ⟨rfl, hw1⟩
              rw [hw1]
              clear hw1 w1
              go_wp2_with fail
              refine (Ua _).mono ?_
              rintro e w1 ⟨a1, c1, rfl, O1, b1⟩
              go_wp2_with fail
              refine (Ga _ _ O1.rd).mono ?_
              rintro e w2 ⟨a2, c2, rfl, O2, b2⟩
              have V2 := b1.trans (b2.mono b1.size)
              clear O1
              go_wp2_with fail
              refine (Nb _).mono ?_
              rintro e w1 ⟨rfl, hw1⟩
              rw [hw1]
              clear hw1 w1
              go_wp2_with fail
              refine (Ub _).mono ?_
              rintro e w3 ⟨a3, c3, rfl, O3, b3⟩
              have V3 := V2.trans (b3.mono V2.size)
              go_wp2_with fail
              refine (Gb _ _ O3.rd).mono ?_
              rintro e w4 ⟨a4, c4, rfl, O4, b4⟩
              have V4 := V3.trans (b4.mono V3.size)
              have R2 := (O2.rd.keep b3).keep b4
              clear O3
              go_wp2_with fail
              refine (HS _ _ _ R2 O4.rd).mono ?_
              rintro e w5 ⟨a5, c5, rfl, O5, b5⟩
              have V5 := V4.trans (b5.mono V4.size)
              have V6 := V5.alloc V5.size (Obj.cells #[.bool sg, .slice a5 L.length c5] 29)
              have bS := Box.new w5 (.bool sg) (.slice a5 L.length c5) 29
              have rL := O5.rd.alloc (Obj.cells #[.bool sg, .slice a5 L.length c5] 29)
              obtain ⟨-, k0, k1⟩ := id bS
              clear O2 O4 R2 b1 b2 b3 b4 b5 V2 V3 V4 HS Ga Gb Ua Ub
              go_wp2_with fail
              refine (Na _).mono ?_
              rintro e w1 ⟨rfl, hw1⟩
              rw [hw1]
              clear hw1 w1
              go_wp2_with fail
              refine (HS1 _).mono ?_
              rintro e w1 ⟨rfl, hw1⟩
              rw [hw1]
              clear hw1 w1
              go_wp2
              go_ret
              rw [h0] at V6
              exact ⟨rfl, V6⟩
            · have HS1 := HS0
              simp only [Bool.true_and] at HS1
              clear HS0
              go_enter Tryd.func31, Tryd.ntmps31
              go_wp2_with fail
              refine (Xa _).mono ?_
              rintro e w1 ⟨rfl, hw1⟩
              rw [hw1]
              clear hw1 w1
              go_wp2_with fail
              refine (Xb _).mono ?_
              rintro e w1 ⟨rfl, hw1⟩
              rw [hw1]
              clear hw1 w1
              go_wp2_with fail
              refine (Ia _).mono ?_
              rintro e w1 ⟨rfl, hw1⟩
              rw [hw1]
              clear hw1 w1
              go_wp2_with fail
              refine (Ia _).mono ?_
              rintro e w1 ⟨rfl, hw1⟩
              rw [hw1]
              clear hw1 w1
              go_wp2_with fail
              refine (Ib _).mono ?_
              rintro e w1 ⟨rfl, hw1⟩
              rw [hw1]
              clear hw1 w1
              go_wp2_with fail
              refine (Na _).mono ?_
              rintro e w1 ⟨rfl, hw1⟩
              rw [hw1]
              clear hw1 w1
              go_wp2_with fail
              refine (Ua _).mono ?_
              rintro e w1 ⟨a1, c1, rfl, O1, b1⟩
              go_wp2_with fail
              refine (Ga _ _ O1.rd).mono ?_
              rintro e w2 ⟨a2, c2, rfl, O2, b2⟩
              have V2 := b1.trans (b2.mono b1.size)
              clear O1
              go_wp2_with fail
              refine (Nb _).mono ?_
              rintro e w1 ⟨rfl, hw1⟩
              rw [hw1]
              clear hw1 w1
              go_wp2_with fail
              refine (Ub _).mono ?_
              rintro e w3 ⟨a3, c3, rfl, O3, b3⟩
              have V3 := V2.trans (b3.mono V2.size)
              go_wp2_with fail
              refine (Gb _ _ O3.rd).mono ?_
              rintro e w4 ⟨a4, c4, rfl, O4, b4⟩
              have V4 := V3.trans (b4.mono V3.size)
              have R2 := (O2.rd.keep b3).keep b4
              clear O3
              go_wp2_with fail
              refine (HS _ _ _ R2 O4.rd).mono ?_
              rintro e w5 ⟨a5, c5, rfl, O5, b5⟩
              have V5 := V4.trans (b5.mono V4.size)
              have V6 := V5.alloc V5.size (Obj.cells #[.bool sg, .slice a5 L.length c5] 29)
              have bS := Box.new w5 (.bool sg) (.slice a5 L.length c5) 29
              have rL := O5.rd.alloc (Obj.cells #[.bool sg, .slice a5 L.length c5] 29)
              obtain ⟨-, k0, k1⟩ := id bS
              clear O2 O4 R2 b1 b2 b3 b4 b5 V2 V3 V4 HS Ga Gb Ua Ub
              go_wp2_with fail
              refine (Na _).mono ?_
              rintro e w1 ⟨rfl, hw1⟩
              rw [hw1]
              clear hw1 w1
              go_wp2_with fail
              refine (Nb _).mono ?_
              rintro e w1 ⟨rfl, hw1⟩
              rw [hw1]
              clear hw1 w1
              go_wp2_with fail
              refine (HS1 _).mono ?_
              rintro e w1 ⟨rfl, hw1⟩
              rw [hw1]
              clear hw1 w1
              go_wp2
              go_ret
              rw [h0] at V6
              exact ⟨rfl, V6⟩
          · have hz0 : ¬ smN a b = 0 := fun h => h0 (HL.out.1 h)
            have e1 : V = rndV (smS a b) (smN a b) lowP := by
              rw [HVs.out, if_neg (by have := HZ.out.1; omega), HZ.out.2 hz0, ← HZ.out.1]
            rw [← e1] at HR
            clear Hs0 HVs e1 hsl HZ HL hz0
            generalize lim (smN a b) = L at *
            generalize smS a b = sg at *
            generalize fneg a = na at *
            generalize fneg b = nb at *
            generalize lim (fu a) = LA at *
            generalize lim (fu b) = LB at *
            generalize lim lowP = LO at *
            go_enter Tryd.func31, Tryd.ntmps31
            go_wp2_with fail
            refine (Xa _).mono ?_
            rintro e w1 ⟨rfl, hw1⟩
            rw [hw1]
            clear hw1 w1
            go_wp2_with fail
            refine (Xb _).mono ?_
            rintro e w1 ⟨rfl, hw1⟩
            rw [hw1]
            clear hw1 w1
            go_wp2_with fail
            refine (Ia _).mono ?_
            rintro e w1 ⟨rfl, hw1⟩
            rw [hw1]
            clear hw1 w1
            go_wp2_with fail
            refine (Ia _).mono ?_
            rintro e w1 ⟨rfl, hw1⟩
            rw [hw1]
            clear hw1 w1
            go_wp2_with fail
            refine (Ib _).mono ?_
            rintro e w1 ⟨rfl, hw1⟩
            rw [hw1]
            clear hw1 w1
            go_wp2_with fail
            refine (Na _).mono ?_
            rintro e w1 ⟨rfl, hw1⟩
            rw [hw1]
            clear hw1 w1
            go_wp2_with fail
            refine (Ua _).mono ?_
            rintro e w1 ⟨a1, c1, rfl, O1, b1⟩
            go_wp2_with fail
            refine (Ga _ _ O1.rd).mono ?_
            rintro e w2 ⟨a2, c2, rfl, O2, b2⟩
            have V2 := b1.trans (b2.mono b1.size)
            clear O1
            go_wp2_with fail
            refine (Nb _).mono ?_
            rintro e w1 ⟨rfl, hw1⟩
            rw [hw1]
            clear hw1 w1
            go_wp2_with fail
            refine (Ub _).mono ?_
            rintro e w3 ⟨a3, c3, rfl, O3, b3⟩
            have V3 := V2.trans (b3.mono V2.size)
            go_wp2_with fail
            refine (Gb _ _ O3.rd).mono ?_
            rintro e w4 ⟨a4, c4, rfl, O4, b4⟩
            have V4 := V3.trans (b4.mono V3.size)
            have R2 := (O2.rd.keep b3).keep b4
            clear O3
            go_wp2_with fail
            refine (HS _ _ _ R2 O4.rd).mono ?_
            rintro e w5 ⟨a5, c5, rfl, O5, b5⟩
            have V5 := V4.trans (b5.mono V4.size)
            have V6 := V5.alloc V5.size (Obj.cells #[.bool sg, .slice a5 L.length c5] 29)
            have bS := Box.new w5 (.bool sg) (.slice a5 L.length c5) 29
            have rL := O5.rd.alloc (Obj.cells #[.bool sg, .slice a5 L.length c5] 29)
            obtain ⟨-, k0, k1⟩ := id bS
            clear O2 O4 R2 b1 b2 b3 b4 b5 V2 V3 V4 HS Ga Gb Ua Ub
            go_upto_region 10 with fail
            generalize w5.alloc (Obj.cells #[.bool sg, .slice a5 L.length c5] 29) = w6 at *
            go_region_held3 (fun W => W.cell? ⟨w5.heap.size, 0, none⟩ = some (.bool sg) ∧ W.cell? ⟨w5.heap.size, 1, none⟩ = some (.slice a5 L.length c5)) (go_keep) (first | (go_at_call 66; refine (HO _).mono ?_; rintro e w7 ⟨a7, c7, rfl, O7, b7⟩; have rL7 := rL.drew.keep b7; obtain ⟨-, y0, y1⟩ := bS.drew.keep b7; have V7 := V6.drew.trans (b7.mono (by have := V6.size; simp; omega))) | (go_at_call 24; refine (HR _ _ _ rL7 O7.rd).mono ?_; rintro e w8 ⟨rfl, b8⟩; obtain ⟨-, z0, z1⟩ := (bS.drew.keep b7).keep b8; have V8 := V7.trans (b8.mono V7.size)))
            all_goals go_wp2
            all_goals go_ret
            all_goals exact ⟨rfl, V8⟩
        · have e1 : V = b := by rw [← HVV.out, HV.out, if_neg (by simp), if_neg (by decide), if_pos (by simp)]
          subst e1
          clear HV HVV HS HR HO Hs0 Ga Gb HZ HL hne
          go_enter Tryd.func31, Tryd.ntmps31
          go_wp2_with fail
          refine (Xa _).mono ?_
          rintro e w1 ⟨rfl, hw1⟩
          rw [hw1]
          clear hw1 w1
          go_wp2_with fail
          refine (Xb _).mono ?_
          rintro e w1 ⟨rfl, hw1⟩
          rw [hw1]
          clear hw1 w1
          go_wp2_with fail
          refine (Ia _).mono ?_
          rintro e w1 ⟨rfl, hw1⟩
          rw [hw1]
          clear hw1 w1
          go_wp2_with fail
          refine (Ia _).mono ?_
          rintro e w1 ⟨rfl, hw1⟩
          rw [hw1]
          clear hw1 w1
          go_wp2_with fail
          refine (Ib _).mono ?_
          rintro e w1 ⟨rfl, hw1⟩
          rw [hw1]
          clear hw1 w1
          go_wp2
          go_ret
          exact ⟨rfl, Below.refl _ _⟩
      · cases ib
        · have e1 : V = a := by rw [← HVV.out, HV.out, if_neg (by simp), if_pos (by simp)]
          subst e1
          clear HV HVV HS HR HO Hs0 Ga Gb HZ HL hne
          go_enter Tryd.func31, Tryd.ntmps31
          go_wp2_with fail
          refine (Xa _).mono ?_
          rintro e w1 ⟨rfl, hw1⟩
          rw [hw1]
          clear hw1 w1
          go_wp2_with fail
          refine (Xb _).mono ?_
          rintro e w1 ⟨rfl, hw1⟩
          rw [hw1]
          clear hw1 w1
          go_wp2_with fail
          refine (Ia _).mono ?_
          rintro e w1 ⟨rfl, hw1⟩
          rw [hw1]
          clear hw1 w1
          go_wp2_with fail
          refine (Ib _).mono ?_
          rintro e w1 ⟨rfl, hw1⟩
          rw [hw1]
          clear hw1 w1
          go_wp2_with fail
          refine (Ia _).mono ?_
          rintro e w1 ⟨rfl, hw1⟩
          rw [hw1]
          clear hw1 w1
          go_wp2
          go_ret
          exact ⟨rfl, Below.refl _ _⟩
        · by_cases hab : a = b
          · have hq : ((a : Int) == (b : Int)) = true := by rw [hne, beq_iff_eq]; exact hab
            have e1 : V = a := by rw [← HVV.out, HV.out, if_neg (by simp [hab]), if_pos (by simp)]
            subst e1
            clear HV HVV HS HR HO Hs0 Ga Gb HZ HL hne hab
            go_enter Tryd.func31, Tryd.ntmps31
            go_wp2_with fail
            refine (Xa _).mono ?_
            rintro e w1 ⟨rfl, hw1⟩
            rw [hw1]
            clear hw1 w1
            go_wp2_with fail
            refine (Xb _).mono ?_
            rintro e w1 ⟨rfl, hw1⟩
            rw [hw1]
            clear hw1 w1
            go_wp2_with fail
            refine (Ia _).mono ?_
            rintro e w1 ⟨rfl, hw1⟩
            rw [hw1]
            clear hw1 w1
            go_wp2_with fail
            refine (Ib _).mono ?_
            rintro e w1 ⟨rfl, hw1⟩
            rw [hw1]
            clear hw1 w1
            go_wp2_with fail
            refine (Ia _).mono ?_
            rintro e w1 ⟨rfl, hw1⟩
            rw [hw1]
            clear hw1 w1
            go_wp2
            go_ret
            exact ⟨rfl, Below.refl _ _⟩
          · have hq : ((a : Int) == (b : Int)) = false := by rw [hne, beq_eq_false_iff_ne]; exact hab
            have e1 : V = 9221120237041090560 := by rw [← HVV.out, HV.out, if_pos (by simp [hab])]
            subst e1
            clear HV HVV HS HR HO Hs0 Ga Gb HZ HL hne hab
            go_enter Tryd.func31, Tryd.ntmps31
            go_wp2_with fail
            refine (Xa _).mono ?_
            rintro e w1 ⟨rfl, hw1⟩
            rw [hw1]
            clear hw1 w1
            go_wp2_with fail
            refine (Xb _).mono ?_
            rintro e w1 ⟨rfl, hw1⟩
            rw [hw1]
            clear hw1 w1
            go_wp2_with fail
            refine (Ia _).mono ?_
            rintro e w1 ⟨rfl, hw1⟩
            rw [hw1]
            clear hw1 w1
            go_wp2_with fail
            refine (Ib _).mono ?_
            rintro e w1 ⟨rfl, hw1⟩
            rw [hw1]
            clear hw1 w1
            go_wp2
            go_ret
            exact ⟨rfl, Below.refl _ _⟩
    · have e1 : V = 9221120237041090560 := by rw [← HVV.out, HV.out, if_pos (by simp)]
      subst e1
      clear HV HVV HS HR HO Hs0 Ga Gb HZ HL hne
      go_enter Tryd.func31, Tryd.ntmps31
      go_wp2_with fail
      refine (Xa _).mono ?_
      rintro e w1 ⟨rfl, hw1⟩
      rw [hw1]
      clear hw1 w1
      go_wp2_with fail
      refine (Xb _).mono ?_
      rintro e w1 ⟨rfl, hw1⟩
      rw [hw1]
      clear hw1 w1
      go_wp2
      go_ret
      exact ⟨rfl, Below.refl _ _⟩
  · have e1 : V = 9221120237041090560 := by rw [← HVV.out, HV.out, if_pos (by simp)]
    subst e1
    clear HV HVV HS HR HO Hs0 Ga Gb HZ HL hne
    go_enter Tryd.func31, Tryd.ntmps31
    go_wp2_with fail
    refine (Xa _).mono ?_
    rintro e w1 ⟨rfl, hw1⟩
    rw [hw1]
    clear hw1 w1
    go_wp2
    go_ret
    exact ⟨rfl, Below.refl _ _⟩
end Go.Proofs.YtfcoffllelgakaaDoor

namespace Go.Proofs.YtfcoffllelgakaaDoor
open Go.RowKit
set_option linter.unusedVariables false
set_option linter.unusedSimpArgs false

theorem prod_len (a b : Nat) : (lim (fu a * fu b)).length ≤ 140 := by
  have h1 := fu_lt a 2047 (by have : fexp a < 2048 := Nat.mod_lt _ (by decide); omega)
  have h2 := fu_lt b 2047 (by have : fexp b < 2048 := Nat.mod_lt _ (by decide); omega)
  obtain ⟨K, hK⟩ : ∃ K : Nat, K = 2047 := ⟨_, rfl⟩
  rw [← hK] at h1 h2
  refine lim_len_gen _ (K + K + 53) 140 ?_ (by omega)
  have h3 : fu a * fu b < (9007199254740992 * 2 ^ K) * (9007199254740992 * 2 ^ K) := Nat.mul_lt_mul'' h1 h2
  refine Nat.lt_of_lt_of_le h3 (Nat.le_of_eq ?_)
  rw [Nat.pow_add, Nat.pow_add, two53]
  ac_rfl
theorem low2_len : (lim (lowP * lowP)).length ≤ 140 := by
  refine lim_len_gen _ (lowE + lowE) 140 ?_ (by decide)
  unfold lowP
  rw [Nat.pow_add]
  have h := Nat.mul_pos (Nat.two_pow_pos lowE) (Nat.two_pow_pos lowE)
  generalize 2 ^ lowE * 2 ^ lowE = A at h ⊢
  omega
set_option maxRecDepth 100000 in
set_option maxHeartbeats 1500000 in
theorem timesS_any (a b : Nat) (w : World) (ha : a < 18446744073709551616) (hb : b < 18446744073709551616) :
    Calls Tryd.prog 33 #[.int .u64 a, .int .u64 b] w fun e w' => e = .returned (.int .u64 (timesV a b : Nat)) ∧ Below w.heap.size w w' := by
  have Na := fun W : World => negS_any (a : Int) W (by omega) (by omega)
  have Nb := fun W : World => negS_any (b : Int) W (by omega) (by omega)
  have Xa := fun W : World => isNanS_any (a : Int) W (by omega) (by omega)
  have Xb := fun W : World => isNanS_any (b : Int) W (by omega) (by omega)
  have Ia := fun W : World => isInfS_any (a : Int) W (by omega) (by omega)
  have Ib := fun W : World => isInfS_any (b : Int) W (by omega) (by omega)
  have Ua := fun W : World => unitsS_any (a : Int) W (by omega) (by omega)
  have Ub := fun W : World => unitsS_any (b : Int) W (by omega) (by omega)
  have Za := fun W : World => isZeroS_any (a : Int) W (by omega) (by omega)
  have Zb := fun W : World => isZeroS_any (b : Int) W (by omega) (by omega)
  simp only [Int.toNat_natCast] at Na Nb Xa Xb Ia Ib Ua Ub Za Zb
  have HV : Hid (timesV a b = if (isN a || isN b || (isI a && decide (frung b = 0)) || (decide (frung a = 0) && isI b)) = true then 9221120237041090560 else if (isI a || isI b) = true then setN (fneg a != fneg b) 9218868437227405312 else rndV (fneg a != fneg b) (fu a * fu b) (lowP * lowP)) := rfl
  have hI : isI a = true → decide (frung a = 0) = false := fun h => by rw [isI_iff.1 h]; rfl
  have la := fu_len a
  have lb := fu_len b
  have lp := prod_len a b
  have lo := low_len
  have HM := fun (W : World) v u h1 h2 => mulMag_any v u (lim (fu a)) (lim (fu b)) W h1 h2 (by omega) (by omega)
  have HM2 := fun (W : World) v u h1 h2 => mulMag_any v u (lim lowP) (lim lowP) W h1 h2 (by omega) (by omega)
  rw [val_lim, val_lim] at HM
  rw [val_lim] at HM2
  have HR := fun (n : Bool) (W : World) (v u : Value) (h1 : Rd W v (lim (fu a * fu b))) (h2 : Rd W u (lim (lowP * lowP))) => round_any n v u (fu a * fu b) (lowP * lowP) W h1 h2 (by omega) (by have := low2_len; omega) (Nat.mul_pos lowP_pos lowP_pos)
  have HO := fun W : World => oneS_any W
  have Hs := fun (n : Bool) (W : World) => set_any n 9218868437227405312 W (by decide)
  obtain ⟨V, hV⟩ : ∃ V, timesV a b = V := ⟨_, rfl⟩
  rw [hV]
  have HVV : Hid (timesV a b = V) := hV
  clear hV
  generalize fneg a = na at *
  generalize fneg b = nb at *
  generalize isN a = xa at *
  generalize isN b = xb at *
  generalize isI a = ia at *
  generalize isI b = ib at *
  generalize decide (frung a = 0) = za at *
  generalize decide (frung b = 0) = zb at *
  generalize hn : (na != nb) = nn at *
  have hneq : (na == nb) = !nn := by rw [← hn]; cases na <;> cases nb <;> rfl
  have HN : Hid ((na != nb) = nn) := hn
  clear hn
  cases xa
  · cases xb
    · cases ia
      · cases za
        · cases ib
          · have e1 : V = rndV nn (fu a * fu b) (lowP * lowP) := by rw [← HVV.out, HV.out, if_neg (by simp), if_neg (by simp)]
            have HRn := HR nn
            rw [← e1] at HRn
            clear HR Hs e1 HV HVV
            generalize lim (fu a * fu b) = LP at *
            generalize lim (lowP * lowP) = LQ at *
            generalize lim (fu a) = LA at *
            generalize lim (fu b) = LB at *
            generalize lim lowP = LO at *
            go_enter Tryd.func33, Tryd.ntmps33
            go_wp2_with fail
            refine (Na _).mono ?_
            rintro e w1 ⟨rfl, hw1⟩
            rw [hw1]
            clear hw1 w1
            go_wp2_with fail
            refine (Nb _).mono ?_
            rintro e w1 ⟨rfl, hw1⟩
            rw [hw1]
            clear hw1 w1
            go_wp2_with fail
            refine (Xa _).mono ?_
            rintro e w1 ⟨rfl, hw1⟩
            rw [hw1]
            clear hw1 w1
            go_wp2_with fail
            refine (Xb _).mono ?_
            rintro e w1 ⟨rfl, hw1⟩
            rw [hw1]
            clear hw1 w1
            go_wp2_with fail
            refine (Ia _).mono ?_
            rintro e w1 ⟨rfl, hw1⟩
            rw [hw1]
            clear hw1 w1
            go_wp2_with fail
            refine (Za _).mono ?_
            rintro e w1 ⟨rfl, hw1⟩
            rw [hw1]
            clear hw1 w1
            go_wp2_with fail
            refine (Ia _).mono ?_
            rintro e w1 ⟨rfl, hw1⟩
            rw [hw1]
            clear hw1 w1
            go_wp2_with fail
            refine (Ib _).mono ?_
            rintro e w1 ⟨rfl, hw1⟩
            rw [hw1]
            clear hw1 w1
            go_wp2_with fail
            refine (Ua _).mono ?_
            rintro e w1 ⟨a1, c1, rfl, O1, b1⟩
            go_wp2_with fail
            refine (Ub _).mono ?_
            rintro e w2 ⟨a2, c2, rfl, O2, b2⟩
            have V2 := b1.trans (b2.mono b1.size)
            go_wp2_with fail
            refine (HM _ _ _ (O1.rd.keep b2) O2.rd).mono ?_
            rintro e w3 ⟨a3, c3, rfl, O3, b3⟩
            have V3 := V2.trans (b3.mono V2.size)
            clear O1 O2 b1 b2 b3 V2 HM Ua Ub
            go_wp2_with fail
            refine (HO _).mono ?_
            rintro e w4 ⟨a4, c4, rfl, O4, b4⟩
            have V4 := V3.trans (b4.mono V3.size)
            have R3 := O3.rd.keep b4
            go_wp2_with fail
            refine (HO _).mono ?_
            rintro e w5 ⟨a5, c5, rfl, O5, b5⟩
            have V5 := V4.trans (b5.mono V4.size)
            have R4 := R3.keep b5
            go_wp2_with fail
            refine (HM2 _ _ _ (O4.rd.keep b5) O5.rd).mono ?_
            rintro e w6 ⟨a6, c6, rfl, O6, b6⟩
            have V6 := V5.trans (b6.mono V5.size)
            have R5 := R4.keep b6
            clear O3 O4 O5 b4 b5 b6 V3 V4 V5 HM2 R3 R4 HO
            go_wp2_with fail
            refine (HRn _ _ _ R5 O6.rd).mono ?_
            rintro e w7 ⟨rfl, b7⟩
            have V7 := V6.trans (b7.mono V6.size)
            go_wp2
            go_ret
            exact ⟨rfl, V7⟩
          · have e1 : V = setN nn 9218868437227405312 := by rw [← HVV.out, HV.out, if_neg (by simp), if_pos (by simp)]
            have HS : ∀ W, Calls Tryd.prog 51 #[.bool nn, .int .u64 9218868437227405312] W fun e w' => e = .returned (.int .u64 (V : Nat)) ∧ w' = W := fun W => by rw [e1]; exact Hs nn W
            clear HM HM2 HR HO Hs e1 HV HVV
            go_enter Tryd.func33, Tryd.ntmps33
            go_wp2_with fail
            refine (Na _).mono ?_
            rintro e w1 ⟨rfl, hw1⟩
            rw [hw1]
            clear hw1 w1
            go_wp2_with fail
            refine (Nb _).mono ?_
            rintro e w1 ⟨rfl, hw1⟩
            rw [hw1]
            clear hw1 w1
            go_wp2_with fail
            refine (Xa _).mono ?_
            rintro e w1 ⟨rfl, hw1⟩
            rw [hw1]
            clear hw1 w1
            go_wp2_with fail
            refine (Xb _).mono ?_
            rintro e w1 ⟨rfl, hw1⟩
            rw [hw1]
            clear hw1 w1
            go_wp2_with fail
            refine (Ia _).mono ?_
            rintro e w1 ⟨rfl, hw1⟩
            rw [hw1]
            clear hw1 w1
            go_wp2_with fail
            refine (Za _).mono ?_
            rintro e w1 ⟨rfl, hw1⟩
            rw [hw1]
            clear hw1 w1
            go_wp2_with fail
            refine (Ia _).mono ?_
            rintro e w1 ⟨rfl, hw1⟩
            rw [hw1]
            clear hw1 w1
            go_wp2_with fail
            refine (Ib _).mono ?_
            rintro e w1 ⟨rfl, hw1⟩
            rw [hw1]
            clear hw1 w1
            go_wp2_with fail
            refine (HS _).mono ?_
            rintro e w1 ⟨rfl, hw1⟩
            rw [hw1]
            clear hw1 w1
            go_wp2
            go_ret
            exact ⟨rfl, Below.refl _ _⟩
        · cases ib
          · have e1 : V = rndV nn (fu a * fu b) (lowP * lowP) := by rw [← HVV.out, HV.out, if_neg (by simp), if_neg (by simp)]
            have HRn := HR nn
            rw [← e1] at HRn
            clear HR Hs e1 HV HVV
            generalize lim (fu a * fu b) = LP at *
            generalize lim (lowP * lowP) = LQ at *
            generalize lim (fu a) = LA at *
            generalize lim (fu b) = LB at *
            generalize lim lowP = LO at *
            go_enter Tryd.func33, Tryd.ntmps33
            go_wp2_with fail
            refine (Na _).mono ?_
            rintro e w1 ⟨rfl, hw1⟩
            rw [hw1]
            clear hw1 w1
            go_wp2_with fail
            refine (Nb _).mono ?_
            rintro e w1 ⟨rfl, hw1⟩
            rw [hw1]
            clear hw1 w1
            go_wp2_with fail
            refine (Xa _).mono ?_
            rintro e w1 ⟨rfl, hw1⟩
            rw [hw1]
            clear hw1 w1
            go_wp2_with fail
            refine (Xb _).mono ?_
            rintro e w1 ⟨rfl, hw1⟩
            rw [hw1]
            clear hw1 w1
            go_wp2_with fail
            refine (Ia _).mono ?_
            rintro e w1 ⟨rfl, hw1⟩
            rw [hw1]
            clear hw1 w1
            go_wp2_with fail
            refine (Za _).mono ?_
            rintro e w1 ⟨rfl, hw1⟩
            rw [hw1]
            clear hw1 w1
            go_wp2_with fail
            refine (Ib _).mono ?_
            rintro e w1 ⟨rfl, hw1⟩
            rw [hw1]
            clear hw1 w1
            go_wp2_with fail
            refine (Ia _).mono ?_
            rintro e w1 ⟨rfl, hw1⟩
            rw [hw1]
            clear hw1 w1
            go_wp2_with fail
            refine (Ib _).mono ?_
            rintro e w1 ⟨rfl, hw1⟩
            rw [hw1]
            clear hw1 w1
            go_wp2_with fail
            refine (Ua _).mono ?_
            rintro e w1 ⟨a1, c1, rfl, O1, b1⟩
            go_wp2_with fail
            refine (Ub _).mono ?_
            rintro e w2 ⟨a2, c2, rfl, O2, b2⟩
            have V2 := b1.trans (b2.mono b1.size)
            go_wp2_with fail
            refine (HM _ _ _ (O1.rd.keep b2) O2.rd).mono ?_
            rintro e w3 ⟨a3, c3, rfl, O3, b3⟩
            have V3 := V2.trans (b3.mono V2.size)
            clear O1 O2 b1 b2 b3 V2 HM Ua Ub
            go_wp2_with fail
            refine (HO _).mono ?_
            rintro e w4 ⟨a4, c4, rfl, O4, b4⟩
            have V4 := V3.trans (b4.mono V3.size)
            have R3 := O3.rd.keep b4
            go_wp2_with fail
            refine (HO _).mono ?_
            rintro e w5 ⟨a5, c5, rfl, O5, b5⟩
            have V5 := V4.trans (b5.mono V4.size)
            have R4 := R3.keep b5
            go_wp2_with fail
            refine (HM2 _ _ _ (O4.rd.keep b5) O5.rd).mono ?_
            rintro e w6 ⟨a6, c6, rfl, O6, b6⟩
            have V6 := V5.trans (b6.mono V5.size)
            have R5 := R4.keep b6
            clear O3 O4 O5 b4 b5 b6 V3 V4 V5 HM2 R3 R4 HO
            go_wp2_with fail
            refine (HRn _ _ _ R5 O6.rd).mono ?_
            rintro e w7 ⟨rfl, b7⟩
            have V7 := V6.trans (b7.mono V6.size)
            go_wp2
            go_ret
            exact ⟨rfl, V7⟩
          · have e1 : V = 9221120237041090560 := by rw [← HVV.out, HV.out, if_pos (by simp)]
            subst e1
            clear HV HVV HM HM2 HR HO Hs
            go_enter Tryd.func33, Tryd.ntmps33
            go_wp2_with fail
            refine (Na _).mono ?_
            rintro e w1 ⟨rfl, hw1⟩
            rw [hw1]
            clear hw1 w1
            go_wp2_with fail
            refine (Nb _).mono ?_
            rintro e w1 ⟨rfl, hw1⟩
            rw [hw1]
            clear hw1 w1
            go_wp2_with fail
            refine (Xa _).mono ?_
            rintro e w1 ⟨rfl, hw1⟩
            rw [hw1]
            clear hw1 w1
            go_wp2_with fail
            refine (Xb _).mono ?_
            rintro e w1 ⟨rfl, hw1⟩
            rw [hw1]
            clear hw1 w1
            go_wp2_with fail
            refine (Ia _).mono ?_
            rintro e w1 ⟨rfl, hw1⟩
            rw [hw1]
            clear hw1 w1
            go_wp2_with fail
            refine (Za _).mono ?_
            rintro e w1 ⟨rfl, hw1⟩
            rw [hw1]
            clear hw1 w1
            go_wp2_with fail
            refine (Ib _).mono ?_
            rintro e w1 ⟨rfl, hw1⟩
            rw [hw1]
            clear hw1 w1
            go_wp2
            go_ret
            exact ⟨rfl, Below.refl _ _⟩
      · obtain rfl : za = false := hI rfl
        cases zb
        · have e1 : V = setN nn 9218868437227405312 := by rw [← HVV.out, HV.out, if_neg (by simp), if_pos (by simp)]
          have HS : ∀ W, Calls Tryd.prog 51 #[.bool nn, .int .u64 9218868437227405312] W fun e w' => e = .returned (.int .u64 (V : Nat)) ∧ w' = W := fun W => by rw [e1]; exact Hs nn W
          clear HM HM2 HR HO Hs e1 HV HVV
          go_enter Tryd.func33, Tryd.ntmps33
          go_wp2_with fail
          refine (Na _).mono ?_
          rintro e w1 ⟨rfl, hw1⟩
          rw [hw1]
          clear hw1 w1
          go_wp2_with fail
          refine (Nb _).mono ?_
          rintro e w1 ⟨rfl, hw1⟩
          rw [hw1]
          clear hw1 w1
          go_wp2_with fail
          refine (Xa _).mono ?_
          rintro e w1 ⟨rfl, hw1⟩
          rw [hw1]
          clear hw1 w1
          go_wp2_with fail
          refine (Xb _).mono ?_
          rintro e w1 ⟨rfl, hw1⟩
          rw [hw1]
          clear hw1 w1
          go_wp2_with fail
          refine (Ia _).mono ?_
          rintro e w1 ⟨rfl, hw1⟩
          rw [hw1]
          clear hw1 w1
          go_wp2_with fail
          refine (Zb _).mono ?_
          rintro e w1 ⟨rfl, hw1⟩
          rw [hw1]
          clear hw1 w1
          go_wp2_with fail
          refine (Za _).mono ?_
          rintro e w1 ⟨rfl, hw1⟩
          rw [hw1]
          clear hw1 w1
          go_wp2_with fail
          refine (Ia _).mono ?_
          rintro e w1 ⟨rfl, hw1⟩
          rw [hw1]
          clear hw1 w1
          go_wp2_with fail
          refine (HS _).mono ?_
          rintro e w1 ⟨rfl, hw1⟩
          rw [hw1]
          clear hw1 w1
          go_wp2
          go_ret
          exact ⟨rfl, Below.refl _ _⟩
        · have e1 : V = 9221120237041090560 := by rw [← HVV.out, HV.out, if_pos (by simp)]
          subst e1
          clear HV HVV HM HM2 HR HO Hs
          go_enter Tryd.func33, Tryd.ntmps33
          go_wp2_with fail
          refine (Na _).mono ?_
          rintro e w1 ⟨rfl, hw1⟩
          rw [hw1]
          clear hw1 w1
          go_wp2_with fail
          refine (Nb _).mono ?_
          rintro e w1 ⟨rfl, hw1⟩
          rw [hw1]
          clear hw1 w1
          go_wp2_with fail
          refine (Xa _).mono ?_
          rintro e w1 ⟨rfl, hw1⟩
          rw [hw1]
          clear hw1 w1
          go_wp2_with fail
          refine (Xb _).mono ?_
          rintro e w1 ⟨rfl, hw1⟩
          rw [hw1]
          clear hw1 w1
          go_wp2_with fail
          refine (Ia _).mono ?_
          rintro e w1 ⟨rfl, hw1⟩
          rw [hw1]
          clear hw1 w1
          go_wp2_with fail
          refine (Zb _).mono ?_
          rintro e w1 ⟨rfl, hw1⟩
          rw [hw1]
          clear hw1 w1
          go_wp2
          go_ret
          exact ⟨rfl, Below.refl _ _⟩
    · have e1 : V = 9221120237041090560 := by rw [← HVV.out, HV.out, if_pos (by simp)]
      subst e1
      clear HV HVV HM HM2 HR HO Hs
      go_enter Tryd.func33, Tryd.ntmps33
      go_wp2_with fail
      refine (Na _).mono ?_
      rintro e w1 ⟨rfl, hw1⟩
      rw [hw1]
      clear hw1 w1
      go_wp2_with fail
      refine (Nb _).mono ?_
      rintro e w1 ⟨rfl, hw1⟩
      rw [hw1]
      clear hw1 w1
      go_wp2_with fail
      refine (Xa _).mono ?_
      rintro e w1 ⟨rfl, hw1⟩
      rw [hw1]
      clear hw1 w1
      go_wp2_with fail
      refine (Xb _).mono ?_
      rintro e w1 ⟨rfl, hw1⟩
      rw [hw1]
      clear hw1 w1
      go_wp2
      go_ret
      exact ⟨rfl, Below.refl _ _⟩
  · have e1 : V = 9221120237041090560 := by rw [← HVV.out, HV.out, if_pos (by simp)]
    subst e1
    clear HV HVV HM HM2 HR HO Hs
    go_enter Tryd.func33, Tryd.ntmps33
    go_wp2_with fail
    refine (Na _).mono ?_
    rintro e w1 ⟨rfl, hw1⟩
    rw [hw1]
    clear hw1 w1
    go_wp2_with fail
    refine (Nb _).mono ?_
    rintro e w1 ⟨rfl, hw1⟩
    rw [hw1]
    clear hw1 w1
    go_wp2_with fail
    refine (Xa _).mono ?_
    rintro e w1 ⟨rfl, hw1⟩
    rw [hw1]
    clear hw1 w1
    go_wp2
    go_ret
    exact ⟨rfl, Below.refl _ _⟩
end Go.Proofs.YtfcoffllelgakaaDoor
