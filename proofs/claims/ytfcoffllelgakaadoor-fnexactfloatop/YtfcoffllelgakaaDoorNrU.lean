import Derived.Test.YtfcoffllelgakaaDoorMgST
import Derived.Test.YtfcoffllelgakaaDoorNrF
namespace Go.Proofs.YtfcoffllelgakaaDoor
open Go.RowKit
set_option linter.unusedVariables false
set_option linter.unusedSimpArgs false

theorem flip_xor (x : Nat) (h : x < 18446744073709551616) : bits .xor .u64 (x : Int) 9223372036854775808 = ((flipN x : Nat) : Int) := by
  rw [u64_xor _ _ (by omega) (by omega) (by decide) (by decide), Int.toNat_natCast, show ((9223372036854775808 : Int).toNat : Nat) = 2 ^ 63 from by decide]
  have e : x ^^^ 2 ^ 63 = flipN x := by
    apply Nat.eq_of_testBit_eq
    intro i
    rw [Nat.testBit_xor, Nat.testBit_two_pow]
    have h63 : x.testBit 63 = fneg x := by
      unfold fneg
      rw [Nat.testBit_eq_decide_div_mod_eq]
      show decide (x / 9223372036854775808 % 2 = 1) = _
      by_cases h : x / 9223372036854775808 % 2 = 1 <;> simp [h]
    have hx : x = 2 ^ 63 * (fneg x).toNat + frung x := by
      have := word_parts x h
      have e : Ieee.double.word (fneg x) (frung x) = if fneg x then 9223372036854775808 + frung x else frung x := rfl
      rw [e] at this
      rw [show (2 : Nat) ^ 63 = 9223372036854775808 from by decide]
      cases hf : fneg x <;> simp [hf] at this ⊢ <;> omega
    have hr : frung x < 2 ^ 63 := Nat.mod_lt _ (by decide)
    have hf : flipN x = 2 ^ 63 * (!(fneg x)).toNat + frung x := by
      unfold flipN
      rw [show (2 : Nat) ^ 63 = 9223372036854775808 from by decide] at hx ⊢
      cases hf : fneg x <;> simp [hf] at hx ⊢ <;> omega
    rw [hf]
    generalize fneg x = s at *
    generalize frung x = r at *
    rw [hx]
    rw [Nat.testBit_two_pow_mul_add _ hr, Nat.testBit_two_pow_mul_add _ hr]
    by_cases hi : i < 63
    · rw [if_pos hi, if_pos hi, decide_eq_false (by omega)]; simp
    · rw [if_neg hi, if_neg hi]
      by_cases hi2 : i = 63
      · subst hi2; cases s <;> rfl
      · obtain ⟨k, rfl⟩ : ∃ k, i = 64 + k := ⟨i - 64, by omega⟩
        rw [decide_eq_false (by omega), show 64 + k - 63 = k + 1 by omega]
        cases s <;> simp [Nat.testBit_succ]
  rw [e]
/-- What FloatOp answers. -/
def foV (op : Int) (a b : Nat) : Nat :=
  if op < 1 ∨ 6 < op then 0 else if op = 1 then sumV a b else if op = 2 then (if isN b = true then 9221120237041090560 else sumV a (flipN b)) else if op = 3 then timesV a b else if frung b = 0 then 0 else if op = 4 then overV a b else if op = 5 then flV (overV a b) else if isN (timesV b (flV (overV a b))) = true then 9221120237041090560 else sumV a (flipN (timesV b (flV (overV a b))))
def foC (op : Int) (b : Nat) : Int := if op < 1 ∨ 6 < op then 1 else if op ≤ 3 then 0 else if frung b = 0 then 2 else 0
theorem timesV_lt (a b : Nat) : timesV a b < 18446744073709551616 := by
  unfold timesV
  split
  · decide
  · split
    · exact setN_lt _ _ (by decide)
    · exact rndV_lt _ (Nat.mul_pos lowP_pos lowP_pos)
theorem flV_lt {x : Nat} (h : x < 18446744073709551616) : flV x < 18446744073709551616 := by
  unfold flV
  split
  · exact h
  · exact rndV_lt _ (by decide)
set_option maxRecDepth 100000 in
set_option maxHeartbeats 1500000 in
theorem floatOpS_any (op : Int) (a b : Nat) (w : World) (ha : a < 18446744073709551616) (hb : b < 18446744073709551616) :
    Calls Tryd.prog 11 #[.int .i64 op, .int .u64 a, .int .u64 b] w fun e w' => e = .returned (.tuple #[.int .u64 (foV op a b : Nat), .int .i64 (foC op b)]) ∧ Below w.heap.size w w' := by
  by_cases h1 : op < 1
  · have e1 : foV op a b = 0 := by unfold foV; rw [if_pos (.inl h1)]
    have e2 : foC op b = 1 := by unfold foC; rw [if_pos (.inl h1)]
    rw [e1, e2]
    go_enter Tryd.func11, Tryd.ntmps11
    go_wp2
    exact bodyPost_ret (v := .tuple #[.int .u64 (0 : Nat), .int .i64 1]) (by simp [results, Tryd.results11, go_sem]) rfl ⟨rfl, Below.refl _ _⟩
  · by_cases h6 : 6 < op
    · have e1 : foV op a b = 0 := by unfold foV; rw [if_pos (.inr h6)]
      have e2 : foC op b = 1 := by unfold foC; rw [if_pos (.inr h6)]
      rw [e1, e2]
      go_enter Tryd.func11, Tryd.ntmps11
      go_wp2
      exact bodyPost_ret (v := .tuple #[.int .u64 (0 : Nat), .int .i64 1]) (by simp [results, Tryd.results11, go_sem]) rfl ⟨rfl, Below.refl _ _⟩
    · have hops : op = 1 ∨ op = 2 ∨ op = 3 ∨ op = 4 ∨ op = 5 ∨ op = 6 := by omega
      clear h1 h6
      rcases hops with rfl | rfl | rfl | rfl | rfl | rfl
      · have HS := fun W : World => sumS_any a b W ha hb
        have e1 : foV 1 a b = sumV a b := by unfold foV; rw [if_neg (by decide), if_pos rfl]
        have e2 : foC 1 b = 0 := by unfold foC; rw [if_neg (by decide), if_pos (by decide)]
        rw [e1, e2]
        generalize sumV a b = V at *
        go_enter Tryd.func11, Tryd.ntmps11
        go_wp2_with fail
        refine (HS _).mono ?_
        rintro e w1 ⟨rfl, b1⟩
        go_wp2
        exact bodyPost_ret (v := .tuple #[.int .u64 (V : Nat), .int .i64 0]) (by simp [results, Tryd.results11, go_sem]) rfl ⟨rfl, b1⟩
      · have HX := fun W : World => isNanS_any (b : Int) W (by omega) (by omega)
        simp only [Int.toNat_natCast] at HX
        have HS := fun W : World => sumS_any a (flipN b) W ha (flip_facts b hb).1
        have e1 : foV 2 a b = if isN b = true then 9221120237041090560 else sumV a (flipN b) := by unfold foV; rw [if_neg (by decide), if_neg (by decide), if_pos rfl]
        have e2 : foC 2 b = 0 := by unfold foC; rw [if_neg (by decide), if_pos (by decide)]
        rw [e1, e2]
        have hx := flip_xor b hb
        generalize sumV a (flipN b) = V at *
        generalize flipN b = fb at *
        cases h : isN b
        · rw [if_neg (by decide)]
          simp only [h] at HX
          go_enter Tryd.func11, Tryd.ntmps11
          go_wp2_with fail
          refine (HX _).mono ?_
          rintro e w1 ⟨rfl, hw1⟩
          rw [hw1]
          clear hw1 w1
          go_wp2_with fail
          refine (HS _).mono ?_
          rintro e w1 ⟨rfl, b1⟩
          go_wp2
          exact bodyPost_ret (v := .tuple #[.int .u64 (V : Nat), .int .i64 0]) (by simp [results, Tryd.results11, go_sem]) rfl ⟨rfl, b1⟩
        · rw [if_pos rfl]
          simp only [h] at HX
          go_enter Tryd.func11, Tryd.ntmps11
          go_wp2_with fail
          refine (HX _).mono ?_
          rintro e w1 ⟨rfl, hw1⟩
          rw [hw1]
          clear hw1 w1
          go_wp2
          exact bodyPost_ret (v := .tuple #[.int .u64 (9221120237041090560 : Nat), .int .i64 0]) (by simp [results, Tryd.results11, go_sem]) rfl ⟨rfl, Below.refl _ _⟩
      · have HS := fun W : World => timesS_any a b W ha hb
        have e1 : foV 3 a b = timesV a b := by unfold foV; rw [if_neg (by decide), if_neg (by decide), if_neg (by decide), if_pos rfl]
        have e2 : foC 3 b = 0 := by unfold foC; rw [if_neg (by decide), if_pos (by decide)]
        rw [e1, e2]
        generalize timesV a b = V at *
        go_enter Tryd.func11, Tryd.ntmps11
        go_wp2_with fail
        refine (HS _).mono ?_
        rintro e w1 ⟨rfl, b1⟩
        go_wp2
        exact bodyPost_ret (v := .tuple #[.int .u64 (V : Nat), .int .i64 0]) (by simp [results, Tryd.results11, go_sem]) rfl ⟨rfl, b1⟩
      · have HZ := fun W : World => isZeroS_any (b : Int) W (by omega) (by omega)
        simp only [Int.toNat_natCast] at HZ
        by_cases hz : frung b = 0
        · have e1 : foV 4 a b = 0 := by unfold foV; rw [if_neg (by decide), if_neg (by decide), if_neg (by decide), if_neg (by decide), if_pos hz]
          have e2 : foC 4 b = 2 := by unfold foC; rw [if_neg (by decide), if_neg (by decide), if_pos hz]
          rw [e1, e2]
          simp only [hz, decide_true] at HZ
          go_enter Tryd.func11, Tryd.ntmps11
          go_wp2_with fail
          refine (HZ _).mono ?_
          rintro e w1 ⟨rfl, hw1⟩
          rw [hw1]
          clear hw1 w1
          go_wp2
          exact bodyPost_ret (v := .tuple #[.int .u64 (0 : Nat), .int .i64 2]) (by simp [results, Tryd.results11, go_sem]) rfl ⟨rfl, Below.refl _ _⟩
        · have e2 : foC 4 b = 0 := by unfold foC; rw [if_neg (by decide), if_neg (by decide), if_neg hz]
          have HO := fun W : World => overS_any a b W ha hb hz
          have lq := overV_lt (a := a) hz
          have e1 : foV 4 a b = overV a b := by unfold foV; rw [if_neg (by decide), if_neg (by decide), if_neg (by decide), if_neg (by decide), if_neg hz, if_pos rfl]
          rw [e1, e2]
          simp only [hz, decide_false] at HZ
          generalize overV a b = q at *
          clear e1 e2 hz
          go_enter Tryd.func11, Tryd.ntmps11
          go_wp2_with fail
          refine (HZ _).mono ?_
          rintro e w1 ⟨rfl, hw1⟩
          rw [hw1]
          clear hw1 w1
          go_wp2_with fail
          refine (HO _).mono ?_
          rintro e w1 ⟨rfl, b1⟩
          go_wp2
          exact bodyPost_ret (v := .tuple #[.int .u64 (q : Nat), .int .i64 0]) (by simp [results, Tryd.results11, go_sem]) rfl ⟨rfl, b1⟩
      · have HZ := fun W : World => isZeroS_any (b : Int) W (by omega) (by omega)
        simp only [Int.toNat_natCast] at HZ
        by_cases hz : frung b = 0
        · have e1 : foV 5 a b = 0 := by unfold foV; rw [if_neg (by decide), if_neg (by decide), if_neg (by decide), if_neg (by decide), if_pos hz]
          have e2 : foC 5 b = 2 := by unfold foC; rw [if_neg (by decide), if_neg (by decide), if_pos hz]
          rw [e1, e2]
          simp only [hz, decide_true] at HZ
          go_enter Tryd.func11, Tryd.ntmps11
          go_wp2_with fail
          refine (HZ _).mono ?_
          rintro e w1 ⟨rfl, hw1⟩
          rw [hw1]
          clear hw1 w1
          go_wp2
          exact bodyPost_ret (v := .tuple #[.int .u64 (0 : Nat), .int .i64 2]) (by simp [results, Tryd.results11, go_sem]) rfl ⟨rfl, Below.refl _ _⟩
        · have e2 : foC 5 b = 0 := by unfold foC; rw [if_neg (by decide), if_neg (by decide), if_neg hz]
          have HO := fun W : World => overS_any a b W ha hb hz
          have lq := overV_lt (a := a) hz
          have e1 : foV 5 a b = flV (overV a b) := by unfold foV; rw [if_neg (by decide), if_neg (by decide), if_neg (by decide), if_neg (by decide), if_neg hz, if_neg (by decide), if_pos rfl]
          rw [e1, e2]
          simp only [hz, decide_false] at HZ
          have HF := fun W : World => floorOfS_any (overV a b) W lq
          generalize overV a b = q at *
          generalize flV q = fl at *
          clear e1 e2 hz
          go_enter Tryd.func11, Tryd.ntmps11
          go_wp2_with fail
          refine (HZ _).mono ?_
          rintro e w1 ⟨rfl, hw1⟩
          rw [hw1]
          clear hw1 w1
          go_wp2_with fail
          refine (HO _).mono ?_
          rintro e w1 ⟨rfl, b1⟩
          go_wp2_with fail
          refine (HF _).mono ?_
          rintro e w2 ⟨rfl, b2⟩
          have V2 := b1.trans (b2.mono b1.size)
          go_wp2
          exact bodyPost_ret (v := .tuple #[.int .u64 (fl : Nat), .int .i64 0]) (by simp [results, Tryd.results11, go_sem]) rfl ⟨rfl, V2⟩
      · have HZ := fun W : World => isZeroS_any (b : Int) W (by omega) (by omega)
        simp only [Int.toNat_natCast] at HZ
        by_cases hz : frung b = 0
        · have e1 : foV 6 a b = 0 := by unfold foV; rw [if_neg (by decide), if_neg (by decide), if_neg (by decide), if_neg (by decide), if_pos hz]
          have e2 : foC 6 b = 2 := by unfold foC; rw [if_neg (by decide), if_neg (by decide), if_pos hz]
          rw [e1, e2]
          simp only [hz, decide_true] at HZ
          go_enter Tryd.func11, Tryd.ntmps11
          go_wp2_with fail
          refine (HZ _).mono ?_
          rintro e w1 ⟨rfl, hw1⟩
          rw [hw1]
          clear hw1 w1
          go_wp2
          exact bodyPost_ret (v := .tuple #[.int .u64 (0 : Nat), .int .i64 2]) (by simp [results, Tryd.results11, go_sem]) rfl ⟨rfl, Below.refl _ _⟩
        · have e2 : foC 6 b = 0 := by unfold foC; rw [if_neg (by decide), if_neg (by decide), if_neg hz]
          have HO := fun W : World => overS_any a b W ha hb hz
          have lq := overV_lt (a := a) hz
          have e1 : foV 6 a b = if isN (timesV b (flV (overV a b))) = true then 9221120237041090560 else sumV a (flipN (timesV b (flV (overV a b)))) := by unfold foV; rw [if_neg (by decide), if_neg (by decide), if_neg (by decide), if_neg (by decide), if_neg hz, if_neg (by decide), if_neg (by decide)]
          rw [e1, e2]
          simp only [hz, decide_false] at HZ
          have HF := fun W : World => floorOfS_any (overV a b) W lq
          have lf := flV_lt lq
          have HT := fun W : World => timesS_any b (flV (overV a b)) W hb lf
          generalize overV a b = q at *
          generalize flV q = fl at *
          have lt := timesV_lt b fl
          generalize timesV b fl = t at *
          have HX := fun W : World => isNanS_any (t : Int) W (by omega) (by omega)
          simp only [Int.toNat_natCast] at HX
          have HS := fun W : World => sumS_any a (flipN t) W ha (flip_facts t lt).1
          have hx := flip_xor t lt
          generalize sumV a (flipN t) = V at *
          generalize flipN t = ft at *
          clear e1 e2 hz
          cases h : isN t
          · rw [if_neg (by decide)]
            simp only [h] at HX
            go_enter Tryd.func11, Tryd.ntmps11
            go_wp2_with fail
            refine (HZ _).mono ?_
            rintro e w1 ⟨rfl, hw1⟩
            rw [hw1]
            clear hw1 w1
            go_wp2_with fail
            refine (HO _).mono ?_
            rintro e w1 ⟨rfl, b1⟩
            go_wp2_with fail
            refine (HF _).mono ?_
            rintro e w2 ⟨rfl, b2⟩
            have V2 := b1.trans (b2.mono b1.size)
            go_wp2_with fail
            refine (HT _).mono ?_
            rintro e w3 ⟨rfl, b3⟩
            have V3 := V2.trans (b3.mono V2.size)
            go_wp2_with fail
            refine (HX _).mono ?_
            rintro e w4 ⟨rfl, hw4⟩
            rw [hw4]
            clear hw4 w4
            go_wp2_with fail
            refine (HS _).mono ?_
            rintro e w5 ⟨rfl, b5⟩
            have V5 := V3.trans (b5.mono V3.size)
            go_wp2
            exact bodyPost_ret (v := .tuple #[.int .u64 (V : Nat), .int .i64 0]) (by simp [results, Tryd.results11, go_sem]) rfl ⟨rfl, V5⟩
          · rw [if_pos rfl]
            simp only [h] at HX
            go_enter Tryd.func11, Tryd.ntmps11
            go_wp2_with fail
            refine (HZ _).mono ?_
            rintro e w1 ⟨rfl, hw1⟩
            rw [hw1]
            clear hw1 w1
            go_wp2_with fail
            refine (HO _).mono ?_
            rintro e w1 ⟨rfl, b1⟩
            go_wp2_with fail
            refine (HF _).mono ?_
            rintro e w2 ⟨rfl, b2⟩
            have V2 := b1.trans (b2.mono b1.size)
            go_wp2_with fail
            refine (HT _).mono ?_
            rintro e w3 ⟨rfl, b3⟩
            have V3 := V2.trans (b3.mono V2.size)
            go_wp2_with fail
            refine (HX _).mono ?_
            rintro e w4 ⟨rfl, hw4⟩
            rw [hw4]
            clear hw4 w4
            go_wp2
            exact bodyPost_ret (v := .tuple #[.int .u64 (9221120237041090560 : Nat), .int .i64 0]) (by simp [results, Tryd.results11, go_sem]) rfl ⟨rfl, V3⟩
end Go.Proofs.YtfcoffllelgakaaDoor
