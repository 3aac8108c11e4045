import Derived.Test.YtfcoffllelgakaaDoorNrU
import Derived.BigQuiet
namespace Go.Proofs.YtfcoffllelgakaaDoor
open Go.RowKit
set_option linter.unusedVariables false
set_option linter.unusedSimpArgs false

theorem below_dn2 {B : Nat} {a w : World} (h : Below B a w) (n : Nat) : Below B a (w.drewN n) := h.trans ⟨rfl, rfl, rfl, Nat.le_refl _, fun _ _ => rfl⟩
theorem fu_zero {x : Nat} (h : frung x = 0) : fu x = 0 := by
  rw [fu_eq, (fmag_zero x).2 h, Nat.zero_mul]
theorem ord_zero {r : Nat} (h : frung r = 0) : Ieee.double.order r 0 = some .eq := by
  rw [order_fin r 0 (by omega) (by decide), fu_zero h, fu_zero (x := 0) rfl]
  cases fneg r <;> rfl
theorem ord_nonzero {r : Nat} (h : ¬ frung r = 0) (hn : isN r = false) : Ieee.double.order r 0 = some .lt ∨ Ieee.double.order r 0 = some .gt := by
  by_cases hi : isI r = true
  · rw [order_inf_num r 0 (isI_iff.1 hi) (by decide)]
    cases fneg r
    · exact .inr rfl
    · exact .inl rfl
  · have hr := isN_lt hn (by revert hi; cases isI r <;> simp)
    have hp := fu_pos h
    rw [order_fin r 0 hr (by decide), fu_zero (x := 0) rfl]
    have h0 : sgn (fneg 0) 0 = 0 := by cases fneg 0 <;> rfl
    rw [h0]
    cases fneg r
    · right
      have : sgn false (fu r) = (fu r : Int) := rfl
      rw [this, Int.compare_eq_gt.2 (by omega)]
    · left
      have : sgn true (fu r) = -(fu r : Int) := rfl
      rw [this, Int.compare_eq_lt.2 (by omega)]
theorem nanQuo (x y : Nat) (h : Ieee.double.div x y = none) (t : TypeId) (w : World) : (binOp .quo t (.float .f64 x) (.float .f64 y)).run Tryd.prog w = .ok (.float .f64 (nanV x y w)) w.drew := by
  have h2 : FloatKind.f64.format.div x y = none := h
  simp [binOp, Op.floatArith, h2, Question.forced, nanV]
theorem nanV_lt (x y : Nat) (w : World) : nanV x y w < 18446744073709551616 := by
  unfold nanV
  generalize w.tape w.drawn (.nanBits .f64 x y) = t
  have e : Question.cut (.nanBits .f64 x y) t = (t % 2) * 9223372036854775808 + 9218868437227405312 + 1 + (t / 2) % 4503599627370495 := rfl
  have h : (t / 2) % 4503599627370495 < 4503599627370495 := Nat.mod_lt _ (by decide)
  rw [e]
  generalize (t / 2) % 4503599627370495 = f at h ⊢
  rcases (by omega : t % 2 = 0 ∨ t % 2 = 1) with h1 | h1 <;> rw [h1] <;> omega
theorem fbN_nan {r : Nat} (h : isN r = true) : fbN r = 9221120237041090560 := by unfold fbN; rw [if_pos h]
/-- What a quotient is. -/
def QuoP (aZ : Addr) (x y : Nat) (r : Nat) (v : Value) : Prop := (frung y = 0 ∧ v = errAt aZ ∧ r = 0) ∨ (¬ frung y = 0 ∧ v = .nilIface ∧ fbN r = overV x y)
set_option maxRecDepth 100000 in
theorem quotient_any (x y : Nat) (aA aZ aL : Addr) (w : World) (hE : Errs w aA aZ aL) (hx : x < 18446744073709551616) (hy : y < 18446744073709551616) :
    Calls Tryd.prog 69 #[.float .f64 x, .float .f64 y] w fun e w' => ∃ r v, e = .returned (.tuple #[.float .f64 r, v]) ∧ Below w.heap.size w w' ∧ r < 18446744073709551616 ∧ QuoP aZ x y r v := by
  obtain ⟨⟨g1, g2, g3⟩, -⟩ := id hE
  by_cases hz : frung y = 0
  · have h1 : FloatKind.f64.format.order y 0 = some .eq := ord_zero hz
    go_enter Tryd.func69, Tryd.ntmps69
    go_wp2_with fail
    go_quiet (fail)
    go_wp2
    all_goals exact bodyPost_ret (v := .tuple #[.float .f64 0, errAt aZ]) (by simp [results, Tryd.results69, go_sem]) rfl ⟨0, _, rfl, by first | exact Below.refl _ _ | exact (Below.refl _ _).drew | exact below_dn2 (Below.refl _ _) _, by decide, .inl ⟨hz, rfl, rfl⟩⟩
  · have hq := over_eq x y hx hy hz
    have h1 : FloatKind.f64.format.order y 0 = some .lt ∨ FloatKind.f64.format.order y 0 = some .gt ∨ FloatKind.f64.format.order y 0 = none := by
      cases hn : isN y
      · rcases ord_nonzero hz hn with h | h
        · exact .inl h
        · exact .inr (.inl h)
      · exact .inr (.inr (order_nan_left y 0 (isN_iff.1 hn)))
    generalize hV : overV x y = V at *
    have HV : Hid (overV x y = V) := hV
    clear hV
    cases h : Ieee.double.div x y with
    | some r =>
      have h2 : floatBits .quo .f64 x y = some r := h
      have h3 := fun t W => run_float_arith (P := Tryd.prog) W .quo t .f64 x y r h2
      have hlt : r < 18446744073709551616 := Ieee.Format.div_lt Ieee.double h
      rw [h] at hq
      have hq2 : fbN r = V := hq
      clear hq h h2
      rcases h1 with h1 | h1 | h1 <;>
      · go_enter Tryd.func69, Tryd.ntmps69
        go_wp2
        exact bodyPost_ret (v := .tuple #[.float .f64 r, .nilIface]) (by simp [results, Tryd.results69, go_sem]) rfl ⟨r, _, rfl, Below.refl _ _, hlt, .inr ⟨hz, rfl, hq2.trans HV.out.symm⟩⟩
    | none =>
      have h3 := fun t W => nanQuo x y h t W
      have hn := nanV_isN x y w
      have hlt := nanV_lt x y w
      rw [h] at hq
      have hq2 : fbN (nanV x y w) = V := by rw [fbN_nan hn]; exact hq
      clear hq h
      rcases h1 with h1 | h1 | h1 <;>
      · go_enter Tryd.func69, Tryd.ntmps69
        go_wp2
        exact bodyPost_ret (v := .tuple #[.float .f64 (nanV x y w), .nilIface]) (by simp [results, Tryd.results69, go_sem]) rfl ⟨_, _, rfl, (Below.refl _ _).drew, hlt, .inr ⟨hz, rfl, hq2.trans HV.out.symm⟩⟩
/-- The floor of a float that is no NaN. -/
def floorW (x : Nat) : Nat := Ieee.double.write ((Ieee.double.read x).integral .down)
theorem quiet_nz (t : Nat) : 0 < (t ||| 2251799813685248) % 4503599627370496 := by
  have e : ((t ||| 2251799813685248) % 2 ^ 52).testBit 51 = true := by
    rw [Nat.testBit_mod_two_pow, Nat.testBit_or, show (2251799813685248 : Nat) = 2 ^ 51 from by decide, Nat.testBit_two_pow_self, Bool.or_true]
    rfl
  rw [show (4503599627370496 : Nat) = 2 ^ 52 from by decide]
  rcases Nat.eq_zero_or_pos ((t ||| 2251799813685248) % 2 ^ 52) with h | h
  · rw [h, Nat.zero_testBit] at e; cases e
  · exact h
theorem enc_nan (s : Bool) (t : Nat) : isN (FloatKind.f64.encode (.nan s (FloatKind.f64.format.quiet t))) = true ∧ FloatKind.f64.encode (.nan s (FloatKind.f64.format.quiet t)) < 18446744073709551616 := by
  have h := quiet_nz t
  have h2 : (t ||| 2251799813685248) % 4503599627370496 < 4503599627370496 := Nat.mod_lt _ (by decide)
  have e : FloatKind.f64.encode (.nan s (FloatKind.f64.format.quiet t)) = Ieee.double.word s (9218868437227405312 + (t ||| 2251799813685248) % 4503599627370496) := rfl
  rw [e]
  generalize (t ||| 2251799813685248) % 4503599627370496 = f at h h2
  refine ⟨?_, word_lt _ _ (by omega)⟩
  rw [isN_iff, (word_eq s _ (by omega)).2]
  omega
theorem archFloor_num (x : Nat) (w : World) (h : isN x = false) : (callFunc 101 #[.float .f64 x]).run Tryd.prog w = .ok (.value (.float .f64 (floorW x))) w := by
  rw [run_callFunc_extern (e := Extern.MathFloor.toIntegral "math.archFloor" .down) Tryd.func101 (by kernel_rfl) (by kernel_rfl) (by kernel_rfl) (by kernel_rfl)]
  have e5 : (Extern.MathFloor.toIntegral "math.archFloor" .down #[.float .f64 x]).run Tryd.prog w = .ok (.float .f64 (floorW x)) w := by
    show Sem.run Tryd.prog (Go.Extern.MathFloor.toIntegral.match_1 (fun _ => Sem Value) (FloatKind.f64.decode x) _ _) w = _
    by_cases hi : isI x = true
    · have e : FloatKind.f64.decode x = .infinity (fneg x) := read_inf x (isI_iff.1 hi)
      have e2 : floorW x = FloatKind.f64.encode ((Ieee.Datum.infinity (fneg x)).integral .down) := by
        unfold floorW; rw [read_inf x (isI_iff.1 hi)]; rfl
      rw [e, e2]; rfl
    · have hr := isN_lt h (by revert hi; cases isI x <;> simp)
      have e : FloatKind.f64.decode x = .number (fneg x) (fmag x) (fpl x) := read_num x hr
      have e2 : floorW x = FloatKind.f64.encode ((Ieee.Datum.number (fneg x) (fmag x) (fpl x)).integral .down) := by
        unfold floorW; rw [read_num x hr]; rfl
      rw [e, e2]; rfl
  rw [e5]
  rfl
theorem archFloor_nan (x : Nat) (w : World) (hx : x < 18446744073709551616) (h : isN x = true) : ∃ r, isN r = true ∧ r < 18446744073709551616 ∧ ((callFunc 101 #[.float .f64 x]).run Tryd.prog w = .ok (.value (.float .f64 r)) w ∨ (callFunc 101 #[.float .f64 x]).run Tryd.prog w = .ok (.value (.float .f64 r)) w.drew) := by
  rw [run_callFunc_extern (e := Extern.MathFloor.toIntegral "math.archFloor" .down) Tryd.func101 (by kernel_rfl) (by kernel_rfl) (by kernel_rfl) (by kernel_rfl)]
  have e : FloatKind.f64.decode x = .nan (fneg x) (frung x - 9218868437227405312) := read_nan x (isN_iff.1 h)
  generalize frung x - 9218868437227405312 = t at e
  obtain ⟨n1, n2⟩ := enc_nan (fneg x) t
  have e5 : (∃ r, isN r = true ∧ r < 18446744073709551616 ∧ ((Extern.MathFloor.toIntegral "math.archFloor" .down #[.float .f64 x]).run Tryd.prog w = .ok (.float .f64 r) w ∨ (Extern.MathFloor.toIntegral "math.archFloor" .down #[.float .f64 x]).run Tryd.prog w = .ok (.float .f64 r) w.drew)) := by
    by_cases hq : FloatKind.f64.format.quiet t = t
    · refine ⟨x, h, hx, .inl ?_⟩
      show Sem.run Tryd.prog (Go.Extern.MathFloor.toIntegral.match_1 (fun _ => Sem Value) (FloatKind.f64.decode x) _ _) w = _
      rw [e]
      show Sem.run Tryd.prog (if FloatKind.f64.format.quiet t = t then pure (Value.float .f64 x) else _) w = _
      rw [if_pos hq]; rfl
    · refine ⟨if ((w.tape w.drawn (.extern "math.Floor,Ceil,Trunc,RoundToEven.signallingNaN kept" 2)) % 2 == 1) = true then x else FloatKind.f64.encode (.nan (fneg x) (FloatKind.f64.format.quiet t)), ?_, ?_, .inr ?_⟩
      · split
        · exact h
        · exact n1
      · split
        · exact hx
        · exact n2
      · show Sem.run Tryd.prog (Go.Extern.MathFloor.toIntegral.match_1 (fun _ => Sem Value) (FloatKind.f64.decode x) _ _) w = _
        rw [e]
        show Sem.run Tryd.prog (if FloatKind.f64.format.quiet t = t then pure (Value.float .f64 x) else _) w = _
        rw [if_neg hq]; rfl
  obtain ⟨r, h1, h2, h3 | h3⟩ := e5
  · exact ⟨r, h1, h2, .inl (by rw [h3]; rfl)⟩
  · exact ⟨r, h1, h2, .inr (by rw [h3]; rfl)⟩
set_option maxRecDepth 100000 in
theorem floor_any (x : Nat) (w : World) (hx : x < 18446744073709551616) :
    Calls Tryd.prog 94 #[.float .f64 x] w fun e w' => ∃ r, e = .returned (.float .f64 r) ∧ Below w.heap.size w w' ∧ r < 18446744073709551616 ∧ (isN x = true → isN r = true) ∧ (isN x = false → r = floorW x) := by
  cases h : isN x
  · have hR := archFloor_num x w h
    have hlt : floorW x < 18446744073709551616 := Ieee.Format.write_lt Ieee.double _
    generalize hF : floorW x = F at *
    have HF : Hid (floorW x = F) := hF
    clear hF
    go_enter Tryd.func94, Tryd.ntmps94
    go_wp2
    go_ret
    exact ⟨F, rfl, Below.refl _ _, by simp [hlt]⟩
  · obtain ⟨r, h1, h2, hR | hR⟩ := archFloor_nan x w hx h
    · go_enter Tryd.func94, Tryd.ntmps94
      go_wp2
      go_ret
      exact ⟨r, rfl, Below.refl _ _, by simp [h1, h2]⟩
    · go_enter Tryd.func94, Tryd.ntmps94
      go_wp2
      go_ret
      exact ⟨r, rfl, (Below.refl _ _).drew, by simp [h1, h2]⟩
end Go.Proofs.YtfcoffllelgakaaDoor
