import Derived.Test.YtfcoffllelgakaaDoorNrU
import Derived.BigQuiet
namespace Go.Proofs.YtfcoffllelgakaaDoor
open Go.RowKit
set_option linter.unusedVariables false
set_option linter.unusedSimpArgs false

theorem below_dn2 {B : Nat} {a w : World} (h : Below B a w) (n : Nat) : Below B a (w.drewN n) := h.trans ⟨rfl, rfl, rfl, Nat.le_refl _, fun _ _ => rfl⟩
theorem fu_zero {x : Nat} (h : frung x = 0) : fu x = 0 := by
  rw [fu_eq, (fmag_zero x).2 h, Nat.zero_mul]
theorem ord_zero {r : Nat} (h : frung r = 0) : Ieee.double.order r 0 = some .eq := by
  rw [order_fin r 0 (by omega) (by decide), fu_zero h, fu_zero (x := 0) rfl]
  cases fneg r <;> rfl
theorem ord_nonzero {r : Nat} (h : ¬ frung r = 0) (hn : isN r = false) : Ieee.double.order r 0 = some .lt ∨ Ieee.double.order r 0 = some .gt := by
  by_cases hi : isI r = true
  · rw [order_inf_num r 0 (isI_iff.1 hi) (by decide)]
    cases fneg r
    · exact .inr rfl
    · exact .inl rfl
  · have hr := isN_lt hn (by revert hi; cases isI r <;> simp)
    have hp := fu_pos h
    rw [order_fin r 0 hr (by decide), fu_zero (x := 0) rfl]
    have h0 : sgn (fneg 0) 0 = 0 := by cases fneg 0 <;> rfl
    rw [h0]
    cases fneg r
    · right
      have : sgn false (fu r) = (fu r : Int) := rfl
      rw [this, Int.compare_eq_gt.2 (by omega)]
    · left
      have : sgn true (fu r) = -(fu r : Int) := rfl
      rw [this, Int.compare_eq_lt.2 (by omega)]
theorem nanQuo (x y : Nat) (h : Ieee.double.div x y = none) (t : TypeId) (w : World) : (binOp .quo t (.float .f64 x) (.float .f64 y)).run Tryd.prog w = .ok (.float .f64 (nanV x y w)) w.drew := by
  have h2 : FloatKind.f64.format.div x y = none := h
  simp [binOp, Op.floatArith, h2, Question.forced, nanV]
theorem nanV_lt (x y : Nat) (w : World) : nanV x y w < 18446744073709551616 := by
  unfold nanV
  generalize w.tape w.drawn (.nanBits .f64 x y) = t
  have e : Question.cut (.nanBits .f64 x y) t = (t % 2) * 9223372036854775808 + 9218868437227405312 + 1 + (t / 2) % 4503599627370495 := rfl
  have h : (t / 2) % 4503599627370495 < 4503599627370495 := Nat.mod_lt _ (by decide)
  rw [e]
  generalize (t / 2) % 4503599627370495 = f at h ⊢
  rcases (by omega : t % 2 = 0 ∨ t % 2 = 1) with h1 | h1 <;> rw [h1] <;> omega
theorem fbN_nan {r : Nat} (h : isN r = true) : fbN r = 9221120237041090560 := by unfold fbN; rw [if_pos h]
/-- What a quotient is. -/
def QuoP (aZ : Addr) (x y : Nat) (r : Nat) (v : Value) : Prop := (frung y = 0 ∧ v = errAt aZ ∧ r = 0) ∨ (¬ frung y = 0 ∧ v = .nilIface ∧ fbN r = overV x y)
set_option maxRecDepth 100000 in
theorem quotient_any (x y : Nat) (aA aZ aL : Addr) (w : World) (hE : Errs w aA aZ aL) (hx : x < 18446744073709551616) (hy : y < 18446744073709551616) :
    Calls Tryd.prog 69 #[.float .f64 x, .float .f64 y] w fun e w' => ∃ r v, e = .returned (.tuple #[.float .f64 r, v]) ∧ Below w.heap.size w w' ∧ r < 18446744073709551616 ∧ QuoP aZ x y r v := by
  obtain ⟨⟨g1, g2, g3⟩, -⟩ := id hE
  by_cases hz : frung y = 0
  · have h1 : FloatKind.f64.format.order y 0 = some .eq := ord_zero hz
    go_enter Tryd.func69, Tryd.ntmps69
    go_wp2_with fail
    go_quiet (fail)
    go_wp2
    all_goals exact bodyPost_ret (v := .tuple #[.float .f64 0, errAt aZ]) (by simp [results, Tryd.results69, go_sem]) rfl ⟨0, _, rfl, by first | exact Below.refl _ _ | exact (Below.refl _ _).drew | exact below_dn2 (Below.refl _ _) _, by decide, .inl ⟨hz, rfl, rfl⟩⟩
  · have hq := over_eq x y hx hy hz
    have h1 : FloatKind.f64.format.order y 0 = some .lt ∨ FloatKind.f64.format.order y 0 = some .gt ∨ FloatKind.f64.format.order y 0 = none := by
      cases hn : isN y
      · rcases ord_nonzero hz hn with h | h
        · exact .inl h
        · exact .inr (.inl h)
      · exact .inr (.inr (order_nan_left y 0 (isN_iff.1 hn)))
    generalize hV : overV x y = V at *
    have HV : Hid (overV x y = V) := hV
    clear hV
    cases h : Ieee.double.div x y with
    | some r =>
      have h2 : floatBits .quo .f64 x y = some r := h
      have h3 := fun t W => run_float_arith (P := Tryd.prog) W .quo t .f64 x y r h2
      have hlt : r < 18446744073709551616 := Ieee.Format.div_lt Ieee.double h
      rw [h] at hq
      have hq2 : fbN r = V := hq
      clear hq h h2
      rcases h1 with h1 | h1 | h1 <;>
      · go_enter Tryd.func69, Tryd.ntmps69
        go_wp2
        exact bodyPost_ret (v := .tuple #[.float .f64 r, .nilIface]) (by simp [results, Tryd.results69, go_sem]) rfl ⟨r, _, rfl, Below.refl _ _, hlt, .inr ⟨hz, rfl, hq2.trans HV.out.symm⟩⟩
    | none =>
      have h3 := fun t W => nanQuo x y h t W
      have hn := nanV_isN x y w
      have hlt := nanV_lt x y w
      rw [h] at hq
      have hq2 : fbN (nanV x y w) = V := by rw [fbN_nan hn]; exact hq
      clear hq h
      rcases h1 with h1 | h1 | h1 <;>
      · go_enter Tryd.func69, Tryd.ntmps69
        go_wp2
        exact bodyPost_ret (v := .tuple #[.float .f64 (nanV x y w), .nilIface]) (by simp [results, Tryd.results69, go_sem]) rfl ⟨_, _, rfl, (Below.refl _ _).drew, hlt, .inr ⟨hz, rfl, hq2.trans HV.out.symm⟩⟩
/-- The floor of a float that is no NaN. -/
def floorW (x : Nat) : Nat := Ieee.double.write ((Ieee.double.read x).integral .down)
theorem quiet_nz (t : Nat) : 0 < (t ||| 2251799813685248) % 4503599627370496 := by
  have e : ((t ||| 2251799813685248) % 2 ^ 52).testBit 51 = true := by
    rw [Nat.testBit_mod_two_pow, Nat.testBit_or, show (2251799813685248 : Nat) = 2 ^ 51 from by decide, Nat.testBit_two_pow_self, Bool.or_true]
    rfl
  rw [show (4503599627370496 : Nat) = 2 ^ 52 from by decide]
  rcases Nat.eq_zero_or_pos ((t ||| 2251799813685248) % 2 ^ 52) with h | h
  · rw [h, Nat.zero_testBit] at e; cases e
  · exact h
theorem enc_nan (s : Bool) (t : Nat) : isN (FloatKind.f64.encode (.nan s (FloatKind.f64.format.quiet t))) = true ∧ FloatKind.f64.encode (.nan s (FloatKind.f64.format.quiet t)) < 18446744073709551616 := by
  have h := quiet_nz t
  have h2 : (t ||| 2251799813685248) % 4503599627370496 < 4503599627370496 := Nat.mod_lt _ (by decide)
  have e : FloatKind.f64.encode (.nan s (FloatKind.f64.format.quiet t)) = Ieee.double.word s (9218868437227405312 + (t ||| 2251799813685248) % 4503599627370496) := rfl
  rw [e]
  generalize (t ||| 2251799813685248) % 4503599627370496 = f at h h2
  refine ⟨?_, word_lt _ _ (by omega)⟩
  rw [isN_iff, (word_eq s _ (by omega)).2]
  omega
theorem archFloor_num (x : Nat) (w : World) (h : isN x = false) : (callFunc 101 #[.float .f64 x]).run Tryd.prog w = .ok (.value (.float .f64 (floorW x))) w := by
  rw [run_callFunc_extern (e := Extern.MathFloor.toIntegral "math.archFloor" .down) Tryd.func101 (by kernel_rfl) (by kernel_rfl) (by kernel_rfl) (by kernel_rfl)]
  have e5 : (Extern.MathFloor.toIntegral "math.archFloor" .down #[.float .f64 x]).run Tryd.prog w = .ok (.float .f64 (floorW x)) w := by
    show Sem.run Tryd.prog (Go.Extern.MathFloor.toIntegral.match_1 (fun _ => Sem Value) (FloatKind.f64.decode x) _ _) w = _
    by_cases hi : isI x = true
    · have e : FloatKind.f64.decode x = .infinity (fneg x) := read_inf x (isI_iff.1 hi)
      have e2 : floorW x = FloatKind.f64.encode ((Ieee.Datum.infinity (fneg x)).integral .down) := by
        unfold floorW; rw [read_inf x (isI_iff.1 hi)]; rfl
      rw [e, e2]; rfl
    · have hr := isN_lt h (by revert hi; cases isI x <;> simp)
      have e : FloatKind.f64.decode x = .number (fneg x) (fmag x) (fpl x) := read_num x hr
      have e2 : floorW x = FloatKind.f64.encode ((Ieee.Datum.number (fneg x) (fmag x) (fpl x)).integral .down) := by
        unfold floorW; rw [read_num x hr]; rfl
      rw [e, e2]; rfl
  rw [e5]
  rfl
theorem archFloor_nan (x : Nat) (w : World) (hx : x < 18446744073709551616) (h : isN x = true) : ∃ r, isN r = true ∧ r < 18446744073709551616 ∧ ((callFunc 101 #[.float .f64 x]).run Tryd.prog w = .ok (.value (.float .f64 r)) w ∨ (callFunc 101 #[.float .f64 x]).run Tryd.prog w = .ok (.value (.float .f64 r)) w.drew) := by
  rw [run_callFunc_extern (e := Extern.MathFloor.toIntegral "math.archFloor" .down) Tryd.func101 (by kernel_rfl) (by kernel_rfl) (by kernel_rfl) (by kernel_rfl)]
  have e : FloatKind.f64.decode x = .nan (fneg x) (frung x - 9218868437227405312) := read_nan x (isN_iff.1 h)
  generalize frung x - 9218868437227405312 = t at e
  obtain ⟨n1, n2⟩ := enc_nan (fneg x) t
  have e5 : (∃ r, isN r = true ∧ r < 18446744073709551616 ∧ ((Extern.MathFloor.toIntegral "math.archFloor" .down #[.float .f64 x]).run Tryd.prog w = .ok (.float .f64 r) w ∨ (Extern.MathFloor.toIntegral "math.archFloor" .down #[.float .f64 x]).run Tryd.prog w = .ok (.float .f64 r) w.drew)) := by
    by_cases hq : FloatKind.f64.format.quiet t = t
    · refine ⟨x, h, hx, .inl ?_⟩
      show Sem.run Tryd.prog (Go.Extern.MathFloor.toIntegral.match_1 (fun _ => Sem Value) (FloatKind.f64.decode x) _ _) w = _
      rw [e]
      show Sem.run Tryd.prog (if FloatKind.f64.format.quiet t = t then pure (Value.float .f64 x) else _) w = _
      rw [if_pos hq]; rfl
    · refine ⟨if ((w.tape w.drawn (.extern "math.Floor,Ceil,Trunc,RoundToEven.signallingNaN kept" 2)) % 2 == 1) = true then x else FloatKind.f64.encode (.nan (fneg x) (FloatKind.f64.format.quiet t)), ?_, ?_, .inr ?_⟩
      · split
        · exact h
        · exact n1
      · split
        · exact hx
        · exact n2
      · show Sem.run Tryd.prog (Go.Extern.MathFloor.toIntegral.match_1 (fun _ => Sem Value) (FloatKind.f64.decode x) _ _) w = _
        rw [e]
        show Sem.run Tryd.prog (if FloatKind.f64.format.quiet t = t then pure (Value.float .f64 x) else _) w = _
        rw [if_neg hq]; rfl
  obtain ⟨r, h1, h2, h3 | h3⟩ := e5
  · exact ⟨r, h1, h2, .inl (by rw [h3]; rfl)⟩
  · exact ⟨r, h1, h2, .inr (by rw [h3]; rfl)⟩
set_option maxRecDepth 100000 in
theorem floor_any (x : Nat) (w : World) (hx : x < 18446744073709551616) :
    Calls Tryd.prog 94 #[.float .f64 x] w fun e w' => ∃ r, e = .returned (.float .f64 r) ∧ Below w.heap.size w w' ∧ r < 18446744073709551616 ∧ (isN x = true → isN r = true) ∧ (isN x = false → r = floorW x) := by
  cases h : isN x
  · have hR := archFloor_num x w h
    have hlt : floorW x < 18446744073709551616 := Ieee.Format.write_lt Ieee.double _
    generalize hF : floorW x = F at *
    have HF : Hid (floorW x = F) := hF
    clear hF
    go_enter Tryd.func94, Tryd.ntmps94
    go_wp2
    go_ret
    exact ⟨F, rfl, Below.refl _ _, by simp [hlt]⟩
  · obtain ⟨r, h1, h2, hR | hR⟩ := archFloor_nan x w hx h
    · go_enter Tryd.func94, Tryd.ntmps94
      go_wp2
      go_ret
      exact ⟨r, rfl, Below.refl _ _, by simp [h1, h2]⟩
    · go_enter Tryd.func94, Tryd.ntmps94
      go_wp2
      go_ret
      exact ⟨r, rfl, (Below.refl _ _).drew, by simp [h1, h2]⟩
end Go.Proofs.YtfcoffllelgakaaDoor

namespace Go.Proofs.YtfcoffllelgakaaDoor
open Go.RowKit
set_option linter.unusedVariables false
set_option linter.unusedSimpArgs false

theorem cut_down (s : Bool) (n d : Nat) : Ieee.Toward.down.cut s n d = n / 2 ^ d + (s && decide (n % 2 ^ d ≠ 0)).toNat := by
  have key : ∀ k, n / 2 ^ k + (s && (n % 2 ^ k != 0)).toNat = n / 2 ^ k + (s && decide (n % 2 ^ k ≠ 0)).toNat := by
    intro k
    congr 3
    by_cases h : n % 2 ^ k = 0 <;> simp [h]
  unfold Ieee.Toward.cut
  simp only [pow_gap]
  by_cases h : d ≤ n.log2 + 2
  · rw [Nat.min_eq_left h]
    exact key d
  · rw [Nat.min_eq_right (by omega)]
    have h1 : n < 2 ^ (n.log2 + 1) := Nat.lt_log2_self
    have h2 : (2 : Nat) ^ (n.log2 + 1) ≤ 2 ^ (n.log2 + 2) := Nat.pow_le_pow_right (by decide) (by omega)
    have h3 : (2 : Nat) ^ (n.log2 + 2) ≤ 2 ^ d := Nat.pow_le_pow_right (by decide) (by omega)
    refine (key _).trans ?_
    rw [Nat.div_eq_of_lt (by omega), Nat.div_eq_of_lt (by omega), Nat.mod_eq_of_lt (by omega), Nat.mod_eq_of_lt (by omega)]
theorem mod_zero_ratio {x y x' y' : Nat} (hy : 0 < y) (hy' : 0 < y') (h : x * y' = x' * y) : x % y = 0 ↔ x' % y' = 0 := by
  have h1 : (x * y') % (y * y') = x % y * y' := Nat.mul_mod_mul_right _ _ _
  have h2 : (x' * y) % (y' * y) = x' % y' * y := Nat.mul_mod_mul_right _ _ _
  rw [h, Nat.mul_comm y y', h2] at h1
  constructor
  · intro h0
    rw [h0, Nat.zero_mul] at h1
    rcases Nat.mul_eq_zero.1 h1 with h3 | h3 <;> omega
  · intro h0
    rw [h0, Nat.zero_mul] at h1
    rcases Nat.mul_eq_zero.1 h1.symm with h3 | h3 <;> omega
theorem floor_cut (x : Nat) : Ieee.Toward.down.cut (fneg x) (fmag x <<< (fpl x).toNat) (-(fpl x)).toNat = flF x := by
  have hp := fpl_ge x
  have hr : fmag x * 2 ^ (fpl x).toNat * lowP = fu x * 2 ^ (-(fpl x)).toNat := by
    rw [fu_eq, Nat.mul_assoc, Nat.mul_assoc, low_pow (fpl x) hp, Nat.mul_comm lowP]
  rw [cut_down, Nat.shiftLeft_eq]
  have h1 := (rne_ratio (Nat.two_pow_pos (-(fpl x)).toNat) lowP_pos hr).2
  have h2 := mod_zero_ratio (Nat.two_pow_pos (-(fpl x)).toNat) lowP_pos hr
  rw [h1]
  unfold flF flQ
  by_cases hm : fu x % lowP = 0
  · rw [if_neg (fun h => h.2 hm), decide_eq_false (fun h => h (h2.2 hm)), Bool.and_false]; rfl
  · have h3 : decide (fmag x * 2 ^ (fpl x).toNat % 2 ^ (-(fpl x)).toNat ≠ 0) = true := decide_eq_true (fun h => hm (h2.1 h))
    rw [h3, Bool.and_true]
    have hpos : 0 < fu x := by
      rcases Nat.eq_zero_or_pos (fu x) with h | h
      · rw [h, Nat.zero_mod] at hm; exact absurd rfl hm
      · exact h
    cases hs : fneg x
    · rw [if_neg (fun h => h.1 (by simp [nz]))]; rfl
    · rw [if_pos ⟨by simp [nz, hpos], hm⟩]; rfl
theorem floor_num (x : Nat) (h : frung x < 9218868437227405312) : floorW x = rndV (fneg x) (flF x) 1 := by
  unfold floorW
  rw [read_num x h]
  show Ieee.double.nearest (fneg x) (Ieee.Toward.down.cut (fneg x) (fmag x <<< (fpl x).toNat) (-(fpl x)).toNat) 0 = _
  rw [floor_cut]
  refine near_of _ _ (by decide) ?_
  simp
theorem floor_zero (x : Nat) (hx : x < 18446744073709551616) (h : isN x = false) : (frung (floorW x) = 0 → flV x = 0) ∧ (¬ frung (floorW x) = 0 → floorW x = flV x) := by
  by_cases hi : isI x = true
  · have hw : floorW x = x := by
      unfold floorW
      rw [read_inf x (isI_iff.1 hi)]
      show Ieee.double.word (fneg x) Ieee.double.infRung = x
      exact inf_self hi hx
    rw [hw, isI_iff.1 hi]
    unfold flV
    rw [hi, Bool.or_true, if_pos rfl]
    exact ⟨(fun h => by cases h), fun _ => rfl⟩
  · have hi2 : isI x = false := by revert hi; cases isI x <;> simp
    have hr := isN_lt h hi2
    rw [floor_num x hr]
    unfold flV
    rw [h, hi2, Bool.or_false, if_neg (by decide)]
    rcases Nat.eq_zero_or_pos (flF x) with h0 | h0
    · rw [h0]
      have e : ∀ s, rndV s 0 1 = setN s 0 := fun s => by unfold rndV; rw [if_pos rfl]
      rw [e, e]
      have hz : frung (setN (fneg x) 0) = 0 := by rw [setN_word _ _ (by decide)]; exact (word_eq _ _ (by decide)).2
      refine ⟨fun _ => ?_, fun h => absurd hz h⟩
      have e0 : ∀ s, nz s 0 = false := fun s => by cases s <;> rfl
      rw [e0]
      rfl
    · have hs : nz (nz (fneg x) (fu x)) (flF x) = fneg x := by
        unfold nz
        rw [decide_eq_true h0, Bool.and_true]
        rcases Nat.eq_zero_or_pos (fu x) with h3 | h3
        · exfalso
          unfold flF flQ at h0
          rw [h3, Nat.zero_mod, Nat.zero_div, if_neg (fun h => h.2 rfl)] at h0
          omega
        · rw [decide_eq_true h3, Bool.and_true]
      rw [hs]
      refine ⟨fun hz => ?_, fun _ => rfl⟩
      exfalso
      have e : Ieee.double.nearest (fneg x) (flF x) 0 = rndV (fneg x) (flF x) 1 := by
        refine near_of _ _ (by decide) ?_
        simp
      rw [← e, nearest_eq _ _ h0] at hz
      have hl : -52 ≤ lastP (flF x) 0 := by unfold lastP; omega
      rw [(word_eq _ _ (by have : (9218868437227405312 : Nat) < 9223372036854775808 := by decide
                           omega)).2] at hz
      omega
theorem times_fb (y r v : Nat) (h : fbN r = v) (hy : y < 18446744073709551616) (hr : r < 18446744073709551616) : fbV (Ieee.double.mul y r) = timesV y v := by
  cases hn : isN r
  · rw [fbN_of hn] at h; subst h; exact times_eq y r hy hr
  · rw [fbN_nan hn] at h
    subst h
    unfold Ieee.Format.mul
    rw [read_nan r (isN_iff.1 hn)]
    have e1 : isN 9221120237041090560 = true := by decide
    unfold timesV
    rw [e1, if_pos (by simp)]
    cases Ieee.double.read y <;> rfl
theorem sub_fb (x r v : Nat) (h : fbN r = v) (hx : x < 18446744073709551616) (hr : r < 18446744073709551616) : fbV (Ieee.double.sub x r) = if isN v = true then 9221120237041090560 else sumV x (flipN v) := by
  cases hn : isN r
  · rw [fbN_of hn] at h; subst h; exact sub_eq x r hx hr
  · rw [fbN_nan hn] at h
    subst h
    have e1 : isN 9221120237041090560 = true := by decide
    rw [if_pos e1, sub_eq x r hx hr, if_pos hn]
/-- What the floor of a quotient is. -/
def FlqP (aZ : Addr) (x y : Nat) (r : Nat) (v : Value) : Prop := (frung y = 0 ∧ v = errAt aZ ∧ r = 0) ∨ (¬ frung y = 0 ∧ v = .nilIface ∧ fbN r = flV (overV x y))
set_option maxRecDepth 100000 in
theorem floorQ_any (x y : Nat) (aA aZ aL : Addr) (w : World) (hE : Errs w aA aZ aL) (hx : x < 18446744073709551616) (hy : y < 18446744073709551616) :
    Calls Tryd.prog 70 #[.float .f64 x, .float .f64 y] w fun e w' => ∃ r v, e = .returned (.tuple #[.float .f64 r, v]) ∧ Below w.heap.size w w' ∧ r < 18446744073709551616 ∧ FlqP aZ x y r v := by
  have HQ := fun W h => quotient_any x y aA aZ aL W h hx hy
  go_enter Tryd.func70, Tryd.ntmps70
  go_wp2_with fail
  refine (HQ _ hE).mono ?_
  rintro e w1 ⟨r, v, rfl, b1, lr, hP⟩
  rcases hP with ⟨hz, rfl, rfl⟩ | ⟨hz, rfl, hr⟩
  · have hH : Hid (frung y = 0) := hz
    clear hz HQ
    go_wp2
    exact bodyPost_ret (v := .tuple #[.float .f64 0, errAt aZ]) (by simp [results, Tryd.results70, go_sem]) rfl ⟨0, _, rfl, b1, by decide, .inl ⟨hH.out, rfl, rfl⟩⟩
  · have hH : Hid (¬ frung y = 0) := hz
    have hR : Hid (fbN r = overV x y) := hr
    clear hz hr HQ
    go_wp2_with fail
    refine (floor_any r _ lr).mono ?_
    rintro e w2 ⟨f, rfl, b2, lf, f1, f2⟩
    have V2 := b1.trans (b2.mono b1.size)
    by_cases hf : frung f = 0
    · have h1 : FloatKind.f64.format.order f 0 = some .eq := ord_zero hf
      have hfin : fbN 0 = flV (overV x y) := by
        have hn : isN r = false := by
          cases hn : isN r
          · rfl
          · have := isN_iff.1 (f1 hn); omega
        have e1 := f2 hn
        rw [← hR.out, fbN_of hn, (floor_zero r lr hn).1 (by rw [← e1]; exact hf)]
        rfl
      have HF : Hid (fbN 0 = flV (overV x y)) := hfin
      clear f1 f2 hf hfin
      go_wp2
      exact bodyPost_ret (v := .tuple #[.float .f64 0, .nilIface]) (by simp [results, Tryd.results70, go_sem]) rfl ⟨0, _, rfl, V2, by decide, .inr ⟨hH.out, rfl, HF.out⟩⟩
    · have h1 : FloatKind.f64.format.order f 0 = some .lt ∨ FloatKind.f64.format.order f 0 = some .gt ∨ FloatKind.f64.format.order f 0 = none := by
        cases hn : isN f
        · rcases ord_nonzero hf hn with h | h
          · exact .inl h
          · exact .inr (.inl h)
        · exact .inr (.inr (order_nan_left f 0 (isN_iff.1 hn)))
      have hfin : fbN f = flV (overV x y) := by
        cases hn : isN r
        · have e1 := f2 hn
          have e2 := (floor_zero r lr hn).2 (by rw [← e1]; exact hf)
          rw [← hR.out, fbN_of hn, ← e2, ← e1]
          refine fbN_of ?_
          rw [e1]
          by_cases hi : isI r = true
          · unfold floorW
            rw [read_inf r (isI_iff.1 hi)]
            exact word_noN _ _ (Nat.le_refl _)
          · have hr := isN_lt hn (by revert hi; cases isI r <;> simp)
            unfold floorW
            rw [read_num r hr]
            exact nearest_noN _ _ _
        · rw [fbN_nan (f1 hn), ← hR.out, fbN_nan hn]
          unfold flV
          have e1 : isN 9221120237041090560 = true := by decide
          rw [e1, if_pos (by simp)]
      have HF : Hid (fbN f = flV (overV x y)) := hfin
      clear f1 f2 hf hfin
      rcases h1 with h1 | h1 | h1 <;>
      · go_wp2
        exact bodyPost_ret (v := .tuple #[.float .f64 f, .nilIface]) (by simp [results, Tryd.results70, go_sem]) rfl ⟨f, _, rfl, V2, lf, .inr ⟨hH.out, rfl, HF.out⟩⟩
/-- A product, a difference, whatever they are. -/
theorem run_mul (x y : Nat) (w : World) : ∃ r, r < 18446744073709551616 ∧ fbN r = fbV (Ieee.double.mul x y) ∧ ((∀ t, (binOp .mul t (.float .f64 x) (.float .f64 y)).run Tryd.prog w = .ok (.float .f64 r) w) ∨ (∀ t, (binOp .mul t (.float .f64 x) (.float .f64 y)).run Tryd.prog w = .ok (.float .f64 r) w.drew)) := by
  cases h : Ieee.double.mul x y with
  | some r => exact ⟨r, Ieee.Format.mul_lt Ieee.double h, rfl, .inl fun t => run_float_arith (P := Tryd.prog) w .mul t .f64 x y r h⟩
  | none => exact ⟨nanV x y w, nanV_lt x y w, fbN_nan (nanV_isN x y w), .inr fun t => nanMul x y h t w⟩
theorem run_sub (x y : Nat) (w : World) : ∃ r, r < 18446744073709551616 ∧ fbN r = fbV (Ieee.double.sub x y) ∧ ((∀ t, (binOp .sub t (.float .f64 x) (.float .f64 y)).run Tryd.prog w = .ok (.float .f64 r) w) ∨ (∀ t, (binOp .sub t (.float .f64 x) (.float .f64 y)).run Tryd.prog w = .ok (.float .f64 r) w.drew)) := by
  cases h : Ieee.double.sub x y with
  | some r => exact ⟨r, Ieee.Format.sub_lt Ieee.double h, rfl, .inl fun t => run_float_arith (P := Tryd.prog) w .sub t .f64 x y r h⟩
  | none => exact ⟨nanV x y w, nanV_lt x y w, fbN_nan (nanV_isN x y w), .inr fun t => nanSub x y h t w⟩
/-- The rest behind the floor. -/
def rstV (x y : Nat) : Nat := if isN (timesV y (flV (overV x y))) = true then 9221120237041090560 else sumV x (flipN (timesV y (flV (overV x y))))
def RstP (aZ : Addr) (x y : Nat) (r : Nat) (v : Value) : Prop := (frung y = 0 ∧ v = errAt aZ ∧ r = 0) ∨ (¬ frung y = 0 ∧ v = .nilIface ∧ fbN r = rstV x y)
set_option maxRecDepth 100000 in
theorem floorR_any (x y : Nat) (aA aZ aL : Addr) (w : World) (hE : Errs w aA aZ aL) (hx : x < 18446744073709551616) (hy : y < 18446744073709551616) :
    Calls Tryd.prog 71 #[.float .f64 x, .float .f64 y] w fun e w' => ∃ r v, e = .returned (.tuple #[.float .f64 r, v]) ∧ Below w.heap.size w w' ∧ r < 18446744073709551616 ∧ RstP aZ x y r v := by
  have HQ := fun W h => floorQ_any x y aA aZ aL W h hx hy
  go_enter Tryd.func71, Tryd.ntmps71
  go_wp2_with fail
  refine (HQ _ hE).mono ?_
  rintro e w1 ⟨q, v, rfl, b1, lq, hP⟩
  rcases hP with ⟨hz, rfl, rfl⟩ | ⟨hz, rfl, hr⟩
  · have hH : Hid (frung y = 0) := hz
    clear hz HQ
    go_wp2
    exact bodyPost_ret (v := .tuple #[.float .f64 0, errAt aZ]) (by simp [results, Tryd.results71, go_sem]) rfl ⟨0, _, rfl, b1, by decide, .inl ⟨hH.out, rfl, rfl⟩⟩
  · have hH : Hid (¬ frung y = 0) := hz
    clear hz HQ
    obtain ⟨t, lt, ht, hm⟩ := run_mul y q w1
    rw [times_fb y q _ hr hy lq] at ht
    rcases hm with hm | hm
    · obtain ⟨d, ld, hd, hs⟩ := run_sub x t w1
      rw [sub_fb x t _ ht hx lt] at hd
      have HD : Hid (fbN d = rstV x y) := hd
      clear hd ht hr
      rcases hs with hs | hs
      · go_wp2
        exact bodyPost_ret (v := .tuple #[.float .f64 d, .nilIface]) (by simp [results, Tryd.results71, go_sem]) rfl ⟨d, _, rfl, b1, ld, .inr ⟨hH.out, rfl, HD.out⟩⟩
      · go_wp2
        exact bodyPost_ret (v := .tuple #[.float .f64 d, .nilIface]) (by simp [results, Tryd.results71, go_sem]) rfl ⟨d, _, rfl, b1.drew, ld, .inr ⟨hH.out, rfl, HD.out⟩⟩
    · obtain ⟨d, ld, hd, hs⟩ := run_sub x t w1.drew
      rw [sub_fb x t _ ht hx lt] at hd
      have HD : Hid (fbN d = rstV x y) := hd
      clear hd ht hr
      rcases hs with hs | hs
      · go_wp2
        exact bodyPost_ret (v := .tuple #[.float .f64 d, .nilIface]) (by simp [results, Tryd.results71, go_sem]) rfl ⟨d, _, rfl, b1.drew, ld, .inr ⟨hH.out, rfl, HD.out⟩⟩
      · go_wp2
        exact bodyPost_ret (v := .tuple #[.float .f64 d, .nilIface]) (by simp [results, Tryd.results71, go_sem]) rfl ⟨d, _, rfl, b1.drew.drew, ld, .inr ⟨hH.out, rfl, HD.out⟩⟩
end Go.Proofs.YtfcoffllelgakaaDoor

namespace Go.Proofs.YtfcoffllelgakaaDoor
open Go.RowKit
set_option linter.unusedVariables false
set_option linter.unusedSimpArgs false

def OpP (aA aZ aL : Addr) (op : Int) (x y : Nat) (r : Nat) (v : Value) : Prop := IsErr aA aZ aL v (foC op y) ∧ fbN r = foV op x y
theorem fbN_zero : fbN 0 = 0 := by decide
theorem foV_out {op : Int} (h : op < 1 ∨ 6 < op) (x y : Nat) : foV op x y = 0 ∧ foC op y = 1 := by
  constructor
  · unfold foV; rw [if_pos h]
  · unfold foC; rw [if_pos h]
theorem foV_1 (x y : Nat) : foV 1 x y = sumV x y := by unfold foV; rw [if_neg (by decide), if_pos rfl]
theorem foV_2 (x y : Nat) : foV 2 x y = if isN y = true then 9221120237041090560 else sumV x (flipN y) := by unfold foV; rw [if_neg (by decide), if_neg (by decide), if_pos rfl]
theorem foV_3 (x y : Nat) : foV 3 x y = timesV x y := by unfold foV; rw [if_neg (by decide), if_neg (by decide), if_neg (by decide), if_pos rfl]
theorem foC_low {op : Int} (h : 1 ≤ op) (h3 : op ≤ 3) (y : Nat) : foC op y = 0 := by unfold foC; rw [if_neg (by omega), if_pos h3]
theorem fo_zero {op : Int} (h : 4 ≤ op) (h3 : op ≤ 6) (x y : Nat) (hz : frung y = 0) : foV op x y = 0 ∧ foC op y = 2 := by
  constructor
  · unfold foV; rw [if_neg (by omega), if_neg (by omega), if_neg (by omega), if_neg (by omega), if_pos hz]
  · unfold foC; rw [if_neg (by omega), if_neg (by omega), if_pos hz]
theorem foC_high {op : Int} (h : 4 ≤ op) (h3 : op ≤ 6) (y : Nat) (hz : ¬ frung y = 0) : foC op y = 0 := by
  unfold foC; rw [if_neg (by omega), if_neg (by omega), if_neg hz]
theorem foV_4 (x y : Nat) (hz : ¬ frung y = 0) : foV 4 x y = overV x y := by
  unfold foV; rw [if_neg (by decide), if_neg (by decide), if_neg (by decide), if_neg (by decide), if_neg hz, if_pos rfl]
theorem foV_5 (x y : Nat) (hz : ¬ frung y = 0) : foV 5 x y = flV (overV x y) := by
  unfold foV; rw [if_neg (by decide), if_neg (by decide), if_neg (by decide), if_neg (by decide), if_neg hz, if_neg (by decide), if_pos rfl]
theorem foV_6 (x y : Nat) (hz : ¬ frung y = 0) : foV 6 x y = rstV x y := by
  unfold foV rstV; rw [if_neg (by decide), if_neg (by decide), if_neg (by decide), if_neg (by decide), if_neg hz, if_neg (by decide), if_neg (by decide)]
theorem fb_of {o : Option Nat} {r : Nat} (h : o = some r ∨ (o = none ∧ isN r = true)) : fbN r = fbV o := by
  rcases h with h | ⟨h, h2⟩
  · rw [h]; rfl
  · rw [h, fbN_nan h2]; rfl
set_option maxRecDepth 100000 in
set_option maxHeartbeats 1500000 in
theorem operated_any (op : Int) (x y : Nat) (aA aZ aL : Addr) (w : World) (hE : Errs w aA aZ aL) (hx : x < 18446744073709551616) (hy : y < 18446744073709551616) :
    Calls Tryd.prog 37 #[.int .i64 op, .float .f64 x, .float .f64 y] w fun e w' => ∃ r v, e = .returned (.tuple #[.float .f64 r, v]) ∧ Below w.heap.size w w' ∧ OpP aA aZ aL op x y r v := by
  by_cases ho : op < 1 ∨ 6 < op
  · obtain ⟨⟨g1, g2, g3⟩, -⟩ := id hE
    have hP : OpP aA aZ aL op x y 0 (errAt aA) := by
      obtain ⟨e1, e2⟩ := foV_out ho x y
      refine ⟨?_, by rw [e1]; exact fbN_zero⟩
      rw [e2]
      exact .inr (.inl ⟨rfl, rfl⟩)
    have n1 : (op == 1) = false := by rw [beq_eq_false_iff_ne]; omega
    have n2 : (op == 2) = false := by rw [beq_eq_false_iff_ne]; omega
    have n3 : (op == 3) = false := by rw [beq_eq_false_iff_ne]; omega
    have n4 : (op == 4) = false := by rw [beq_eq_false_iff_ne]; omega
    have n5 : (op == 5) = false := by rw [beq_eq_false_iff_ne]; omega
    have n6 : (op == 6) = false := by rw [beq_eq_false_iff_ne]; omega
    clear ho
    go_enter Tryd.func37, Tryd.ntmps37
    go_wp2_with fail
    go_quiet (fail)
    go_wp2
    all_goals exact bodyPost_ret (v := .tuple #[.float .f64 0, errAt aA]) (by simp [results, Tryd.results37, go_sem]) rfl ⟨0, _, rfl, by first | exact Below.refl _ _ | exact (Below.refl _ _).drew | exact below_dn2 (Below.refl _ _) _, hP⟩
  · have hops : op = 1 ∨ op = 2 ∨ op = 3 ∨ op = 4 ∨ op = 5 ∨ op = 6 := by omega
    clear ho
    rcases hops with rfl | rfl | rfl | rfl | rfl | rfl
    · refine (operAdd_any x y w).mono ?_
      rintro e w' ⟨r, rfl, b, h⟩
      exact ⟨r, _, rfl, b, by rw [foC_low (by decide) (by decide)]; exact .inl ⟨rfl, rfl⟩, by rw [foV_1, fb_of h, sum_eq x y hx hy]⟩
    · refine (operSub_any x y w).mono ?_
      rintro e w' ⟨r, rfl, b, h⟩
      exact ⟨r, _, rfl, b, by rw [foC_low (by decide) (by decide)]; exact .inl ⟨rfl, rfl⟩, by rw [foV_2, fb_of h, sub_eq x y hx hy]⟩
    · refine (operMul_any x y w).mono ?_
      rintro e w' ⟨r, rfl, b, h⟩
      exact ⟨r, _, rfl, b, by rw [foC_low (by decide) (by decide)]; exact .inl ⟨rfl, rfl⟩, by rw [foV_3, fb_of h, times_eq x y hx hy]⟩
    · have HQ := fun W h => quotient_any x y aA aZ aL W h hx hy
      go_enter Tryd.func37, Tryd.ntmps37
      go_wp2_with fail
      refine (HQ _ hE).mono ?_
      rintro e w1 ⟨r, v, rfl, b1, lr, hP⟩
      have hP2 : OpP aA aZ aL 4 x y r v := by
        rcases hP with ⟨hz, rfl, rfl⟩ | ⟨hz, rfl, hr⟩
        · obtain ⟨e1, e2⟩ := fo_zero (op := 4) (by decide) (by decide) x y hz
          exact ⟨by rw [e2]; exact .inr (.inr (.inl ⟨rfl, rfl⟩)), by rw [e1]; exact fbN_zero⟩
        · exact ⟨by rw [foC_high (by decide) (by decide) y hz]; exact .inl ⟨rfl, rfl⟩, by rw [foV_4 x y hz]; exact hr⟩
      clear hP HQ
      go_wp2
      exact bodyPost_ret (v := .tuple #[.float .f64 r, v]) (by simp [results, Tryd.results37, go_sem]) rfl ⟨r, _, rfl, b1, hP2⟩
    · have HQ := fun W h => floorQ_any x y aA aZ aL W h hx hy
      go_enter Tryd.func37, Tryd.ntmps37
      go_wp2_with fail
      refine (HQ _ hE).mono ?_
      rintro e w1 ⟨r, v, rfl, b1, lr, hP⟩
      have hP2 : OpP aA aZ aL 5 x y r v := by
        rcases hP with ⟨hz, rfl, rfl⟩ | ⟨hz, rfl, hr⟩
        · obtain ⟨e1, e2⟩ := fo_zero (op := 5) (by decide) (by decide) x y hz
          exact ⟨by rw [e2]; exact .inr (.inr (.inl ⟨rfl, rfl⟩)), by rw [e1]; exact fbN_zero⟩
        · exact ⟨by rw [foC_high (by decide) (by decide) y hz]; exact .inl ⟨rfl, rfl⟩, by rw [foV_5 x y hz]; exact hr⟩
      clear hP HQ
      go_wp2
      exact bodyPost_ret (v := .tuple #[.float .f64 r, v]) (by simp [results, Tryd.results37, go_sem]) rfl ⟨r, _, rfl, b1, hP2⟩
    · have HQ := fun W h => floorR_any x y aA aZ aL W h hx hy
      go_enter Tryd.func37, Tryd.ntmps37
      go_wp2_with fail
      refine (HQ _ hE).mono ?_
      rintro e w1 ⟨r, v, rfl, b1, lr, hP⟩
      have hP2 : OpP aA aZ aL 6 x y r v := by
        rcases hP with ⟨hz, rfl, rfl⟩ | ⟨hz, rfl, hr⟩
        · obtain ⟨e1, e2⟩ := fo_zero (op := 6) (by decide) (by decide) x y hz
          exact ⟨by rw [e2]; exact .inr (.inr (.inl ⟨rfl, rfl⟩)), by rw [e1]; exact fbN_zero⟩
        · exact ⟨by rw [foC_high (by decide) (by decide) y hz]; exact .inl ⟨rfl, rfl⟩, by rw [foV_6 x y hz]; exact hr⟩
      clear hP HQ
      go_wp2
      exact bodyPost_ret (v := .tuple #[.float .f64 r, v]) (by simp [results, Tryd.results37, go_sem]) rfl ⟨r, _, rfl, b1, hP2⟩
set_option maxRecDepth 100000 in
theorem floatOp_any (op : Int) (a b : Nat) (aA aZ aL : Addr) (w : World) (hE : Errs w aA aZ aL) (ha : a < 18446744073709551616) (hb : b < 18446744073709551616) :
    Calls Tryd.prog 12 #[.int .i64 op, .int .u64 a, .int .u64 b] w fun e w' => e = .returned (.tuple #[.int .u64 (foV op a b : Nat), .int .i64 (foC op b)]) ∧ Below w.heap.size w w' := by
  have hF := frombits_run
  have h1 : ((a : Int)).toNat = a := Int.toNat_natCast a
  have h2 : ((b : Int)).toNat = b := Int.toNat_natCast b
  have HO := fun (W : World) h => operated_any op a b aA aZ aL W h ha hb
  have HC := fun (W : World) v c h h2 => codeOf_any aA aZ aL v c W h h2
  obtain ⟨V, hV⟩ : ∃ V, foV op a b = V := ⟨_, rfl⟩
  obtain ⟨C, hC⟩ : ∃ C, foC op b = C := ⟨_, rfl⟩
  rw [hV, hC]
  have HV : Hid (foV op a b = V ∧ foC op b = C) := ⟨hV, hC⟩
  clear hV hC
  go_enter Tryd.func12, Tryd.ntmps12
  go_wp2_with fail
  refine (HO _ hE).mono ?_
  rintro e w1 ⟨r, v, rfl, b1, hP⟩
  obtain ⟨hI, hfb⟩ : IsErr aA aZ aL v C ∧ fbN r = V := by rw [← HV.out.1, ← HV.out.2]; exact hP
  have HB := fun W : World => floatBits_any r W
  rw [hfb] at HB
  have E1 := hE.below b1
  clear HO hP hfb
  go_wp2_with fail
  refine (HB _).mono ?_
  rintro e w2 ⟨rfl, hw2⟩
  rw [hw2]
  clear hw2 w2 HB
  go_wp2_with fail
  refine (HC _ v C E1 hI).mono ?_
  rintro e w3 ⟨rfl, b3⟩
  clear HC hI
  go_wp2
  exact bodyPost_ret (v := .tuple #[.int .u64 (V : Nat), .int .i64 C]) (by simp [results, Tryd.results12, go_sem]) rfl ⟨rfl, b1.trans (b3.mono b1.size)⟩
end Go.Proofs.YtfcoffllelgakaaDoor
