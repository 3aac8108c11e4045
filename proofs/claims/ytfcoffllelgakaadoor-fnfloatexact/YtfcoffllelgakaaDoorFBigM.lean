import Derived.Test.YtfcoffllelgakaaDoorFCmp
import Derived.Test.YtfcoffllelgakaaDoorLFCmp
import Derived.Test.YtfcoffllelgakaaDoorMDown
import Derived.Test.YtfcoffllelgakaaDoorMgRN
import Derived.Test.YtfcoffllelgakaaDoorFit
import Derived.Test.YtfcoffllelgakaaDoorCodeC
namespace Go.Proofs.YtfcoffllelgakaaDoor
open Go.RowKit
set_option linter.unusedVariables false
set_option linter.unusedSimpArgs false

/-- How far below 1 a float's unit lies. -/
def lowE : Nat := 1074
def lowP : Nat := 2 ^ lowE
theorem lowP_pos : 0 < lowP := Nat.two_pow_pos _
/-- A float's whole part. -/
def fq (x : Nat) : Nat := fu x / lowP
def fbad (x : Nat) : Bool := isN x || isI x
def fbS (x : Nat) : Bool := if fbad x then false else nz (fneg x) (fq x)
def fbL (x : Nat) : List Int := if fbad x then [] else lim (fq x)
def fbC (x : Nat) : Int := if fbad x then 1 else 0
theorem fq_up (x n : Nat) (h : fpl x = (n : Int)) : fq x = fmag x * 2 ^ n := by
  unfold fq
  rw [fu_eq, h, show ((n : Int) + 1074).toNat = n + lowE by show _ = n + 1074; omega, Nat.pow_add, ← Nat.mul_assoc]
  exact Nat.mul_div_cancel _ lowP_pos
theorem fq_down (x n : Nat) (h : fpl x = -(n : Int)) : fq x = fmag x / 2 ^ n := by
  have hg := fpl_ge x
  have hn : n ≤ 1074 := by omega
  unfold fq lowP
  rw [fu_eq, h]
  obtain ⟨k, hk⟩ : ∃ k : Nat, lowE = k + n := ⟨1074 - n, by show (1074 : Nat) = _; omega⟩
  have e : (-(n : Int) + 1074).toNat = k := by
    have : (1074 : Nat) = k + n := hk
    omega
  rw [e, hk, Nat.pow_add]
  rw [Nat.mul_comm (fmag x), Nat.mul_div_mul_left _ _ (Nat.two_pow_pos k)]
theorem fmag_lt (x : Nat) : fmag x < 9007199254740992 := by
  have : ffrac x < 4503599627370496 := Nat.mod_lt _ (by decide)
  unfold fmag
  split <;> omega
theorem fbad_lt {x : Nat} (h : fbad x = false) : frung x < 9218868437227405312 := by
  unfold fbad at h
  rw [Bool.or_eq_false_iff] at h
  exact isN_lt h.1 h.2
theorem fq_len {x : Nat} (h : fbad x = false) : (lim (fq x)).length ≤ 66 := by
  have h1 := fbad_lt h
  have h2 : fq x ≤ fu x := Nat.div_le_self _ _
  have h3 := fu_lt x 2045 (by have := fexp_le x h1; omega)
  exact lim_len_gen _ 2045 66 (Nat.lt_of_le_of_lt h2 h3) (by decide)
theorem fexp_top {x : Nat} (h : fbad x = true) : fexp x = 2047 := by
  have e := f_rung x
  have hf : ffrac x < 4503599627370496 := Nat.mod_lt _ (by decide)
  have hl : fexp x < 2048 := Nat.mod_lt _ (by decide)
  unfold fbad isN isI at h
  simp at h
  omega
theorem low_eq : (2 : Nat) ^ lowE = lowP := by unfold lowP; rfl
/-- The cell of the error of arguments. -/
def ErrA (w : World) (aA : Addr) : Prop := w.cell? ⟨0, 0, none⟩ = some (errAt aA)
theorem ErrA.below {w w' : World} {aA : Addr} (h : ErrA w aA) (hb : Below w.heap.size w w') : ErrA w' aA := (hb.cell (p := ⟨_, 0, none⟩) (cell_lt h)).trans h
set_option maxRecDepth 100000 in
theorem floatParts_any (x : Int) (aA : Addr) (w : World) (h0 : 0 ≤ x) (h1 : x ≤ 18446744073709551615) (hE : ErrA w aA) :
    Calls Tryd.prog 76 #[.int .u64 x] w fun e w' => e = .returned (if fbad x.toNat then .tuple #[.int .u64 0, .int .i64 0, errAt aA] else .tuple #[.int .u64 (fmag x.toNat), .int .i64 (fpl x.toNat), .nilIface]) ∧ Below w.heap.size w w' := by
  have he := and_exp x h0 h1
  have hf := and_frac x h0 h1
  have hfl : ffrac x.toNat < 4503599627370496 := Nat.mod_lt _ (by decide)
  have hel : fexp x.toNat < 2048 := Nat.mod_lt _ (by decide)
  cases hb : fbad x.toNat with
  | true =>
    have hx := fexp_top hb
    rw [hx] at he
    have hg : w.cell? ⟨0, 0, none⟩ = some (errAt aA) := hE
    rw [if_pos rfl]
    go_enter Tryd.func76, Tryd.ntmps76
    go_wp2
    go_region_with fail
    all_goals (try go_wp2)
    all_goals refine bodyPost_ret (v := .tuple #[.int .u64 0, .int .i64 0, errAt aA]) (by simp [results, Tryd.results76, go_sem, Act.put]) rfl ?_
    all_goals exact ⟨rfl, (by first | exact Below.refl _ _ | exact (Below.refl _ _).drew)⟩
  | false =>
    have hlt := fexp_le _ (fbad_lt hb)
    rw [if_neg (by decide)]
    by_cases hx : fexp x.toNat = 0
    · have e1 : fmag x.toNat = ffrac x.toNat := by unfold fmag; rw [if_pos hx]
      have e2 : fpl x.toNat = -1074 := by unfold fpl; rw [if_pos hx]
      rw [e1, e2]
      rw [hx] at he
      generalize ffrac x.toNat = fr at hf hfl
      clear hE hb e1 e2
      go_enter Tryd.func76, Tryd.ntmps76
      go_wp2
      refine bodyPost_ret (v := .tuple #[.int .u64 fr, .int .i64 (-1074), .nilIface]) (by simp [results, Tryd.results76, go_sem, Act.put]) rfl ?_
      exact ⟨rfl, Below.refl _ _⟩
    · have e1 : fmag x.toNat = ffrac x.toNat + 4503599627370496 := by unfold fmag; rw [if_neg hx]; omega
      have e2 : fpl x.toNat = (fexp x.toNat : Int) - 1 + -1074 := by unfold fpl; rw [if_neg hx]; omega
      have hor := or_hidden x.toNat
      rw [e1, e2]
      generalize ffrac x.toNat + 4503599627370496 = fm at hor
      generalize ffrac x.toNat = fr at *
      generalize fexp x.toNat = ex at *
      have hx1 : ¬ (ex : Int) = 2047 := by omega
      have hx2 : ((ex : Int) == 2047) = false := by rw [beq_eq_false_iff_ne]; exact hx1
      have hx3 : ((ex : Int) == 0) = false := by rw [beq_eq_false_iff_ne]; omega
      clear hE hb e1 e2
      go_enter Tryd.func76, Tryd.ntmps76
      go_wp2
      refine bodyPost_ret (v := .tuple #[.int .u64 fm, .int .i64 ((ex : Int) - 1 + -1074), .nilIface]) (by simp [results, Tryd.results76, go_sem, Act.put]) rfl ?_
      exact ⟨rfl, Below.refl _ _⟩
end Go.Proofs.YtfcoffllelgakaaDoor
