import Derived.Test.YtfcoffllelgakaaDoorFCmp
import Derived.Laws.FloatArith
import Derived.Test.YtfcoffllelgakaaDoorLFCmp
import Derived.Test.YtfcoffllelgakaaDoorCodeC
namespace Go.Proofs.YtfcoffllelgakaaDoor
open Go.RowKit
set_option linter.unusedVariables false
set_option linter.unusedSimpArgs false

theorem nan_cut (q : Question) (x y t : Nat) (hq : q = .nanBits .f64 x y) : isN (q.cut t) = true := by
  subst hq
  have e : Question.cut (.nanBits .f64 x y) t = (t % 2) * 9223372036854775808 + 9218868437227405312 + 1 + (t / 2) % 4503599627370495 := rfl
  have h : (t / 2) % 4503599627370495 < 4503599627370495 := Nat.mod_lt _ (by decide)
  rw [e]
  unfold isN frung
  rw [decide_eq_true_iff]
  generalize (t / 2) % 4503599627370495 = f at h ⊢
  rcases (by omega : t % 2 = 0 ∨ t % 2 = 1) with h1 | h1
  · rw [h1]; omega
  · rw [h1]; omega
def nanV (x y : Nat) (w : World) : Nat := Question.cut (.nanBits .f64 x y) (w.tape w.drawn (.nanBits .f64 x y))
theorem nanV_isN (x y : Nat) (w : World) : isN (nanV x y w) = true := nan_cut _ x y _ rfl
theorem nanAdd (x y : Nat) (h : Ieee.double.add x y = none) (t : TypeId) (w : World) : (binOp .add t (.float .f64 x) (.float .f64 y)).run Tryd.prog w = .ok (.float .f64 (nanV x y w)) w.drew := by
  have h2 : FloatKind.f64.format.add x y = none := h
  simp [binOp, Op.floatArith, h2, Question.forced, nanV]
set_option maxRecDepth 100000 in
theorem operAdd_any (x y : Nat) (w : World) :
    Calls Tryd.prog 37 #[.int .i64 1, .float .f64 x, .float .f64 y] w fun e w' => ∃ r, e = .returned (.tuple #[.float .f64 r, .nilIface]) ∧ Below w.heap.size w w' ∧ (Ieee.double.add x y = some r ∨ (Ieee.double.add x y = none ∧ isN r = true)) := by
  cases h : Ieee.double.add x y with
  | some r =>
    have h2 : floatBits .add .f64 x y = some r := h
    have h3 := fun t W => run_float_arith (P := Tryd.prog) W .add t .f64 x y r h2
    go_enter Tryd.func37, Tryd.ntmps37
    go_wp2
    exact bodyPost_ret (v := .tuple #[.float .f64 r, .nilIface]) (by simp [results, Tryd.results37, go_sem]) rfl ⟨r, rfl, Below.refl _ _, .inl rfl⟩
  | none =>
    have h3 := fun t W => nanAdd x y h t W
    have hn := nanV_isN x y w
    go_enter Tryd.func37, Tryd.ntmps37
    go_wp2
    exact bodyPost_ret (v := .tuple #[.float .f64 (nanV x y w), .nilIface]) (by simp [results, Tryd.results37, go_sem]) rfl ⟨_, rfl, (Below.refl _ _).drew, .inr ⟨trivial, hn⟩⟩
theorem nanSub (x y : Nat) (h : Ieee.double.sub x y = none) (t : TypeId) (w : World) : (binOp .sub t (.float .f64 x) (.float .f64 y)).run Tryd.prog w = .ok (.float .f64 (nanV x y w)) w.drew := by
  have h2 : FloatKind.f64.format.sub x y = none := h
  simp [binOp, Op.floatArith, h2, Question.forced, nanV]
set_option maxRecDepth 100000 in
theorem operSub_any (x y : Nat) (w : World) :
    Calls Tryd.prog 37 #[.int .i64 2, .float .f64 x, .float .f64 y] w fun e w' => ∃ r, e = .returned (.tuple #[.float .f64 r, .nilIface]) ∧ Below w.heap.size w w' ∧ (Ieee.double.sub x y = some r ∨ (Ieee.double.sub x y = none ∧ isN r = true)) := by
  cases h : Ieee.double.sub x y with
  | some r =>
    have h2 : floatBits .sub .f64 x y = some r := h
    have h3 := fun t W => run_float_arith (P := Tryd.prog) W .sub t .f64 x y r h2
    go_enter Tryd.func37, Tryd.ntmps37
    go_wp2
    exact bodyPost_ret (v := .tuple #[.float .f64 r, .nilIface]) (by simp [results, Tryd.results37, go_sem]) rfl ⟨r, rfl, Below.refl _ _, .inl rfl⟩
  | none =>
    have h3 := fun t W => nanSub x y h t W
    have hn := nanV_isN x y w
    go_enter Tryd.func37, Tryd.ntmps37
    go_wp2
    exact bodyPost_ret (v := .tuple #[.float .f64 (nanV x y w), .nilIface]) (by simp [results, Tryd.results37, go_sem]) rfl ⟨_, rfl, (Below.refl _ _).drew, .inr ⟨trivial, hn⟩⟩
theorem nanMul (x y : Nat) (h : Ieee.double.mul x y = none) (t : TypeId) (w : World) : (binOp .mul t (.float .f64 x) (.float .f64 y)).run Tryd.prog w = .ok (.float .f64 (nanV x y w)) w.drew := by
  have h2 : FloatKind.f64.format.mul x y = none := h
  simp [binOp, Op.floatArith, h2, Question.forced, nanV]
set_option maxRecDepth 100000 in
theorem operMul_any (x y : Nat) (w : World) :
    Calls Tryd.prog 37 #[.int .i64 3, .float .f64 x, .float .f64 y] w fun e w' => ∃ r, e = .returned (.tuple #[.float .f64 r, .nilIface]) ∧ Below w.heap.size w w' ∧ (Ieee.double.mul x y = some r ∨ (Ieee.double.mul x y = none ∧ isN r = true)) := by
  cases h : Ieee.double.mul x y with
  | some r =>
    have h2 : floatBits .mul .f64 x y = some r := h
    have h3 := fun t W => run_float_arith (P := Tryd.prog) W .mul t .f64 x y r h2
    go_enter Tryd.func37, Tryd.ntmps37
    go_wp2
    exact bodyPost_ret (v := .tuple #[.float .f64 r, .nilIface]) (by simp [results, Tryd.results37, go_sem]) rfl ⟨r, rfl, Below.refl _ _, .inl rfl⟩
  | none =>
    have h3 := fun t W => nanMul x y h t W
    have hn := nanV_isN x y w
    go_enter Tryd.func37, Tryd.ntmps37
    go_wp2
    exact bodyPost_ret (v := .tuple #[.float .f64 (nanV x y w), .nilIface]) (by simp [results, Tryd.results37, go_sem]) rfl ⟨_, rfl, (Below.refl _ _).drew, .inr ⟨trivial, hn⟩⟩
end Go.Proofs.YtfcoffllelgakaaDoor

namespace Go.Proofs.YtfcoffllelgakaaDoor
open Go.RowKit
set_option linter.unusedVariables false
set_option linter.unusedSimpArgs false

/-- The bits that an operation's result is told by. -/
def fbN (r : Nat) : Nat := if isN r = true then 9221120237041090560 else r
def fbV : Option Nat → Nat
  | none => 9221120237041090560
  | some r => fbN r
theorem bits_run (r : Nat) (w : World) : (callFunc 62 #[.float .f64 r]).run Tryd.prog w = .ok (.value (.int .u64 r)) w := by
  rw [run_callFunc_extern (e := Extern.MathFloatBits.float64bits) Tryd.func62 (by kernel_rfl) (by kernel_rfl) (by kernel_rfl) (by kernel_rfl)]
  rfl
set_option maxRecDepth 100000 in
theorem floatBits_any (r : Nat) (w : World) :
    Calls Tryd.prog 28 #[.float .f64 r] w fun e w' => e = .returned (.int .u64 (fbN r : Nat)) ∧ w' = w := by
  have hN := fun W : World => isNan_any r W
  cases h : isN r
  · have e1 : fbN r = r := by unfold fbN; rw [h]; rfl
    rw [e1]
    simp only [h] at hN
    go_enter Tryd.func28, Tryd.ntmps28
    go_wp2_with fail
    refine (hN _).mono ?_
    rintro e w1 ⟨rfl, hw1⟩
    rw [hw1]
    clear hw1 w1
    have hb := bits_run r
    go_wp2
    go_ret
    exact ⟨rfl, rfl⟩
  · have e1 : fbN r = 9221120237041090560 := by unfold fbN; rw [h]; rfl
    rw [e1]
    simp only [h] at hN
    go_enter Tryd.func28, Tryd.ntmps28
    go_wp2_with fail
    refine (hN _).mono ?_
    rintro e w1 ⟨rfl, hw1⟩
    rw [hw1]
    clear hw1 w1
    go_wp2
    go_ret
    exact ⟨rfl, rfl⟩
end Go.Proofs.YtfcoffllelgakaaDoor
