import Derived.Test.YtfpadeamhoeonaaDoorFCmp
import Derived.Laws.FloatArith
namespace Go.Proofs.YtfpadeamhoeonaaDoor
open Go.RowKit
set_option linter.unusedVariables false
set_option linter.unusedSimpArgs false

theorem nan_cut (q : Question) (x y t : Nat) (hq : q = .nanBits .f64 x y) : isN (q.cut t) = true := by
  subst hq
  have e : Question.cut (.nanBits .f64 x y) t = (t % 2) * 9223372036854775808 + 9218868437227405312 + 1 + (t / 2) % 4503599627370495 := rfl
  have h : (t / 2) % 4503599627370495 < 4503599627370495 := Nat.mod_lt _ (by decide)
  rw [e]
  unfold isN frung
  rw [decide_eq_true_iff]
  generalize (t / 2) % 4503599627370495 = f at h ⊢
  rcases (by omega : t % 2 = 0 ∨ t % 2 = 1) with h1 | h1
  · rw [h1]; omega
  · rw [h1]; omega
theorem sum_comm (a b : Ieee.Datum) : a.sum b = b.sum a := by
  cases a <;> cases b <;> simp [Ieee.Datum.sum]
  · rename_i s m i t n j
    rw [Int.min_comm j i]
    generalize Ieee.signed s m _ = u
    generalize Ieee.signed t n _ = v
    rw [Int.add_comm v u, Bool.and_comm t s]
    simp
  · rename_i s t
    by_cases h : s = t
    · subst h; rfl
    · rw [if_neg h, if_neg (fun e => h e.symm)]
theorem product_comm (a b : Ieee.Datum) : a.product b = b.product a := by
  cases a <;> cases b <;> simp [Ieee.Datum.product, Bool.xor_comm, Nat.mul_comm, Int.add_comm]
theorem add_comm2 (x y : Nat) : Ieee.double.add x y = Ieee.double.add y x := by
  unfold Ieee.Format.add
  rw [sum_comm]
theorem mul_comm2 (x y : Nat) : Ieee.double.mul x y = Ieee.double.mul y x := by
  unfold Ieee.Format.mul
  rw [product_comm]
def nanV (x y : Nat) (w : World) : Nat := Question.cut (.nanBits .f64 x y) (w.tape w.drawn (.nanBits .f64 x y))
theorem nanV_isN (x y : Nat) (w : World) : isN (nanV x y w) = true := nan_cut _ x y _ rfl
theorem nanAdd (x y : Nat) (h : Ieee.double.add x y = none) (t : TypeId) (w : World) : (binOp .add t (.float .f64 x) (.float .f64 y)).run Tryd.prog w = .ok (.float .f64 (nanV x y w)) w.drew := by
  have h2 : FloatKind.f64.format.add x y = none := h
  simp [binOp, Op.floatArith, h2, Question.forced, nanV]
set_option maxRecDepth 100000 in
theorem operAdd_any (x y : Nat) (w : World) :
    Calls Tryd.prog 12 #[.int .i64 1, .float .f64 x, .float .f64 y] w fun e w' => ∃ r, e = .returned (.tuple #[.float .f64 r, .nilIface]) ∧ Below w.heap.size w w' ∧ (Ieee.double.add x y = some r ∨ (Ieee.double.add x y = none ∧ isN r = true)) := by
  cases h : Ieee.double.add x y with
  | some r =>
    have h2 : floatBits .add .f64 x y = some r := h
    have h3 := fun t W => run_float_arith (P := Tryd.prog) W .add t .f64 x y r h2
    go_enter Tryd.func12, Tryd.ntmps12
    go_wp2
    exact bodyPost_ret (v := .tuple #[.float .f64 r, .nilIface]) (by simp [results, Tryd.results12, go_sem]) rfl ⟨r, rfl, Below.refl _ _, .inl rfl⟩
  | none =>
    have h3 := fun t W => nanAdd x y h t W
    have hn := nanV_isN x y w
    go_enter Tryd.func12, Tryd.ntmps12
    go_wp2
    exact bodyPost_ret (v := .tuple #[.float .f64 (nanV x y w), .nilIface]) (by simp [results, Tryd.results12, go_sem]) rfl ⟨_, rfl, (Below.refl _ _).drew, .inr ⟨trivial, hn⟩⟩
theorem nanSub (x y : Nat) (h : Ieee.double.sub x y = none) (t : TypeId) (w : World) : (binOp .sub t (.float .f64 x) (.float .f64 y)).run Tryd.prog w = .ok (.float .f64 (nanV x y w)) w.drew := by
  have h2 : FloatKind.f64.format.sub x y = none := h
  simp [binOp, Op.floatArith, h2, Question.forced, nanV]
set_option maxRecDepth 100000 in
theorem operSub_any (x y : Nat) (w : World) :
    Calls Tryd.prog 12 #[.int .i64 2, .float .f64 x, .float .f64 y] w fun e w' => ∃ r, e = .returned (.tuple #[.float .f64 r, .nilIface]) ∧ Below w.heap.size w w' ∧ (Ieee.double.sub x y = some r ∨ (Ieee.double.sub x y = none ∧ isN r = true)) := by
  cases h : Ieee.double.sub x y with
  | some r =>
    have h2 : floatBits .sub .f64 x y = some r := h
    have h3 := fun t W => run_float_arith (P := Tryd.prog) W .sub t .f64 x y r h2
    go_enter Tryd.func12, Tryd.ntmps12
    go_wp2
    exact bodyPost_ret (v := .tuple #[.float .f64 r, .nilIface]) (by simp [results, Tryd.results12, go_sem]) rfl ⟨r, rfl, Below.refl _ _, .inl rfl⟩
  | none =>
    have h3 := fun t W => nanSub x y h t W
    have hn := nanV_isN x y w
    go_enter Tryd.func12, Tryd.ntmps12
    go_wp2
    exact bodyPost_ret (v := .tuple #[.float .f64 (nanV x y w), .nilIface]) (by simp [results, Tryd.results12, go_sem]) rfl ⟨_, rfl, (Below.refl _ _).drew, .inr ⟨trivial, hn⟩⟩
theorem nanMul (x y : Nat) (h : Ieee.double.mul x y = none) (t : TypeId) (w : World) : (binOp .mul t (.float .f64 x) (.float .f64 y)).run Tryd.prog w = .ok (.float .f64 (nanV x y w)) w.drew := by
  have h2 : FloatKind.f64.format.mul x y = none := h
  simp [binOp, Op.floatArith, h2, Question.forced, nanV]
set_option maxRecDepth 100000 in
theorem operMul_any (x y : Nat) (w : World) :
    Calls Tryd.prog 12 #[.int .i64 3, .float .f64 x, .float .f64 y] w fun e w' => ∃ r, e = .returned (.tuple #[.float .f64 r, .nilIface]) ∧ Below w.heap.size w w' ∧ (Ieee.double.mul x y = some r ∨ (Ieee.double.mul x y = none ∧ isN r = true)) := by
  cases h : Ieee.double.mul x y with
  | some r =>
    have h2 : floatBits .mul .f64 x y = some r := h
    have h3 := fun t W => run_float_arith (P := Tryd.prog) W .mul t .f64 x y r h2
    go_enter Tryd.func12, Tryd.ntmps12
    go_wp2
    exact bodyPost_ret (v := .tuple #[.float .f64 r, .nilIface]) (by simp [results, Tryd.results12, go_sem]) rfl ⟨r, rfl, Below.refl _ _, .inl rfl⟩
  | none =>
    have h3 := fun t W => nanMul x y h t W
    have hn := nanV_isN x y w
    go_enter Tryd.func12, Tryd.ntmps12
    go_wp2
    exact bodyPost_ret (v := .tuple #[.float .f64 (nanV x y w), .nilIface]) (by simp [results, Tryd.results12, go_sem]) rfl ⟨_, rfl, (Below.refl _ _).drew, .inr ⟨trivial, hn⟩⟩
end Go.Proofs.YtfpadeamhoeonaaDoor
