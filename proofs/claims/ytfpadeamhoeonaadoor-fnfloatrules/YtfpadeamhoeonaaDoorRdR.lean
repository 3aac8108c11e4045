import Derived.Test.YtfpadeamhoeonaaDoorRdQ
import Derived.Test.YtfpadeamhoeonaaDoorLFCmp
import Derived.Test.YtfpadeamhoeonaaDoorCodeC
namespace Go.Proofs.YtfpadeamhoeonaaDoor
open Go.RowKit
set_option linter.unusedVariables false
set_option linter.unusedSimpArgs false

/-- The bits that an operation's result is told by. -/
def fbN (r : Nat) : Nat := if isN r = true then 9221120237041090560 else r
def fbV : Option Nat → Nat
  | none => 9221120237041090560
  | some r => fbN r
theorem bits_run (r : Nat) (w : World) : (callFunc 27 #[.float .f64 r]).run Tryd.prog w = .ok (.value (.int .u64 r)) w := by
  rw [run_callFunc_extern (e := Extern.MathFloatBits.float64bits) Tryd.func27 (by kernel_rfl) (by kernel_rfl) (by kernel_rfl) (by kernel_rfl)]
  rfl
set_option maxRecDepth 100000 in
theorem floatBits_any (r : Nat) (w : World) :
    Calls Tryd.prog 14 #[.float .f64 r] w fun e w' => e = .returned (.int .u64 (fbN r : Nat)) ∧ w' = w := by
  have hN := fun W : World => isNan_any r W
  cases h : isN r
  · have e1 : fbN r = r := by unfold fbN; rw [h]; rfl
    rw [e1]
    simp only [h] at hN
    go_enter Tryd.func14, Tryd.ntmps14
    go_wp2_with fail
    refine (hN _).mono ?_
    rintro e w1 ⟨rfl, hw1⟩
    rw [hw1]
    clear hw1 w1
    have hb := bits_run r
    go_wp2
    go_ret
    exact ⟨rfl, rfl⟩
  · have e1 : fbN r = 9221120237041090560 := by unfold fbN; rw [h]; rfl
    rw [e1]
    simp only [h] at hN
    go_enter Tryd.func14, Tryd.ntmps14
    go_wp2_with fail
    refine (hN _).mono ?_
    rintro e w1 ⟨rfl, hw1⟩
    rw [hw1]
    clear hw1 w1
    go_wp2
    go_ret
    exact ⟨rfl, rfl⟩
set_option maxRecDepth 100000 in
theorem floatAdd_any (a b : Nat) (aA aZ aL : Addr) (w : World) (hE : Errs w aA aZ aL) :
    Calls Tryd.prog 6 #[.int .i64 1, .int .u64 a, .int .u64 b] w fun e w' => e = .returned (.tuple #[.int .u64 (fbV (Ieee.double.add a b) : Nat), .int .i64 0]) ∧ Below w.heap.size w w' := by
  have hF := frombits_run
  have h1 : ((a : Int)).toNat = a := Int.toNat_natCast a
  have h2 : ((b : Int)).toNat = b := Int.toNat_natCast b
  have HO := fun W : World => operAdd_any a b W
  have HC := fun (W : World) h => codeOf_any aA aZ aL .nilIface 0 W h (.inl ⟨rfl, rfl⟩)
  obtain ⟨V, hV⟩ : ∃ V, fbV (Ieee.double.add a b) = V := ⟨_, rfl⟩
  rw [hV]
  have HV : Hid (fbV (Ieee.double.add a b) = V) := hV
  clear hV
  go_enter Tryd.func6, Tryd.ntmps6
  go_wp2_with fail
  refine (HO _).mono ?_
  rintro e w1 ⟨r, rfl, b1, hr⟩
  have hfb : fbN r = V := by
    rw [← HV.out]
    rcases hr with h | ⟨h, h3⟩
    · rw [h]; rfl
    · rw [h]; unfold fbN fbV; rw [if_pos h3]
  have HB := fun W : World => floatBits_any r W
  rw [hfb] at HB
  have E1 := hE.below b1
  clear HO hr hfb
  go_wp2_with fail
  refine (HB _).mono ?_
  rintro e w2 ⟨rfl, hw2⟩
  rw [hw2]
  clear hw2 w2 HB
  go_wp2_with fail
  refine (HC _ E1).mono ?_
  rintro e w3 ⟨rfl, b3⟩
  clear HC
  go_wp2
  exact bodyPost_ret (v := .tuple #[.int .u64 (V : Nat), .int .i64 0]) (by simp [results, Tryd.results6, go_sem]) rfl ⟨rfl, b1.trans (b3.mono b1.size)⟩
set_option maxRecDepth 100000 in
theorem floatSub_any (a b : Nat) (aA aZ aL : Addr) (w : World) (hE : Errs w aA aZ aL) :
    Calls Tryd.prog 6 #[.int .i64 2, .int .u64 a, .int .u64 b] w fun e w' => e = .returned (.tuple #[.int .u64 (fbV (Ieee.double.sub a b) : Nat), .int .i64 0]) ∧ Below w.heap.size w w' := by
  have hF := frombits_run
  have h1 : ((a : Int)).toNat = a := Int.toNat_natCast a
  have h2 : ((b : Int)).toNat = b := Int.toNat_natCast b
  have HO := fun W : World => operSub_any a b W
  have HC := fun (W : World) h => codeOf_any aA aZ aL .nilIface 0 W h (.inl ⟨rfl, rfl⟩)
  obtain ⟨V, hV⟩ : ∃ V, fbV (Ieee.double.sub a b) = V := ⟨_, rfl⟩
  rw [hV]
  have HV : Hid (fbV (Ieee.double.sub a b) = V) := hV
  clear hV
  go_enter Tryd.func6, Tryd.ntmps6
  go_wp2_with fail
  refine (HO _).mono ?_
  rintro e w1 ⟨r, rfl, b1, hr⟩
  have hfb : fbN r = V := by
    rw [← HV.out]
    rcases hr with h | ⟨h, h3⟩
    · rw [h]; rfl
    · rw [h]; unfold fbN fbV; rw [if_pos h3]
  have HB := fun W : World => floatBits_any r W
  rw [hfb] at HB
  have E1 := hE.below b1
  clear HO hr hfb
  go_wp2_with fail
  refine (HB _).mono ?_
  rintro e w2 ⟨rfl, hw2⟩
  rw [hw2]
  clear hw2 w2 HB
  go_wp2_with fail
  refine (HC _ E1).mono ?_
  rintro e w3 ⟨rfl, b3⟩
  clear HC
  go_wp2
  exact bodyPost_ret (v := .tuple #[.int .u64 (V : Nat), .int .i64 0]) (by simp [results, Tryd.results6, go_sem]) rfl ⟨rfl, b1.trans (b3.mono b1.size)⟩
set_option maxRecDepth 100000 in
theorem floatMul_any (a b : Nat) (aA aZ aL : Addr) (w : World) (hE : Errs w aA aZ aL) :
    Calls Tryd.prog 6 #[.int .i64 3, .int .u64 a, .int .u64 b] w fun e w' => e = .returned (.tuple #[.int .u64 (fbV (Ieee.double.mul a b) : Nat), .int .i64 0]) ∧ Below w.heap.size w w' := by
  have hF := frombits_run
  have h1 : ((a : Int)).toNat = a := Int.toNat_natCast a
  have h2 : ((b : Int)).toNat = b := Int.toNat_natCast b
  have HO := fun W : World => operMul_any a b W
  have HC := fun (W : World) h => codeOf_any aA aZ aL .nilIface 0 W h (.inl ⟨rfl, rfl⟩)
  obtain ⟨V, hV⟩ : ∃ V, fbV (Ieee.double.mul a b) = V := ⟨_, rfl⟩
  rw [hV]
  have HV : Hid (fbV (Ieee.double.mul a b) = V) := hV
  clear hV
  go_enter Tryd.func6, Tryd.ntmps6
  go_wp2_with fail
  refine (HO _).mono ?_
  rintro e w1 ⟨r, rfl, b1, hr⟩
  have hfb : fbN r = V := by
    rw [← HV.out]
    rcases hr with h | ⟨h, h3⟩
    · rw [h]; rfl
    · rw [h]; unfold fbN fbV; rw [if_pos h3]
  have HB := fun W : World => floatBits_any r W
  rw [hfb] at HB
  have E1 := hE.below b1
  clear HO hr hfb
  go_wp2_with fail
  refine (HB _).mono ?_
  rintro e w2 ⟨rfl, hw2⟩
  rw [hw2]
  clear hw2 w2 HB
  go_wp2_with fail
  refine (HC _ E1).mono ?_
  rintro e w3 ⟨rfl, b3⟩
  clear HC
  go_wp2
  exact bodyPost_ret (v := .tuple #[.int .u64 (V : Nat), .int .i64 0]) (by simp [results, Tryd.results6, go_sem]) rfl ⟨rfl, b1.trans (b3.mono b1.size)⟩
end Go.Proofs.YtfpadeamhoeonaaDoor
