import Derived.Test.YtgbkniliojpejaaDoorOk
import Derived.Test.YtgbkniliojpejaaDoorPrim
import Derived.Test.YtgbkniliojpejaaDoorCmpR
import Derived.Deep.RegionHeld3
namespace Go.Proofs.YtgbkniliojpejaaDoor
open Go.RowKit
set_option linter.unusedVariables false
set_option linter.unusedSimpArgs false

theorem or_join (x y : Nat) (hx : x < 4294967296) (hy : y < 4294967296) : bits .or .u64 ((x : Int) * 4294967296) (y : Int) = ((x * 4294967296 + y : Nat) : Int) := by
  have e : (x : Int) * 4294967296 = ((x * 4294967296 : Nat) : Int) := by omega
  rw [e, u64_or_nat _ _ (by omega) (by omega), nat_join 32 _ _ (by omega) (by omega)]

/-- What BigInt answers. -/
def intV (g neg : Bool) (n : Nat) : Int := if g = true then (if neg = true then (if 9223372036854775808 < n then 0 else -(n : Int)) else (if 9223372036854775808 ≤ n then 0 else (n : Int))) else 0
def intB (g neg : Bool) (n : Nat) : Bool := if g = true then (if neg = true then decide (n ≤ 9223372036854775808) else decide (n < 9223372036854775808)) else false

theorem ret2 {k : IntKind} {x y : Int} {b c : Bool} (h : x = y) (g : b = c) : Ending.returned (.tuple #[.int k x, .bool b]) = .returned (.tuple #[.int k y, .bool c]) := by rw [h, g]
theorem intV_nt {n : Nat} (h : 9223372036854775808 < n) : intV true true n = 0 := by unfold intV; rw [if_pos rfl, if_pos rfl, if_pos h]
theorem intB_nt {n : Nat} (h : 9223372036854775808 < n) : intB true true n = false := by unfold intB; rw [if_pos rfl, if_pos rfl, decide_eq_false (by omega)]
theorem intV_nf {n : Nat} (h : n ≤ 9223372036854775808) : intV true true n = -(n : Int) := by unfold intV; rw [if_pos rfl, if_pos rfl, if_neg (by omega)]
theorem intB_nf {n : Nat} (h : n ≤ 9223372036854775808) : intB true true n = true := by unfold intB; rw [if_pos rfl, if_pos rfl, decide_eq_true h]
theorem intV_pt {n : Nat} (h : 9223372036854775808 ≤ n) : intV true false n = 0 := by unfold intV; rw [if_pos rfl, if_neg (by decide), if_pos h]
theorem intB_pt {n : Nat} (h : 9223372036854775808 ≤ n) : intB true false n = false := by unfold intB; rw [if_pos rfl, if_neg (by decide), decide_eq_false (by omega)]
theorem intV_pf {n : Nat} (h : n < 9223372036854775808) : intV true false n = (n : Int) := by unfold intV; rw [if_pos rfl, if_neg (by decide), if_neg (by omega)]
theorem intB_pf {n : Nat} (h : n < 9223372036854775808) : intB true false n = true := by unfold intB; rw [if_pos rfl, if_neg (by decide), decide_eq_true h]
theorem negT {n : Nat} (h0 : (1 : Int) ≤ n) (h1 : (n : Int) ≤ 18446744073709551615) (h : (!decide (wrap64 (IntKind.u64.wrap (-(n : Int))) < 0)) = true) : 9223372036854775808 < n := by
  simp only [wrap64, IntKind.wrap_u64] at h
  simp at h
  omega
theorem negF {n : Nat} (h0 : (1 : Int) ≤ n) (h1 : (n : Int) ≤ 18446744073709551615) (h : (!decide (wrap64 (IntKind.u64.wrap (-(n : Int))) < 0)) = false) : n ≤ 9223372036854775808 ∧ wrap64 (IntKind.u64.wrap (-(n : Int))) = -(n : Int) := by
  simp only [wrap64, IntKind.wrap_u64] at h ⊢
  simp at h
  omega
theorem posT {n : Nat} (h0 : (0 : Int) ≤ n) (h1 : (n : Int) ≤ 18446744073709551615) (h : wrap64 (n : Int) < 0) : 9223372036854775808 ≤ n := by
  simp only [wrap64] at h
  omega
theorem posF {n : Nat} (h0 : (0 : Int) ≤ n) (h1 : (n : Int) ≤ 18446744073709551615) (h : 0 ≤ wrap64 (n : Int)) : n < 9223372036854775808 ∧ wrap64 (n : Int) = n := by
  simp only [wrap64] at h ⊢
  omega

set_option maxHeartbeats 1000000 in
set_option maxRecDepth 100000 in
theorem bigInt_both (neg : Bool) (v : Value) (zs : List Int) (w : World) (hr : Rd w v zs) (hl2 : zs.length ≤ 2) (hok : okB neg zs = true) :
    Calls Tryd.prog 11 #[.agg #[.bool neg, v]] w fun e w' => e = .returned (.tuple #[.int .i64 (intV true neg (val zs)), .bool (intB true neg (val zs))]) ∧ Below w.heap.size w w' := by
  have hokA := bigOk_any neg v zs (w.alloc (Obj.cells #[.bool neg, v] 26)) (hr.alloc _)
  rw [hok] at hokA
  have hpos : neg = true → 0 < val zs := fun e => by subst e; obtain ⟨_, _, _, _, hz, _, _⟩ := hr; exact okB_pos hz hok
  have r1 := hr.alloc (Obj.cells #[.bool neg, v] 26)
  obtain ⟨a, cap, rfl, hl, hz, hn0, hc⟩ := hr
  have hat1 := fun W h => at_any (.slice a zs.length cap) zs 1 W h (by omega)
  have hat0 := fun W h => at_any (.slice a zs.length cap) zs 0 W h (by omega)
  clear hc
  have hV : val zs = (zs.getD 1 0).toNat * 4294967296 + (zs.getD 0 0).toNat := by
    match zs, hl2 with
    | [], _ => rfl
    | [x], _ => simp [val, List.getD]
    | [x, y], _ => simp [val, List.getD]; omega
  have h1b := hz.get 1
  have h0b := hz.get 0
  have hor := or_join (zs.getD 1 0).toNat (zs.getD 0 0).toNat (by omega) (by omega)
  rw [← hV, Int.toNat_of_nonneg h1b.1, Int.toNat_of_nonneg h0b.1] at hor
  have hN1 : (val zs : Int) ≤ 18446744073709551615 := by omega
  have hN0 : (0 : Int) ≤ val zs := by omega
  have HP : Hid (neg = true → 0 < val zs) := hpos
  clear hpos
  generalize zs.getD 1 0 = X1 at hat1 h1b hor hV
  generalize zs.getD 0 0 = X0 at hat0 h0b hor hV
  generalize val zs = n at hor hN1 hN0 HP hV ⊢
  clear hV
  have hl3 : (zs.length : Int) ≤ 2 := by omega
  cases neg with
  | true =>
    have hn1 : (1 : Int) ≤ n := by have := HP.out rfl; omega
    go_enter Tryd.func11, Tryd.ntmps11
    go_wp2_with fail
    refine hokA.mono ?_
    rintro e w1 ⟨rfl, hB⟩
    have bA := (Box.new w (.bool true) (.slice a zs.length cap) 26).keep hB
    replace r1 := r1.keep hB
    have hW := below_of_alloc hB
    obtain ⟨-, k0, k1⟩ := id bA
    clear hokA hB
    go_wp2_with fail
    refine (hat1 _ r1).mono ?_
    rintro e w2 ⟨rfl, rfl⟩
    go_wp2_with fail
    refine (hat0 _ r1).mono ?_
    rintro e w2 ⟨rfl, rfl⟩
    go_wp2
    all_goals go_ret2
    · exact ⟨ret2 (intV_nt (negT hn1 hN1 (by assumption))).symm (intB_nt (negT hn1 hN1 (by assumption))).symm, hW⟩
    · exact ⟨ret2 ((negF hn1 hN1 (by assumption)).2.trans (intV_nf (negF hn1 hN1 (by assumption)).1).symm) (intB_nf (negF hn1 hN1 (by assumption)).1).symm, hW⟩
  | false =>
    go_enter Tryd.func11, Tryd.ntmps11
    go_wp2_with fail
    refine hokA.mono ?_
    rintro e w1 ⟨rfl, hB⟩
    have bA := (Box.new w (.bool false) (.slice a zs.length cap) 26).keep hB
    replace r1 := r1.keep hB
    have hW := below_of_alloc hB
    obtain ⟨-, k0, k1⟩ := id bA
    clear hokA hB
    go_wp2_with fail
    refine (hat1 _ r1).mono ?_
    rintro e w2 ⟨rfl, rfl⟩
    go_wp2_with fail
    refine (hat0 _ r1).mono ?_
    rintro e w2 ⟨rfl, rfl⟩
    go_wp2
    all_goals go_ret2
    · exact ⟨ret2 (intV_pt (posT hN0 hN1 (by assumption))).symm (intB_pt (posT hN0 hN1 (by assumption))).symm, hW⟩
    · exact ⟨ret2 ((posF hN0 hN1 (by assumption)).2.trans (intV_pf (posF hN0 hN1 (by assumption)).1).symm) (intB_pf (posF hN0 hN1 (by assumption)).1).symm, hW⟩

theorem negV {n : Nat} (h0 : (1 : Int) ≤ n) (h1 : n ≤ 9223372036854775808) : wrap64 (IntKind.u64.wrap (-(n : Int))) = -(n : Int) := by
  simp only [wrap64, IntKind.wrap_u64]
  omega

set_option maxHeartbeats 1000000 in
set_option maxRecDepth 100000 in
theorem bigInt_any (neg : Bool) (v : Value) (zs : List Int) (w : World) (hr : Rd w v zs) :
    Calls Tryd.prog 11 #[.agg #[.bool neg, v]] w fun e w' => e = .returned (.tuple #[.int .i64 (intV (okB neg zs && decide (zs.length ≤ 2)) neg (val zs)), .bool (intB (okB neg zs && decide (zs.length ≤ 2)) neg (val zs))]) ∧ Below w.heap.size w w' := by
  cases hok : okB neg zs with
  | false =>
    have hokA := bigOk_any neg v zs (w.alloc (Obj.cells #[.bool neg, v] 26)) (hr.alloc _)
    rw [hok] at hokA
    rw [Bool.false_and, show intV false neg (val zs) = 0 from rfl, show intB false neg (val zs) = false from rfl]
    obtain ⟨a, cap, rfl, hl, hz, hn0, hc⟩ := hr
    clear hc hok hn0
    go_enter Tryd.func11, Tryd.ntmps11
    go_wp2_with fail
    refine hokA.mono ?_
    rintro e w1 ⟨rfl, hB⟩
    clear hokA
    go_wp2
    go_ret2
    exact ⟨rfl, below_of_alloc hB⟩
  | true =>
    by_cases hl2 : zs.length ≤ 2
    · rw [Bool.true_and, decide_eq_true hl2]
      exact bigInt_both neg v zs w hr hl2 hok
    · have hokA := bigOk_any neg v zs (w.alloc (Obj.cells #[.bool neg, v] 26)) (hr.alloc _)
      rw [hok] at hokA
      rw [Bool.true_and, decide_eq_false hl2, show intV false neg (val zs) = 0 from rfl, show intB false neg (val zs) = false from rfl]
      obtain ⟨a, cap, rfl, hl, hz, hn0, hc⟩ := hr
      have hl3 : (2 : Int) < (zs.length : Int) := by omega
      clear hc hok hn0 hl2
      go_enter Tryd.func11, Tryd.ntmps11
      go_wp2_with fail
      refine hokA.mono ?_
      rintro e w1 ⟨rfl, hB⟩
      obtain ⟨-, k0, k1⟩ := (Box.new w (.bool neg) (.slice a zs.length cap) 26).keep hB
      clear hokA
      go_wp2
      go_ret2
      exact ⟨rfl, below_of_alloc hB⟩

end Go.Proofs.YtgbkniliojpejaaDoor
