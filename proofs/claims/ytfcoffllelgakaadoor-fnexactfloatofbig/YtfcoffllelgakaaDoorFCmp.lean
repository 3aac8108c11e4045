import Derived.Test.YtfcoffllelgakaaDoorFM
import Derived.Test.YtfcoffllelgakaaDoorShl
import Derived.Laws.Externs
import Derived.Deep.RegionHeld3
namespace Go.Proofs.YtfcoffllelgakaaDoor
open Go.RowKit
set_option linter.unusedVariables false
set_option linter.unusedSimpArgs false

theorem frombits_run (n : Int) (w : World) : (callFunc 38 #[.int .u64 n]).run Tryd.prog w = .ok (.value (.float .f64 n.toNat)) w := by
  rw [run_callFunc_extern (e := Extern.MathFloatBits.float64frombits) Tryd.func38 (by kernel_rfl) (by kernel_rfl) (by kernel_rfl) (by kernel_rfl)]
  rfl

theorem isNanS_any (x : Int) (w : World) (h0 : 0 ≤ x) (h1 : x ≤ 18446744073709551615) :
    Calls Tryd.prog 32 #[.int .u64 x] w fun e w' => e = .returned (.bool (isN x.toNat)) ∧ w' = w := by
  have h := andNot_sign x h0 h1
  go_enter Tryd.func32, Tryd.ntmps32
  go_wp2
  go_ret
  refine ⟨congrArg (fun b => Ending.returned (Value.bool b)) (?_ : decide (9218868437227405312 < (frung x.toNat : Int)) = _), rfl⟩
  unfold isN
  rw [decide_eq_decide]
  omega

theorem isInfS_any (x : Int) (w : World) (h0 : 0 ≤ x) (h1 : x ≤ 18446744073709551615) :
    Calls Tryd.prog 25 #[.int .u64 x] w fun e w' => e = .returned (.bool (isI x.toNat)) ∧ w' = w := by
  have h := andNot_sign x h0 h1
  go_enter Tryd.func25, Tryd.ntmps25
  go_wp2
  go_ret
  refine ⟨congrArg (fun b => Ending.returned (Value.bool b)) (?_ : ((frung x.toNat : Int) == 9218868437227405312) = _), rfl⟩
  unfold isI
  by_cases h : frung x.toNat = 9218868437227405312
  · rw [h]; rfl
  · rw [decide_eq_false h, beq_eq_false_iff_ne]; omega

theorem negS_any (x : Int) (w : World) (h0 : 0 ≤ x) (h1 : x ≤ 18446744073709551615) :
    Calls Tryd.prog 64 #[.int .u64 x] w fun e w' => e = .returned (.bool (fneg x.toNat)) ∧ w' = w := by
  have h := and_sign x h0 h1
  cases hs : fneg x.toNat
  · rw [hs] at h
    rw [if_neg (by simp)] at h
    go_enter Tryd.func64, Tryd.ntmps64
    go_wp2
    go_ret
    exact ⟨rfl, rfl⟩
  · rw [hs, if_pos rfl] at h
    go_enter Tryd.func64, Tryd.ntmps64
    go_wp2
    go_ret
    exact ⟨rfl, rfl⟩

set_option maxRecDepth 100000 in
theorem magS_any (u : Int) (w : World) (h0 : 0 ≤ u) (h1 : u ≤ 18446744073709551615) :
    Calls Tryd.prog 93 #[.int .u64 u] w fun e w' => ∃ a c, e = .returned (.slice a (lim u.natAbs).length c) ∧ Own w' w.heap.size (.slice a (lim u.natAbs).length c) (lim u.natAbs) ∧ Below w.heap.size w w' := by
  have hK := fun W v hr => trimS_any v [u % 4294967296, u / 4294967296] W hr
  rw [val_two2 h0 h1] at hK
  generalize lim u.natAbs = L at hK ⊢
  have hK := hK _ _ (Rd.two w w.heap.size rfl (x := u % 4294967296) (y := u / 4294967296) (by omega) (by omega) (by omega) (by omega))
  go_enter Tryd.func93, Tryd.ntmps93
  go_wp2_with fail
  rw [low32 h0 h1]
  refine hK.mono ?_
  rintro e w1 ⟨a1, c1, rfl, hO, hB⟩
  clear hK
  go_wp2
  go_ret
  exact ⟨a1, c1, rfl, hO.mono (by simp), below_of_alloc hB⟩

set_option maxRecDepth 100000 in
theorem unitsS_any (x : Int) (w : World) (h0 : 0 ≤ x) (h1 : x ≤ 18446744073709551615) :
    Calls Tryd.prog 65 #[.int .u64 x] w fun e w' => ∃ a c, e = .returned (.slice a (lim (fu x.toNat)).length c) ∧ Own w' w.heap.size (.slice a (lim (fu x.toNat)).length c) (lim (fu x.toNat)) ∧ Below w.heap.size w w' := by
  have he := and_exp x h0 h1
  have hf := and_frac x h0 h1
  have hfl : ffrac x.toNat < 4503599627370496 := Nat.mod_lt _ (by decide)
  have hel : fexp x.toNat < 2048 := Nat.mod_lt _ (by decide)
  by_cases hx : fexp x.toNat = 0
  · have hfu : fu x.toNat = ffrac x.toNat := by unfold fu; rw [if_pos hx]
    have hK := magS_any (ffrac x.toNat : Int) w (by omega) (by omega)
    rw [Int.natAbs_natCast] at hK
    rw [hfu]
    rw [hx] at he
    generalize lim (ffrac x.toNat) = L at hK ⊢
    go_enter Tryd.func65, Tryd.ntmps65
    go_wp2_with fail
    refine hK.mono ?_
    rintro e w1 ⟨a1, c1, rfl, hO, hB⟩
    clear hK
    go_wp2
    go_ret
    exact ⟨a1, c1, rfl, hO, hB⟩
  · have hfu : fu x.toNat = (ffrac x.toNat + 4503599627370496) * 2 ^ (fexp x.toNat - 1) := by unfold fu; rw [if_neg hx]
    have hor := or_hidden x.toNat
    have hK := magS_any ((ffrac x.toNat + 4503599627370496 : Nat) : Int) w (by omega) (by omega)
    rw [Int.natAbs_natCast] at hK
    have hS := fun W v h => shlMag_any v (lim (ffrac x.toNat + 4503599627370496)) (fexp x.toNat - 1) W h (Nat.le_trans (lim_len_gen _ 11 2 (by omega) (by decide)) (by decide)) (by omega)
    rw [val_lim, ← hfu] at hS
    have hsub : ((fexp x.toNat : Int) - 1) = ((fexp x.toNat - 1 : Nat) : Int) := by omega
    generalize lim (fu x.toNat) = L at hS ⊢
    generalize lim (ffrac x.toNat + 4503599627370496) = M at hK hS
    generalize ffrac x.toNat + 4503599627370496 = fr at hor hK
    generalize fexp x.toNat - 1 = e1 at hS hsub
    generalize fexp x.toNat = ex at *
    go_enter Tryd.func65, Tryd.ntmps65
    go_wp2_with fail
    refine hK.mono ?_
    rintro e w1 ⟨a1, c1, rfl, hO, hB⟩
    clear hK
    go_wp2_with fail
    refine (hS _ _ hO.rd).mono ?_
    rintro e w2 ⟨a2, c2, rfl, hO2, hB2⟩
    clear hS
    go_wp2
    go_ret
    exact ⟨a2, c2, rfl, hO2.mono hB.size, hB.trans (hB2.mono hB.size)⟩

end Go.Proofs.YtfcoffllelgakaaDoor
