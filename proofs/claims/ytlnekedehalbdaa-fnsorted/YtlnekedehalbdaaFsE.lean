import Derived.Test.YtlnekedehalbdaaDkT
import Derived.Test.YtlnekedehalbdaaPsF
import Derived.Test.YtlnekedehalbdaaFsD
import Derived.Deep.QuietTactic
import Derived.BigQuiet
namespace Go.Proofs.Ytlnekedehalbdaa
open Go.RowKit
set_option linter.unusedVariables false
set_option linter.unusedSimpArgs false

theorem big_any (w : World) (a : Option Addr) (n c : Nat) :
    Calls Try.prog 20 #[.slice a n c] w fun e w' => e = .returned (.bool (decide ((1048576 : Int) < (n : Int)))) ∧ w' = w := by
  go_enter Try.func20, Try.ntmps20
  go_wp2
  go_ret
  exact ⟨by simp, rfl⟩

theorem sameInts_any (v u : Value) (xs : List Int) (w : World) (hx : Rd w v xs) (hy : Rd w u xs) :
    Calls Try.prog 22 #[v, u] w fun e w' => e = .returned (.bool true) ∧ Below w.heap.size w w' := by
  obtain ⟨a, cap, rfl, hlx, hzx, hnx, hcx⟩ := hx
  obtain ⟨a', cap', rfl, hly, hzy, hny, hcy⟩ := hy
  go_enter Try.func22, Try.ntmps22
  go_wp2
  go_loopw [5] (fun i wr => ∃ k : Nat, k ≤ xs.length ∧ i = .int .i64 k ∧ Below w.heap.size w wr)
    (fun i _ => xs.length - (intOf i).toNat)
  case atStart => exact ⟨0, Nat.zero_le _, rfl, Below.refl _ _⟩
  case round =>
    obtain ⟨k, hk, rfl, hBr⟩ := hrel
    by_cases hlt : k < xs.length
    · obtain ⟨b, off, rfl, hb, hcell⟩ := hcx (by omega)
      obtain ⟨b', off', rfl, hb', hcell'⟩ := hcy (by omega)
      have hce : wr.cell? ⟨b, off + k, none⟩ = some (.int .i64 (xs.getD k 0)) := (hBr.cell (p := ⟨b, off + k, none⟩) hb).trans (hcell k hlt)
      have hce' : wr.cell? ⟨b', off' + k, none⟩ = some (.int .i64 (xs.getD k 0)) := (hBr.cell (p := ⟨b', off' + k, none⟩) hb').trans (hcell' k hlt)
      clear hcell hcell' hcx hcy
      generalize xs.getD k 0 = Z at *
      go_wp2
      go_region
      all_goals go_wp2
      all_goals
        go_roundw
        case rel => exact ⟨k + 1, by omega, by go_num, hBr.drew⟩
        case measure => simp [intOf]; omega
    · go_wp2
      go_ret
      exact ⟨rfl, hBr⟩
theorem below_dq {B : Nat} {a w : World} (h : Below B a w) (n : Nat) : Below B a (w.drewN n) := h.trans ⟨rfl, rfl, rfl, Nat.le_refl _, fun _ _ => rfl⟩
end Go.Proofs.Ytlnekedehalbdaa
