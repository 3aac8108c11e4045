import Derived.Test.YtnpjlmnhailipaaLyU
import Derived.Deep.Draws
namespace Go.Proofs.Ytnpjlmnhailipaa
open Go.RowKit Go.Maps
set_option linter.unusedVariables false
set_option linter.unusedSimpArgs false

theorem below_dn {B : Nat} {a w : World} (h : Below B a w) (n : Nat) : Below B a (w.drewN n) := h.trans ⟨rfl, rfl, rfl, Nat.le_refl _, fun _ _ => rfl⟩

theorem equal_q (v u : Value) (xs ys : List Int) (w : World) (hx : Rd w v xs) (hy : Rd w u ys) :
    Calls Try.prog 72 #[v, u] w fun e w' => e = .returned (.bool (decide (xs = ys))) ∧ ∃ n, w' = w.drewN n := by
  obtain ⟨a, cap, rfl, hlx, hzx, hnx, hcx⟩ := hx
  obtain ⟨a', cap', rfl, hly, hzy, hny, hcy⟩ := hy
  by_cases hlen : xs.length = ys.length
  · go_enter Try.func72, Try.ntmps72
    go_wp2
    go_loopw [13] (fun i wr => ∃ k : Nat, k ≤ xs.length ∧ i = .int .i64 k ∧ xs.take k = ys.take k ∧ ∃ n, wr = w.drewN n)
      (fun i _ => xs.length - (intOf i).toNat)
    case atStart => exact ⟨0, Nat.zero_le _, rfl, by simp, 0, rfl⟩
    case round =>
      obtain ⟨k, hk, rfl, hEq, nd, rfl⟩ := hrel
      by_cases hlt : k < xs.length
      · obtain ⟨b, off, rfl, hb, hcell⟩ := hcx (by omega)
        obtain ⟨b', off', rfl, hb', hcell'⟩ := hcy (by omega)
        have hlt' : k < ys.length := by omega
        have e1 : xs.getD k 0 = xs[k] := by simp [List.getD, hlt]
        have e2 : ys.getD k 0 = ys[k] := by simp [List.getD, hlt']
        have hce : w.cell? ⟨b, off + k, none⟩ = some (.int .i64 xs[k]) := by rw [hcell k hlt, e1]
        have hce' : w.cell? ⟨b', off' + k, none⟩ = some (.int .i64 ys[k]) := by rw [hcell' k hlt', e2]
        have hA := hEq
        have HL : Hid (xs.length = ys.length) := hlen
        clear hcell hcell' hcx hcy hEq hlen e1 e2
        by_cases hxy : xs[k] = ys[k]
        · have hxy' : (xs[k] == ys[k]) = true := by simpa using hxy
          have HX : Hid (xs[k] = ys[k]) := hxy
          clear hxy
          generalize hx : xs[k] = x at *
          generalize hy : ys[k] = y at *
          go_wp2
          go_region
          all_goals
            go_wp2
            go_roundw
            case rel =>
              refine ⟨k + 1, by omega, by go_num, ?_, nd + 1, by simp [go_sem]⟩
              rw [List.take_succ_eq_append_getElem hlt, List.take_succ_eq_append_getElem hlt', hA, hx, hy, HX.out]
            case measure => simp [intOf]; omega
        · have hxy' : (xs[k] == ys[k]) = false := by simpa using hxy
          have HX : Hid (¬ xs[k] = ys[k]) := hxy
          clear hxy
          generalize hx : xs[k] = x at *
          generalize hy : ys[k] = y at *
          go_wp2
          go_region
          all_goals
            go_wp2
            go_ret
            refine ⟨?_, nd + 1, by simp [go_sem]⟩
            have : xs ≠ ys := fun h => HX.out (by subst h; rw [← hx, ← hy])
            simp [this]
      · go_wp2
        go_ret
        refine ⟨?_, nd, rfl⟩
        rw [List.take_of_length_le (by omega), List.take_of_length_le (by omega)] at hEq
        simp [hEq]
  · have hne : ((xs.length : Int) == (ys.length : Int)) = false := by simp; omega
    go_enter Try.func72, Try.ntmps72
    go_wp2
    go_ret
    have : xs ≠ ys := fun h => hlen (by rw [h])
    exact ⟨by simp [this], 0, rfl⟩

end Go.Proofs.Ytnpjlmnhailipaa
