import Derived.Test.YtfbibbjiomfncaaMrX
namespace Go.Proofs.Ytfbibbjiomfncaa
open Go.RowKit Go.Maps
set_option linter.unusedVariables false
set_option linter.unusedSimpArgs false

theorem emptyF_any (a : Option Addr) (n c : Nat) (w : World) : Calls Try.prog 79 #[.slice a n c] w fun e w' => e = .returned (.bool (decide (n = 0))) ∧ w' = w := by
  go_enter Try.func79, Try.ntmps79
  go_wp2
  go_ret
  by_cases h : n = 0
  · subst h; exact ⟨rfl, rfl⟩
  · refine ⟨?_, rfl⟩
    have : ((n : Int) == 0) = false := by rw [beq_eq_false_iff_ne]; omega
    simp [h, this]

theorem RL.max {w : World} {v : Value} {Ls : List (List Int)} (h : RL w v Ls) : Ls.length ≤ 16777216 := by
  obtain ⟨sls, h1, h2, _⟩ := h; rw [← h2]; exact h1.max
/-- The reading of an outer row, cell by cell. -/
theorem RL.at {w : World} {a : Option Addr} {n cap : Nat} {Ls : List (List Int)} (h : RL w (.slice a n cap) Ls) (k : Nat) (hk : k < Ls.length) : ∃ b off sa sc, a = some ⟨b, off, none⟩ ∧ b < w.heap.size ∧ w.cell? ⟨b, off + k, none⟩ = some (.slice sa Ls[k].length sc) ∧ Rd w (.slice sa Ls[k].length sc) Ls[k] := by
  obtain ⟨sls, ⟨a', c', e, _, _, _, hc⟩, hl, hR⟩ := h
  simp only [Value.slice.injEq] at e
  obtain ⟨rfl, -, rfl⟩ := e
  obtain ⟨b, off, rfl, hb, hcs⟩ := hc (by omega)
  have hk' : k < sls.length := by omega
  have hRk := hR k hk' hk
  obtain ⟨sa, sc, es⟩ := hRk.form
  have hcc := hcs k hk' 0 (by decide)
  simp only [show shL.n = 1 from rfl, Nat.mul_one, Nat.add_zero] at hcc
  refine ⟨b, off, sa, sc, rfl, hb, ?_, by rw [← es]; exact hRk⟩
  rw [hcc, ← es]; rfl

set_option maxRecDepth 100000 in
set_option maxHeartbeats 1000000 in
theorem indexE_any (a : Option Addr) (cap : Nat) (Ls : List (List Int)) (w : World) (hr : RL w (.slice a Ls.length cap) Ls) :
    Calls Try.prog 80 #[.slice a Ls.length cap, .func (.func 79) #[] #[]] w fun e w' => ((e = .returned (.int .i64 (-1)) ∧ NoE Ls) ∨ ∃ i : Nat, ∃ hi : i < Ls.length, e = .returned (.int .i64 i) ∧ Ls[i] = [] ∧ NoE (Ls.take i)) ∧ w' = w := by
  have hlm : Ls.length ≤ 16777216 := hr.max
  go_enter Try.func80, Try.ntmps80
  go_wp2_with fail
  go_loopw [8] (fun i wr => ∃ k : Nat, k ≤ Ls.length ∧ i = .int .i64 k ∧ NoE (Ls.take k) ∧ wr = w) (fun i _ => Ls.length - (intOf i).toNat)
  case atStart => exact ⟨0, Nat.zero_le _, rfl, by simp [NoE], rfl⟩
  case round =>
    obtain ⟨k, hk, rfl, hA, hw⟩ := hrel
    have hw' := hw.symm
    subst hw'
    by_cases hlt : k < Ls.length
    · obtain ⟨b, off, sa, sc, rfl, hb, d0, hRk⟩ := hr.at k hlt
      have htk := List.take_succ_eq_append_getElem hlt
      have hlti : (k : Int) < (Ls.length : Int) := by omega
      go_wp2_with fail
      refine (emptyF_any _ _ _ _).mono ?_
      rintro e w1 ⟨rfl, rfl⟩
      by_cases h0 : Ls[k].length = 0
      · rw [decide_eq_true h0]
        go_wp2
        go_ret
        exact ⟨.inr ⟨k, hlt, rfl, List.length_eq_zero_iff.mp h0, hA⟩, rfl⟩
      · rw [decide_eq_false h0]
        have hA2 : NoE (Ls.take (k + 1)) := by rw [htk, noE_snoc]; exact ⟨hA, fun h => h0 (by rw [h]; rfl)⟩
        go_wp2
        go_roundw
        case rel => exact ⟨k + 1, by omega, by go_num, hA2, by trivial⟩
        case measure => simp [intOf]; omega
    · obtain rfl : k = Ls.length := by omega
      rw [List.take_length] at hA
      go_wp2
      go_ret
      exact ⟨.inl rfl, rfl⟩

end Go.Proofs.Ytfbibbjiomfncaa
