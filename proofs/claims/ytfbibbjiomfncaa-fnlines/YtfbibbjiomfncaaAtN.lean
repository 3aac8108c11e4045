import Derived.Test.YtfbibbjiomfncaaClS
namespace Go.Proofs.Ytfbibbjiomfncaa
open Go.RowKit
set_option linter.unusedVariables false
set_option linter.unusedSimpArgs false

/-- The first of a name: its place. -/
def NmAt (xs : List At) (s : ByteArray) (r : Int) : Prop := (r = -1 ∧ ∀ x ∈ xs, x.n ≠ s) ∨ ∃ i : Nat, ∃ hi : i < xs.length, r = (i : Int) ∧ xs[i].n = s ∧ ∀ x ∈ xs.take i, x.n ≠ s
set_option maxRecDepth 100000 in
set_option maxHeartbeats 1000000 in
theorem named_any (v : Value) (xs : List At) (s : ByteArray) (w : World) (hr : RdA w v xs) :
    Calls Try.prog 53 #[v, .string s] w fun e w' => ∃ r, e = .returned (.int .i64 r) ∧ NmAt xs s r ∧ w' = w := by
  obtain ⟨a, cap, rfl, hl, hz, hn0, hc⟩ := hr
  go_enter Try.func53, Try.ntmps53
  go_wp2_with fail
  go_loopw [5] (fun i wr => ∃ k : Nat, k ≤ xs.length ∧ i = .int .i64 k ∧ Hid (∀ x ∈ xs.take k, x.n ≠ s) ∧ wr = w) (fun i _ => xs.length - (intOf i).toNat)
  case atStart => exact ⟨0, Nat.zero_le _, rfl, (by intro x hx; simp at hx), rfl⟩
  case round =>
    obtain ⟨k, hk, rfl, hA, hw⟩ := hrel
    have hw' := hw.symm
    subst hw'
    by_cases hlt : k < xs.length
    · have hlti : (k : Int) < (xs.length : Int) := by omega
      obtain ⟨b, off, rfl, hb, hcell⟩ := hc (by omega)
      obtain ⟨d0, d1, d2⟩ := RdA.at hcell k hlt
      have htk := List.take_succ_eq_append_getElem hlt
      have Htk : Hid _ := htk
      have hok := hz xs[k] (List.getElem_mem hlt)
      obtain ⟨E, hE⟩ : ∃ E, xs[k] = E := ⟨_, rfl⟩
      rw [hE] at d0 d1 d2
      have HE : Hid (xs[k] = E) := hE
      clear htk hE hcell hc
      by_cases hs : E.n = s
      · have hsb : (E.n.toList == s.toList) = true := by simp [hs]
        go_wp2_with fail
        go_ret
        exact ⟨_, rfl, .inr ⟨k, hlt, rfl, by rw [HE.out]; exact hs, hA.out⟩, rfl⟩
      · have hsb := str_ne hs
        have hA2 : Hid (∀ x ∈ xs.take (k + 1), x.n ≠ s) := by
          intro x hx
          rw [Htk.out] at hx
          rcases List.mem_append.mp hx with h | h
          · exact hA.out x h
          · simp at h; subst h; rw [HE.out]; exact hs
        go_wp2_with fail
        go_roundw
        case rel => exact ⟨k + 1, by omega, by go_num, hA2, by trivial⟩
        case measure => simp [intOf]; omega
    · obtain rfl : k = xs.length := by omega
      have hA3 := hA.out
      rw [List.take_length] at hA3
      have HA3 : Hid _ := hA3
      clear hA3
      go_wp2_with fail
      go_ret
      exact ⟨_, rfl, .inl ⟨rfl, HA3.out⟩, rfl⟩
end Go.Proofs.Ytfbibbjiomfncaa
