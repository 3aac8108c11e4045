import Derived.Test.YtfbibbjiomfncaaAtG
namespace Go.Proofs.Ytfbibbjiomfncaa
open Go.RowKit
set_option linter.unusedVariables false
set_option linter.unusedSimpArgs false

theorem lnAt_b {cs : List Cl} {cl : Int} {own : List At} (h : ArgOk cs cl own) : ∀ y ∈ lnAt cs cl, 0 ≤ y ∧ y < (cs.length : Int) := by
  intro y hy
  have hk : cl.toNat < (lnsC cs cs.length).length := by rw [lns_len]; have := h.2.2.1; have := h.2.1; omega
  have e : lnAt cs cl = (lnsC cs cs.length)[cl.toNat] := by simp [lnAt, List.getD, hk]
  rw [e] at hy
  have := (lns_ok h.1 cs.length (Nat.le_refl _) cl.toNat hk).1 y hy
  rw [lns_len] at hk
  omega
/-- What AttrSet answers. -/
noncomputable def asetA (cs : List Cl) (cl : Int) (own : List At) (s : ByteArray) : Int := if dec (ArgOk cs cl own ∧ lnAt cs cl ≠ []) = true then (if (frst cs s (lnAt cs cl)).k = 1 then 2 else 1) else -1

set_option maxRecDepth 100000 in
set_option maxHeartbeats 1000000 in
theorem attrSetS_any (v u : Value) (cs : List Cl) (cl : Int) (own : List At) (s : ByteArray) (w : World) (hr : RdC w v cs) (ho : RdA w u own) (hc0 : -9223372036854775808 ≤ cl) (hc1 : cl < 9223372036854775808) :
    Calls Try.prog 31 #[v, .int .i64 cl, u, .string s] w fun e w' => e = .returned (.int .i64 (asetA cs cl own s)) ∧ Below w.heap.size w w' := by
  generalize hA : asetA cs cl own s = A
  have HA : Hid (asetA cs cl own s = A) := hA
  clear hA
  go_enter Try.func31, Try.ntmps31
  go_wp2_with fail
  refine (argsS_any v u cs cl own _ hr ho hc0 hc1).mono ?_
  rintro e w1 ⟨a, n, c, b, rfl, ht, hf, hB1⟩
  cases b
  · obtain rfl : A = -1 := by rw [← HA.out]; unfold asetA; rw [dec_false (hf rfl)]; rfl
    go_wp2_with fail
    go_ret
    exact ⟨rfl, hB1⟩
  · obtain ⟨h1, h2, h3⟩ := ht rfl
    have hlb := lnAt_b h1
    have hA2 : A = if (frst cs s (lnAt cs cl)).k = 1 then 2 else 1 := by rw [← HA.out]; unfold asetA; rw [dec_true ⟨h1, h2⟩]; rfl
    have HA2 : Hid _ := hA2
    clear hA2 ht hf
    go_wp2_with fail
    refine (first_any v _ cs (lnAt cs cl) s _ (hr.keep hB1) h3 hlb).mono ?_
    rintro e w2 ⟨rfl, hB2⟩
    have hB12 := hB1.trans (hB2.mono hB1.size)
    generalize frst cs s (lnAt cs cl) = FR at *
    obtain ⟨Fn, Fk, Fv⟩ := FR
    simp only [At.val]
    have hfld : (Instr.field 58 (.agg #[.string Fn, .int .i64 Fk, .int .i64 Fv]) 1).run Try.prog w2 = .ok (.int .i64 Fk) w2 := by first | rfl | kernel_rfl | simp [Instr.field, go_sem]
    by_cases hk : Fk = 1
    · subst hk
      obtain rfl : A = 2 := by rw [HA2.out]; rfl
      go_wp2_with fail
      go_ret
      exact ⟨rfl, hB12⟩
    · obtain rfl : A = 1 := by rw [HA2.out]; exact if_neg hk
      have hkb : (Fk == 1) = false := by simp [hk]
      go_wp2_with fail
      go_ret
      exact ⟨rfl, hB12⟩
end Go.Proofs.Ytfbibbjiomfncaa
