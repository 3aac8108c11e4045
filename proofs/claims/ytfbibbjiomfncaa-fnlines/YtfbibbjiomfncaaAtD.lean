import Derived.Test.YtfbibbjiomfncaaAtC
namespace Go.Proofs.Ytfbibbjiomfncaa
open Go.RowKit
set_option linter.unusedVariables false
set_option linter.unusedSimpArgs false

theorem frst_k (cs : List Cl) (s : ByteArray) (l : List Int) (k : Int) (hk : 0 ≤ k) : (frst cs s l).k = k ↔ (fstO cs s l).map At.k = some k := by
  rw [frst_eq]
  cases fstO cs s l with
  | none => simp; omega
  | some x => simp

set_option maxRecDepth 100000 in
set_option maxHeartbeats 1000000 in
theorem attrSetI_any (v u : Value) (cs : List Cl) (cl : Int) (own : List At) (s : ByteArray) (w : World) (hr : RdC w v cs) (ho : RdA w u own) (hc0 : -9223372036854775808 ≤ cl) (hc1 : cl < 9223372036854775808) :
    Calls Try.prog 32 #[v, .int .i64 cl, u, .string s] w fun e w' => e = .returned (.int .i64 (asetA cs cl own s)) ∧ Below w.heap.size w w' := by
  generalize hA : asetA cs cl own s = A
  have HA : Hid (asetA cs cl own s = A) := hA
  clear hA
  go_enter Try.func32, Try.ntmps32
  go_wp2_with fail
  refine (classAttr_any v u cs cl own s _ hr ho hc0 hc1).mono ?_
  rintro e w1 ⟨b, o, rfl, ht, hf, hB1⟩
  cases b
  · obtain rfl : A = -1 := by rw [← HA.out]; unfold asetA; rw [dec_false (hf rfl)]; rfl
    clear ht hf
    have HB1 := hB1.alloc hB1.size
    cases o
    · simp only [FdV]
      go_wp2_with fail
      go_ret
      exact ⟨rfl, hB1.alloc hB1.size _⟩
    · simp only [FdV]
      go_wp2_with fail
      go_ret
      exact ⟨rfl, hB1.alloc hB1.size _⟩
  · obtain ⟨h1, h2, rfl⟩ := ht rfl
    have hA2 : A = if (fstO cs s (lnAt cs cl)).map At.k = some 1 then 2 else 1 := by
      rw [← HA.out]; unfold asetA; rw [dec_true ⟨h1, h2⟩]
      simp only [if_true, frst_k cs s (lnAt cs cl) 1 (by omega)]
    have HA2 : Hid _ := hA2
    clear hA2 ht hf
    generalize fstO cs s (lnAt cs cl) = o at *
    have HI := fun W => isF_any o 1 W
    by_cases hk : o.map At.k = some 1
    · obtain rfl : A = 2 := by rw [HA2.out]; exact if_pos hk
      rw [decide_eq_true hk] at HI
      cases o with
      | none => simp at hk
      | some x =>
        obtain ⟨xn, xk, xv⟩ := x
        simp only [FdV] at HI ⊢
        clear HA2 hk
        go_wp2_with fail
        refine (HI _).mono ?_
        rintro e w2 ⟨rfl, hB2⟩
        go_wp2_with fail
        go_ret
        exact ⟨rfl, (hB1.alloc hB1.size _).trans (hB2.mono (hB1.alloc hB1.size _).size)⟩
    · obtain rfl : A = 1 := by rw [HA2.out]; exact if_neg hk
      rw [decide_eq_false hk] at HI
      cases o with
      | none =>
        simp only [FdV] at HI ⊢
        clear HA2 hk
        go_wp2_with fail
        refine (HI _).mono ?_
        rintro e w2 ⟨rfl, hB2⟩
        go_wp2_with fail
        go_ret
        exact ⟨rfl, (hB1.alloc hB1.size _).trans (hB2.mono (hB1.alloc hB1.size _).size)⟩
      | some x =>
        obtain ⟨xn, xk, xv⟩ := x
        simp only [FdV] at HI ⊢
        clear HA2 hk
        go_wp2_with fail
        refine (HI _).mono ?_
        rintro e w2 ⟨rfl, hB2⟩
        go_wp2_with fail
        go_ret
        exact ⟨rfl, (hB1.alloc hB1.size _).trans (hB2.mono (hB1.alloc hB1.size _).size)⟩
end Go.Proofs.Ytfbibbjiomfncaa
