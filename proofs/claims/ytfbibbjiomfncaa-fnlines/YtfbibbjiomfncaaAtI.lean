import Derived.Test.YtfbibbjiomfncaaAtH
namespace Go.Proofs.Ytfbibbjiomfncaa
open Go.RowKit
set_option linter.unusedVariables false
set_option linter.unusedSimpArgs false

/-- What AttrGet answers. -/
noncomputable def agetA (cs : List Cl) (cl : Int) (own : List At) (s : ByteArray) : Int × Int :=
  if dec (ArgOk cs cl own ∧ lnAt cs cl ≠ []) = true then
    (if (frst cs s (lnAt cs cl)).k = 1 then (3, (frst cs s (lnAt cs cl)).v)
     else match own.find? (fun x => decide (x.n = s)) with
      | some x => (1, x.v)
      | none => if (frst cs s (lnAt cs cl)).k = 2 then (3, (frst cs s (lnAt cs cl)).v) else if (frst cs s (lnAt cs cl)).k = 0 then (2, (frst cs s (lnAt cs cl)).v) else (0, 0))
  else (-1, 0)

set_option maxRecDepth 100000 in
set_option maxHeartbeats 1000000 in
theorem attrGetS_any (v u : Value) (cs : List Cl) (cl : Int) (own : List At) (s : ByteArray) (w : World) (hr : RdC w v cs) (ho : RdA w u own) (hc0 : -9223372036854775808 ≤ cl) (hc1 : cl < 9223372036854775808) :
    Calls Try.prog 27 #[v, .int .i64 cl, u, .string s] w fun e w' => e = .returned (.tuple #[.int .i64 (agetA cs cl own s).1, .int .i64 (agetA cs cl own s).2]) ∧ Below w.heap.size w w' := by
  generalize hA : agetA cs cl own s = A
  have HA : Hid (agetA cs cl own s = A) := hA
  clear hA
  obtain ⟨ua, uc, eu⟩ := ho.form
  subst eu
  go_enter Try.func27, Try.ntmps27
  go_wp2_with fail
  refine (argsS_any v _ cs cl own _ hr ho hc0 hc1).mono ?_
  rintro e w1 ⟨a, n, c, b, rfl, ht, hf, hB1⟩
  cases b
  · obtain rfl : A = (-1, 0) := by rw [← HA.out]; unfold agetA; rw [dec_false (hf rfl)]; rfl
    go_wp2_with fail
    exact bodyPost_ret (v := .tuple #[.int .i64 (-1), .int .i64 0]) (by simp [results, Try.results27, go_sem]) rfl ⟨rfl, hB1⟩
  · obtain ⟨h1, h2, h3⟩ := ht rfl
    have hlb := lnAt_b h1
    have hA2 := HA.out
    unfold agetA at hA2
    rw [dec_true ⟨h1, h2⟩, if_pos rfl] at hA2
    have HA2 : Hid _ := hA2
    clear hA2 ht hf
    go_wp2_with fail
    refine (first_any v _ cs (lnAt cs cl) s _ (hr.keep hB1) h3 hlb).mono ?_
    rintro e w2 ⟨rfl, hB2⟩
    have hB12 := hB1.trans (hB2.mono hB1.size)
    generalize frst cs s (lnAt cs cl) = FR at *
    obtain ⟨Fn, Fk, Fv⟩ := FR
    simp only [At.val]
    have bC : Below w2.heap.size w2 (w2.alloc (.cells #[.string Fn, .int .i64 Fk, .int .i64 Fv] 58)) := (Below.refl _ w2).alloc (Nat.le_refl _) _
    have q1 : (w2.alloc (.cells #[.string Fn, .int .i64 Fk, .int .i64 Fv] 58)).cell? ⟨w2.heap.size, 1, none⟩ = some (.int .i64 Fk) := by rw [World.cell?_alloc_at _ _ _ _ rfl]; rfl
    have q2 : (w2.alloc (.cells #[.string Fn, .int .i64 Fk, .int .i64 Fv] 58)).cell? ⟨w2.heap.size, 2, none⟩ = some (.int .i64 Fv) := by rw [World.cell?_alloc_at _ _ _ _ rfl]; rfl
    have hB13 := hB12.trans (bC.mono hB12.size)
    have ho3 := ho.keep hB13
    have hB13' := hB13
    by_cases hk : Fk = 1
    · subst hk
      obtain rfl : A = (3, Fv) := by rw [← HA2.out]; rfl
      go_wp2_with fail
      go_region_held3 (fun W => W.cell? ⟨w2.heap.size, 2, none⟩ = some (.int .i64 Fv)) (go_keep) (fail)
      all_goals
        go_wp2_with fail
        exact bodyPost_ret (v := .tuple #[.int .i64 3, .int .i64 Fv]) (by simp [results, Try.results27, go_sem]) rfl ⟨rfl, hB13.drew⟩
    · have hkb : (Fk == 1) = false := by simp [hk]
      have hA3 := HA2.out
      rw [if_neg hk] at hA3
      have HA3 : Hid _ := hA3
      clear hA3 hk
      go_wp2_with fail
      refine (named_any _ own s _ ho3).mono ?_
      rintro e w4 ⟨r, rfl, hN, hw4⟩
      subst hw4
      rcases hN with ⟨rfl, hno⟩ | ⟨i, hi, rfl, hin, hib⟩
      · have hfn : own.find? (fun x => decide (x.n = s)) = none := by rw [List.find?_eq_none]; intro x hx; simpa using hno x hx
        have hA4 := HA3.out
        rw [hfn] at hA4
        simp only at hA4
        have HA4 : Hid _ := hA4
        clear hA4 hno hfn
        by_cases h2 : Fk = 2
        · subst h2
          obtain rfl : A = (3, Fv) := by rw [← HA4.out]; rfl
          go_wp2_with fail
          go_region_held3 (fun W => W.cell? ⟨w2.heap.size, 2, none⟩ = some (.int .i64 Fv)) (go_keep) (fail)
          all_goals
            go_wp2_with fail
            exact bodyPost_ret (v := .tuple #[.int .i64 3, .int .i64 Fv]) (by simp [results, Try.results27, go_sem]) rfl ⟨rfl, hB13.drew⟩
        · have h2b : (Fk == 2) = false := by simp [h2]
          by_cases h0 : Fk = 0
          · subst h0
            obtain rfl : A = (2, Fv) := by rw [← HA4.out]; rfl
            go_wp2_with fail
            go_region_held3 (fun W => W.cell? ⟨w2.heap.size, 2, none⟩ = some (.int .i64 Fv)) (go_keep) (fail)
            all_goals
              go_wp2_with fail
              exact bodyPost_ret (v := .tuple #[.int .i64 2, .int .i64 Fv]) (by simp [results, Try.results27, go_sem]) rfl ⟨rfl, hB13.drew⟩
          · have h0b : (Fk == 0) = false := by simp [h0]
            obtain rfl : A = (0, 0) := by rw [← HA4.out, if_neg h2, if_neg h0]
            clear h2 h0
            go_wp2_with fail
            exact bodyPost_ret (v := .tuple #[.int .i64 0, .int .i64 0]) (by simp [results, Try.results27, go_sem]) rfl ⟨rfl, hB13⟩
      · have hfs : own.find? (fun x => decide (x.n = s)) = some own[i] := by
          rw [List.find?_eq_some_iff_append]
          refine ⟨by simpa using hin, own.take i, own.drop (i + 1), ?_, fun x hx => by simpa using hib x hx⟩
          rw [← List.drop_eq_getElem_cons hi, List.take_append_drop]
        have hA4 := HA3.out
        rw [hfs] at hA4
        simp only at hA4
        obtain rfl : A = (1, own[i].v) := hA4.symm
        obtain ⟨ra, rc, er, _, hzr, _, hcr⟩ := ho3
        simp only [Value.slice.injEq, true_and] at er
        obtain ⟨e1, e2⟩ := er
        subst e1 e2
        obtain ⟨ab, ao, rfl, hab, hac⟩ := hcr (by omega)
        obtain ⟨c0, c1, c2⟩ := RdA.at hac i hi
        have hii : (i : Int) < (own.length : Int) := by omega
        have hi0 : (0 : Int) ≤ (i : Int) := by omega
        obtain ⟨X, hX⟩ : ∃ X, own[i].v = X := ⟨_, rfl⟩
        rw [hX] at c2
        have HX : Hid (own[i].v = X) := hX
        clear hX
        clear hfs hin hib hac hcr hzr hA4
        go_wp2_with fail
        go_region_held3 (fun W => W.cell? ⟨ab, ao + i * 3 + 2, none⟩ = some (.int .i64 X)) (go_keep) (fail)
        all_goals
          go_wp2_with fail
          exact bodyPost_ret (v := .tuple #[.int .i64 1, .int .i64 X]) (by simp [results, Try.results27, go_sem]) rfl ⟨by rw [HX.out], hB13.drew⟩
end Go.Proofs.Ytfbibbjiomfncaa
