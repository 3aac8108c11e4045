import Derived.Test.YtfcoffllelgakaaDoorFrameE
import Derived.Test.YtfcoffllelgakaaDoorMgIK

namespace Go.Proofs.YtfcoffllelgakaaDoor.dFloatOp
open Go.ChangeShapes Go.WideShapes Go.ChangeAt Go.RowKit Go.Shelf Go.Lib
open Go.ChangeMaps (open_string shut_string)
set_option linter.unusedVariables false
set_option linter.unusedSimpArgs false

theorem errs {W : World} (h : laidMetH Tryd.prog Rows.fnExactFloatOpRow.laid W) : ∃ aA aZ aL, Errs W aA aZ aL := by
  rw [MakeChecks.laidMetH_plain _ _ _ (by kernel_rfl)] at h
  have h1 := laidMet.filter (fun x => x.1 == nameAt Rows.fnExactFloatOpRow.laid 0 || x.1 == nameAt Rows.fnExactFloatOpRow.laid 1) h
  have h2 := laidMet.filter (fun x => x.1 == nameAt Rows.fnExactFloatOpRow.laid 0 || x.1 == nameAt Rows.fnExactFloatOpRow.laid 2) h
  have h3 := laidMet.filter (fun x => x.1 == nameAt Rows.fnExactFloatOpRow.laid 1 || x.1 == nameAt Rows.fnExactFloatOpRow.laid 2) h
  rw [show Rows.fnExactFloatOpRow.laid.filter (fun x => x.1 == nameAt Rows.fnExactFloatOpRow.laid 0 || x.1 == nameAt Rows.fnExactFloatOpRow.laid 1) = ((Rows.fnExactFloatOpRow.laid.drop 0).take 1 ++ (Rows.fnExactFloatOpRow.laid.drop 1).take 1) by kernel_rfl] at h1
  rw [show Rows.fnExactFloatOpRow.laid.filter (fun x => x.1 == nameAt Rows.fnExactFloatOpRow.laid 0 || x.1 == nameAt Rows.fnExactFloatOpRow.laid 2) = ((Rows.fnExactFloatOpRow.laid.drop 0).take 1 ++ (Rows.fnExactFloatOpRow.laid.drop 2).take 1) by kernel_rfl] at h2
  rw [show Rows.fnExactFloatOpRow.laid.filter (fun x => x.1 == nameAt Rows.fnExactFloatOpRow.laid 1 || x.1 == nameAt Rows.fnExactFloatOpRow.laid 2) = ((Rows.fnExactFloatOpRow.laid.drop 1).take 1 ++ (Rows.fnExactFloatOpRow.laid.drop 2).take 1) by kernel_rfl] at h3
  exact errs_of (r1 := []) (r2 := []) (r3 := []) h1 h2 h3 (by kernel_rfl) (by kernel_rfl) (by kernel_rfl) (by kernel_rfl) (by kernel_rfl) (by kernel_rfl)
theorem bU {n : Int} (h : (Lit.int .u64 n).wf = true) : 0 ≤ n ∧ n ≤ 18446744073709551615 := by
  simp [Lit.wf, IntKind.min, IntKind.max, IntKind.signed, IntKind.bits] at h
  omega

set_option maxRecDepth 100000 in
theorem lifted (os : Os) (started : os.Started) (H : Type) (enc : TypeId × Value → H) :
    ReturnsInHanded {} Tryd.checked os 4 .any (fun w args => (Rows.fnExactFloatOpSpec.pre enc Tryd.prog Tryd.f4 Rows.fnExactFloatOpRow.domain false w args ∧ laidMetH Tryd.prog Rows.fnExactFloatOpRow.laid w) ∧ sizedMet enc Tryd.prog Tryd.f4 (OpenSpec.ofChange Rows.fnExactFloatOpSpec) false w args)
      (Rows.fnExactFloatOpSpec.post enc Tryd.prog Tryd.f4 false true false false) := by
  refine ret_laid_shaped (C := Tryd.checked) (X := fun w _ => laidMetH Tryd.prog Rows.fnExactFloatOpRow.laid w) (fun _ _ _ hh h => h.of_heap hh) own started (by kernel_rfl) Tryd.func4
    (ChangeSpec.witness_shaped (enc := enc) (C := Tryd.checked) (os := os) (X := fun w _ => laidMetH Tryd.prog Rows.fnExactFloatOpRow.laid w) false (World.laidAll Tryd.prog os Rows.fnExactFloatOpRow.laid) #[.int .i64 0, .int .u64 0, .int .u64 0] 8 (World.laidAll_os _ _ _)
      (World.shaped_of_ZipB (by kernel_rfl) (by kernel_rfl)) (by kernel_rfl) (by kernel_rfl) (by kernel_rfl)
      (by rw [MakeChecks.laidMetH_plain _ _ _ (by kernel_rfl)]; exact laidMet_laidAll _ (by kernel_rfl) (by kernel_rfl))) ?_
  intro W base args ds gs before hval0 hW hsh hL
  have hval : ∀ (j : Nat) t v, Tryd.f4.params[j]? = some t → args[j]? = some v → Value.okWide Tryd.prog W .any base t v := hval0
  have hW' := hW
  obtain ⟨p, q, hA0, hV, rfl, _, _⟩ := hW
  have hA : DataW.TrodAll enc Tryd.prog W 0 (fun _ => true) true Tryd.f4.params.toList args.toList ds p := hA0
  rw [Tryd.params4] at hA hval
  obtain ⟨v0, vs0, d0, ds0, p0, q0, hargs, rfl, rfl, h0, r0⟩ := trodAll_cons hA
  obtain ⟨v1, vs1, d1, ds1, p1, q1, rfl, rfl, rfl, h1, r1⟩ := trodAll_cons r0
  obtain ⟨v2, vs2, d2, ds2, p2, q2, rfl, rfl, rfl, h2, r2⟩ := trodAll_cons r1
  obtain ⟨rfl, rfl, rfl⟩ := trodAll_nil r2
  obtain rfl : args = #[v0, v1, v2] := by cases args; simp_all
  obtain ⟨ga, gb, gc, rfl⟩ := vars3 hV
  obtain ⟨x0, rfl, rfl, rfl, wx0⟩ := open_int Tryd.underlying2 (hval 0 2 v0 rfl rfl) h0
  obtain ⟨x1, rfl, rfl, rfl, wx1⟩ := open_int Tryd.underlying26 (hval 1 26 v1 rfl rfl) h1
  obtain ⟨x2, rfl, rfl, rfl, wx2⟩ := open_int Tryd.underlying26 (hval 2 26 v2 rfl rfl) h2
  clear hA0 hval0
  refine (law_floatop x0 x1 x2 W (bU wx1).1 (bU wx1).2 (bU wx2).1 (bU wx2).2 (errs hL)).mono fun e W' ⟨he, bel⟩ => ?_
  subst he
  exact ⟨_, rfl, _, _, _, [], _, _, hW', trodAll_mk1 (shut_bool Tryd.underlying4 _), (trodAll_cons_mk (shut_int Tryd.underlying2 wx0) (trodAll_cons_mk (shut_int Tryd.underlying26 wx1) (trodAll_cons_mk (shut_int Tryd.underlying26 wx2) trodAll_mk0))), (Below.trodVars laidOutE bel (by kernel_rfl) hV), bel.frame _, fun h => by cases h⟩

theorem over : Rows.fnExactFloatOpRow.holds Tryd.pinned (OpenSpec.ofChange Rows.fnExactFloatOpSpec) :=
  OpenClaim.holds_of_wide 4 Tryd.f4 rfl rfl rfl rfl rfl rfl rfl ⟨rfl, rfl, rfl, rfl, rfl⟩ rfl rfl rfl rfl rfl (by kernel_rfl) Tryd.func4 (by kernel_rfl)
    (of_decide_eq_true (by kernel_rfl)) (by unfold Func.isWrapper; first | (rw [if_pos (by decide +kernel)]; kernel_rfl) | (rw [if_neg (by decide +kernel)]; exact ⟨rfl, rfl⟩))
    (fun os started H enc _ => lifted os started H enc)
end Go.Proofs.YtfcoffllelgakaaDoor.dFloatOp
namespace Go.Proofs.YtfcoffllelgakaaDoor
theorem floatOp_holds : Rows.FnExactFloatOpCardSaid :=
  Claim7.holds_tied_plain_at .later [] [.sentinel, .sentinel, .sentinel] true Rows.fnExactFloatOpCard.stood.harness true dFloatOp.over (fun _ h => by cases h) (by kernel_rfl) (fun _ h => by cases h) fnExactFloatOp_row_tie rfl ⟨rfl, rfl⟩ (by kernel_rfl) rfl
    (fun f fn hf hfn => by
      obtain rfl : f = 4 := Option.some.inj ((show Tryd.prog.funcNamed Rows.fnExactFloatOpRow.func = some 4 by kernel_rfl).symm.trans hf) |>.symm
      obtain rfl : fn = Tryd.f4 := (Option.some.inj (Tryd.func4.symm.trans hfn)).symm
      exact ⟨by kernel_rfl, fun j t ht => by
        rw [Tryd.params4] at ht
        have hm : t ∈ [2, 26, 26] := by simpa using Array.mem_of_getElem? ht
        have hall : ([2, 26, 26].all fun u => !Tryd.prog.wantsStandIn u) = true := by kernel_rfl
        exact (show Tryd.prog.wantsStandIn t = false by simpa using List.all_eq_true.1 hall t hm)⟩)
    (by kernel_rfl)
#print axioms floatOp_holds
end Go.Proofs.YtfcoffllelgakaaDoor
