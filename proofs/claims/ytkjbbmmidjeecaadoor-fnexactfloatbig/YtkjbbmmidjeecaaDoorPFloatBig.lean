import Derived.Test.YtkjbbmmidjeecaaDoorFrameE
import Derived.Test.YtkjbbmmidjeecaaDoorFBigL

namespace Go.Proofs.YtkjbbmmidjeecaaDoor.dFloatBig
open Go.ChangeShapes Go.WideShapes Go.ChangeAt Go.RowKit Go.Shelf Go.Lib
open Go.ChangeMaps (open_string shut_string)
set_option linter.unusedVariables false
set_option linter.unusedSimpArgs false

theorem errs {W : World} (h : laidMetH Tryd.prog Rows.fnExactFloatBigRow.laid W) : ∃ aA aZ aL, Errs W aA aZ aL := by
  rw [MakeChecks.laidMetH_plain _ _ _ (by kernel_rfl)] at h
  have h1 := laidMet.filter (fun x => x.1 == nameAt Rows.fnExactFloatBigRow.laid 0 || x.1 == nameAt Rows.fnExactFloatBigRow.laid 1) h
  have h2 := laidMet.filter (fun x => x.1 == nameAt Rows.fnExactFloatBigRow.laid 0 || x.1 == nameAt Rows.fnExactFloatBigRow.laid 2) h
  have h3 := laidMet.filter (fun x => x.1 == nameAt Rows.fnExactFloatBigRow.laid 1 || x.1 == nameAt Rows.fnExactFloatBigRow.laid 2) h
  rw [show Rows.fnExactFloatBigRow.laid.filter (fun x => x.1 == nameAt Rows.fnExactFloatBigRow.laid 0 || x.1 == nameAt Rows.fnExactFloatBigRow.laid 1) = ((Rows.fnExactFloatBigRow.laid.drop 0).take 1 ++ (Rows.fnExactFloatBigRow.laid.drop 1).take 1) by kernel_rfl] at h1
  rw [show Rows.fnExactFloatBigRow.laid.filter (fun x => x.1 == nameAt Rows.fnExactFloatBigRow.laid 0 || x.1 == nameAt Rows.fnExactFloatBigRow.laid 2) = ((Rows.fnExactFloatBigRow.laid.drop 0).take 1 ++ (Rows.fnExactFloatBigRow.laid.drop 2).take 1) by kernel_rfl] at h2
  rw [show Rows.fnExactFloatBigRow.laid.filter (fun x => x.1 == nameAt Rows.fnExactFloatBigRow.laid 1 || x.1 == nameAt Rows.fnExactFloatBigRow.laid 2) = ((Rows.fnExactFloatBigRow.laid.drop 1).take 1 ++ (Rows.fnExactFloatBigRow.laid.drop 2).take 1) by kernel_rfl] at h3
  exact errs_of (r1 := []) (r2 := []) (r3 := []) h1 h2 h3 (by kernel_rfl) (by kernel_rfl) (by kernel_rfl) (by kernel_rfl) (by kernel_rfl) (by kernel_rfl)
theorem bU {n : Int} (h : (Lit.int .u64 n).wf = true) : 0 ≤ n ∧ n ≤ 18446744073709551615 := by
  simp [Lit.wf, IntKind.min, IntKind.max, IntKind.signed, IntKind.bits] at h
  omega

set_option maxRecDepth 100000 in
theorem lifted (os : Os) (started : os.Started) (H : Type) (enc : TypeId × Value → H) :
    ReturnsInHanded {} Tryd.checked os 3 .any (fun w args => (Rows.fnExactFloatBigSpec.pre enc Tryd.prog Tryd.f3 Rows.fnExactFloatBigRow.domain false w args ∧ laidMetH Tryd.prog Rows.fnExactFloatBigRow.laid w) ∧ sizedMet enc Tryd.prog Tryd.f3 (OpenSpec.ofChange Rows.fnExactFloatBigSpec) false w args)
      (Rows.fnExactFloatBigSpec.post enc Tryd.prog Tryd.f3 false true false false) := by
  refine ret_laid_shaped (C := Tryd.checked) (X := fun w _ => laidMetH Tryd.prog Rows.fnExactFloatBigRow.laid w) (fun _ _ _ hh h => h.of_heap hh) own started (by kernel_rfl) Tryd.func3
    (ChangeSpec.witness_shaped (enc := enc) (C := Tryd.checked) (os := os) (X := fun w _ => laidMetH Tryd.prog Rows.fnExactFloatBigRow.laid w) false (World.laidAll Tryd.prog os Rows.fnExactFloatBigRow.laid) #[.int .u64 0] 8 (World.laidAll_os _ _ _)
      (World.shaped_of_ZipB (by kernel_rfl) (by kernel_rfl)) (by kernel_rfl) (by kernel_rfl) (by kernel_rfl)
      (by rw [MakeChecks.laidMetH_plain _ _ _ (by kernel_rfl)]; exact laidMet_laidAll _ (by kernel_rfl) (by kernel_rfl))) ?_
  intro W base args ds gs before hval0 hW hsh hL
  have hval : ∀ (j : Nat) t v, Tryd.f3.params[j]? = some t → args[j]? = some v → Value.okWide Tryd.prog W .any base t v := hval0
  have hW' := hW
  obtain ⟨p, q, hA0, hV, rfl, _, _⟩ := hW
  have hA : DataW.TrodAll enc Tryd.prog W 0 (fun _ => true) true Tryd.f3.params.toList args.toList ds p := hA0
  rw [Tryd.params3] at hA hval
  obtain ⟨v0, d0, rfl, rfl, h0⟩ := trodAll_one hA
  obtain ⟨ga, gb, gc, rfl⟩ := vars3 hV
  obtain ⟨x0, rfl, rfl, rfl, wx0⟩ := open_int Tryd.underlying22 (hval 0 22 v0 rfl rfl) h0
  clear hA0 hval0
  refine (law_floatbig x0 W (bU wx0).1 (bU wx0).2 (errs hL)).mono fun e W' ⟨he, bel⟩ => ?_
  subst he
  exact ⟨_, rfl, _, _, _, [], _, _, hW', trodAll_mk1 (shut_bool Tryd.underlying4 _), trodAll_mk1 (shut_int Tryd.underlying22 wx0), (Below.trodVars laidOutE bel (by kernel_rfl) hV), bel.frame _, fun h => by cases h⟩

theorem over : Rows.fnExactFloatBigRow.holds Tryd.pinned (OpenSpec.ofChange Rows.fnExactFloatBigSpec) :=
  OpenClaim.holds_of_wide 3 Tryd.f3 rfl rfl rfl rfl rfl rfl rfl ⟨rfl, rfl, rfl, rfl, rfl⟩ rfl rfl rfl rfl rfl (by kernel_rfl) Tryd.func3 (by kernel_rfl)
    (of_decide_eq_true (by kernel_rfl)) (by unfold Func.isWrapper; first | (rw [if_pos (by decide +kernel)]; kernel_rfl) | (rw [if_neg (by decide +kernel)]; exact ⟨rfl, rfl⟩))
    (fun os started H enc _ => lifted os started H enc)
end Go.Proofs.YtkjbbmmidjeecaaDoor.dFloatBig
namespace Go.Proofs.YtkjbbmmidjeecaaDoor
theorem floatBig_holds : Rows.FnExactFloatBigCardSaid :=
  Claim7.holds_tied_plain_at .later [] [.sentinel, .sentinel, .sentinel] true Rows.fnExactFloatBigCard.stood.harness true dFloatBig.over (fun _ h => by cases h) (by kernel_rfl) (fun _ h => by cases h) fnExactFloatBig_row_tie rfl ⟨rfl, rfl⟩ (by kernel_rfl) rfl
    (fun f fn hf hfn => by
      obtain rfl : f = 3 := Option.some.inj ((show Tryd.prog.funcNamed Rows.fnExactFloatBigRow.func = some 3 by kernel_rfl).symm.trans hf) |>.symm
      obtain rfl : fn = Tryd.f3 := (Option.some.inj (Tryd.func3.symm.trans hfn)).symm
      exact ⟨by kernel_rfl, fun j t ht => by
        rw [Tryd.params3] at ht
        have hm : t ∈ [22] := by simpa using Array.mem_of_getElem? ht
        have hall : ([22].all fun u => !Tryd.prog.wantsStandIn u) = true := by kernel_rfl
        exact (show Tryd.prog.wantsStandIn t = false by simpa using List.all_eq_true.1 hall t hm)⟩)
    (by kernel_rfl)
#print axioms floatBig_holds
end Go.Proofs.YtkjbbmmidjeecaaDoor
