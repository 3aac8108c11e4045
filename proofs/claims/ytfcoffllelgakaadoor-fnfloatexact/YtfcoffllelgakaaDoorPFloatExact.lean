import Derived.Test.YtfcoffllelgakaaDoorFrameR
import Derived.Test.YtfcoffllelgakaaDoorMgNe

namespace Go.Proofs.YtfcoffllelgakaaDoor.dFloatExact
open Go.ChangeShapes Go.WideShapes Go.ChangeAt Go.RowKit Go.Shelf Go.Lib
open Go.ChangeMaps (open_string shut_string)
set_option linter.unusedVariables false
set_option linter.unusedSimpArgs false

theorem errs {W : World} (h : laidMetH Tryd.prog Rows.fnFloatExactRow.laid W) : ∃ aA aZ aL, Errs W aA aZ aL := by
  rw [MakeChecks.laidMetH_plain _ _ _ (by kernel_rfl)] at h
  have h1 := laidMet.filter (fun x => x.1 == nameAt Rows.fnFloatExactRow.laid 0 || x.1 == nameAt Rows.fnFloatExactRow.laid 1) h
  have h2 := laidMet.filter (fun x => x.1 == nameAt Rows.fnFloatExactRow.laid 0 || x.1 == nameAt Rows.fnFloatExactRow.laid 2) h
  have h3 := laidMet.filter (fun x => x.1 == nameAt Rows.fnFloatExactRow.laid 1 || x.1 == nameAt Rows.fnFloatExactRow.laid 2) h
  rw [show Rows.fnFloatExactRow.laid.filter (fun x => x.1 == nameAt Rows.fnFloatExactRow.laid 0 || x.1 == nameAt Rows.fnFloatExactRow.laid 1) = ((Rows.fnFloatExactRow.laid.drop 0).take 1 ++ (Rows.fnFloatExactRow.laid.drop 1).take 1) by kernel_rfl] at h1
  rw [show Rows.fnFloatExactRow.laid.filter (fun x => x.1 == nameAt Rows.fnFloatExactRow.laid 0 || x.1 == nameAt Rows.fnFloatExactRow.laid 2) = ((Rows.fnFloatExactRow.laid.drop 0).take 1 ++ (Rows.fnFloatExactRow.laid.drop 2).take 1) by kernel_rfl] at h2
  rw [show Rows.fnFloatExactRow.laid.filter (fun x => x.1 == nameAt Rows.fnFloatExactRow.laid 1 || x.1 == nameAt Rows.fnFloatExactRow.laid 2) = ((Rows.fnFloatExactRow.laid.drop 1).take 1 ++ (Rows.fnFloatExactRow.laid.drop 2).take 1) by kernel_rfl] at h3
  exact errs_of (r1 := []) (r2 := []) (r3 := []) h1 h2 h3 (by kernel_rfl) (by kernel_rfl) (by kernel_rfl) (by kernel_rfl) (by kernel_rfl) (by kernel_rfl)

set_option maxRecDepth 100000 in
theorem lifted (os : Os) (started : os.Started) (H : Type) (enc : TypeId × Value → H) :
    ReturnsInHanded {} Tryd.checked os 5 .any (fun w args => (Rows.fnFloatExactSpec.pre enc Tryd.prog Tryd.f5 Rows.fnFloatExactRow.domain false w args ∧ laidMetH Tryd.prog Rows.fnFloatExactRow.laid w) ∧ sizedMet enc Tryd.prog Tryd.f5 (OpenSpec.ofChange Rows.fnFloatExactSpec) false w args)
      (Rows.fnFloatExactSpec.post enc Tryd.prog Tryd.f5 false true false false) := by
  refine ret_laid_shaped (C := Tryd.checked) (X := fun w _ => laidMetH Tryd.prog Rows.fnFloatExactRow.laid w) (fun _ _ _ hh h => h.of_heap hh) own started (by kernel_rfl) Tryd.func5
    (ChangeSpec.witness_shaped (enc := enc) (C := Tryd.checked) (os := os) (X := fun w _ => laidMetH Tryd.prog Rows.fnFloatExactRow.laid w) false (World.laidAll Tryd.prog os Rows.fnFloatExactRow.laid) #[.slice none 0 0, .slice none 0 0] 8 (World.laidAll_os _ _ _)
      (World.shaped_of_ZipB (by kernel_rfl) (by kernel_rfl)) (by kernel_rfl) (by kernel_rfl) (by kernel_rfl)
      (by rw [MakeChecks.laidMetH_plain _ _ _ (by kernel_rfl)]; exact laidMet_laidAll _ (by kernel_rfl) (by kernel_rfl))) ?_
  intro W base args ds gs before hval0 hW hsh hL
  have hval : ∀ (j : Nat) t v, Tryd.f5.params[j]? = some t → args[j]? = some v → Value.okWide Tryd.prog W .any base t v := hval0
  have hW' := hW
  obtain ⟨p, q, hA0, hV, rfl, _, _⟩ := hW
  have hA : DataW.TrodAll enc Tryd.prog W 0 (fun _ => true) true Tryd.f5.params.toList args.toList ds p := hA0
  rw [Tryd.params5] at hA hval
  obtain ⟨v0, vs0, d0, ds0, p0, q0, hargs, rfl, rfl, h0, r0⟩ := trodAll_cons hA
  obtain ⟨v1, vs1, d1, ds1, p1, q1, rfl, rfl, rfl, h1, r1⟩ := trodAll_cons r0
  obtain ⟨rfl, rfl, rfl⟩ := trodAll_nil r1
  obtain rfl : args = #[v0, v1] := by cases args; simp_all
  obtain ⟨ga, gb, gc, rfl⟩ := vars3 hV
  have k0 := h0
  have lt0 : ∀ x ∈ p0, x.block < W.heap.size := by obtain ⟨m, hm⟩ := k0; exact DataW.trod_lt m _ _ _ hm
  obtain ⟨a0, c0, x0, rfl, l0, src0⟩ := open_byt (hval 0 35 v0 rfl rfl) h0
  have k1 := h1
  have lt1 : ∀ x ∈ p1, x.block < W.heap.size := by obtain ⟨m, hm⟩ := k1; exact DataW.trod_lt m _ _ _ hm
  obtain ⟨a1, c1, x1, rfl, l1, src1⟩ := open_byt (hval 1 35 v1 rfl rfl) h1
  clear hA0 hval0
  refine (law_floatexact a0 _ c0 x0 a1 _ c1 x1 W l0 src0 l1 src1 (errs hL)).mono fun e W' ⟨he, bel⟩ => ?_
  subst he
  exact ⟨_, rfl, _, _, _, [], _, _, hW', trodAll_mk1 (shut_bool Tryd.underlying4 _), (trodAll_cons_mk (Below.trod laidOutE readY rowY k0 bel lt0) (trodAll_cons_mk (Below.trod laidOutE readY rowY k1 bel lt1) trodAll_mk0)), (Below.trodVars laidOutE bel (by kernel_rfl) hV), bel.frame _, fun h => by cases h⟩

theorem over : Rows.fnFloatExactRow.holds Tryd.pinned (OpenSpec.ofChange Rows.fnFloatExactSpec) :=
  OpenClaim.holds_of_wide 5 Tryd.f5 rfl rfl rfl rfl rfl rfl rfl ⟨rfl, rfl, rfl, rfl, rfl⟩ rfl rfl rfl rfl rfl (by kernel_rfl) Tryd.func5 (by kernel_rfl)
    (of_decide_eq_true (by kernel_rfl)) (by unfold Func.isWrapper; first | (rw [if_pos (by decide +kernel)]; kernel_rfl) | (rw [if_neg (by decide +kernel)]; exact ⟨rfl, rfl⟩))
    (fun os started H enc _ => lifted os started H enc)
end Go.Proofs.YtfcoffllelgakaaDoor.dFloatExact
namespace Go.Proofs.YtfcoffllelgakaaDoor
theorem floatExact_holds : Rows.FnFloatExactCardSaid :=
  Claim7.holds_tied_plain_at .later [] [.sentinel, .sentinel, .sentinel] true Rows.fnFloatExactCard.stood.harness true dFloatExact.over (fun _ h => by cases h) (by kernel_rfl) (fun _ h => by cases h) fnFloatExact_row_tie rfl ⟨rfl, rfl⟩ (by kernel_rfl) rfl
    (fun f fn hf hfn => by
      obtain rfl : f = 5 := Option.some.inj ((show Tryd.prog.funcNamed Rows.fnFloatExactRow.func = some 5 by kernel_rfl).symm.trans hf) |>.symm
      obtain rfl : fn = Tryd.f5 := (Option.some.inj (Tryd.func5.symm.trans hfn)).symm
      exact ⟨by kernel_rfl, fun j t ht => by
        rw [Tryd.params5] at ht
        have hm : t ∈ [35, 35] := by simpa using Array.mem_of_getElem? ht
        have hall : ([35, 35].all fun u => !Tryd.prog.wantsStandIn u) = true := by kernel_rfl
        exact (show Tryd.prog.wantsStandIn t = false by simpa using List.all_eq_true.1 hall t hm)⟩)
    (by kernel_rfl)
#print axioms floatExact_holds
end Go.Proofs.YtfcoffllelgakaaDoor
