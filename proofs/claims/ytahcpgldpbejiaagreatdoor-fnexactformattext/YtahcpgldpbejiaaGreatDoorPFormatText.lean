import Derived.Test.YtahcpgldpbejiaaGreatDoorFrameE
import Derived.Test.YtahcpgldpbejiaaGreatDoorFrameF

namespace Go.Proofs.YtahcpgldpbejiaaGreatDoor.dFormatText
open Go.ChangeShapes Go.WideShapes Go.ChangeAt Go.RowKit Go.Shelf Go.Lib
open Go.ChangeMaps (open_string shut_string)
set_option linter.unusedVariables false
set_option linter.unusedSimpArgs false

theorem tabs {W : World} (h : laidMetH Tryz.prog Rows.fnExactFormatTextRow.laid W) : Tabs W := by
  rw [MakeChecks.laidMetH_plain _ _ _ (by kernel_rfl)] at h
  have h1 := Lib.laidMet.reads h (.tail _ (.tail _ (.tail _ (.head _))))
  have h2 := Lib.laidMet.reads h (.tail _ (.tail _ (.tail _ (.tail _ (.tail _ (.tail _ (.tail _ (.tail _ (.tail _ (.head _))))))))))
  rw [accept_eq] at h1
  rw [first_eq] at h2
  exact utf8Tabs_of_readsT (U8Types.of196 Tryz.laysValid) ⟨by kernel_rfl, by kernel_rfl, by kernel_rfl, by kernel_rfl, by kernel_rfl, by kernel_rfl, by kernel_rfl⟩ h2 h1
theorem errs {W : World} (h : laidMetH Tryz.prog Rows.fnExactFormatTextRow.laid W) : ∃ aA aZ aL, Errs W aA aZ aL := by
  rw [MakeChecks.laidMetH_plain _ _ _ (by kernel_rfl)] at h
  have h1 := laidMet.filter (fun x => x.1 == nameAt Rows.fnExactFormatTextRow.laid 6 || x.1 == nameAt Rows.fnExactFormatTextRow.laid 7) h
  have h2 := laidMet.filter (fun x => x.1 == nameAt Rows.fnExactFormatTextRow.laid 6 || x.1 == nameAt Rows.fnExactFormatTextRow.laid 8) h
  have h3 := laidMet.filter (fun x => x.1 == nameAt Rows.fnExactFormatTextRow.laid 7 || x.1 == nameAt Rows.fnExactFormatTextRow.laid 8) h
  rw [show Rows.fnExactFormatTextRow.laid.filter (fun x => x.1 == nameAt Rows.fnExactFormatTextRow.laid 6 || x.1 == nameAt Rows.fnExactFormatTextRow.laid 7) = ((Rows.fnExactFormatTextRow.laid.drop 6).take 1 ++ (Rows.fnExactFormatTextRow.laid.drop 7).take 1) by kernel_rfl] at h1
  rw [show Rows.fnExactFormatTextRow.laid.filter (fun x => x.1 == nameAt Rows.fnExactFormatTextRow.laid 6 || x.1 == nameAt Rows.fnExactFormatTextRow.laid 8) = ((Rows.fnExactFormatTextRow.laid.drop 6).take 1 ++ (Rows.fnExactFormatTextRow.laid.drop 8).take 1) by kernel_rfl] at h2
  rw [show Rows.fnExactFormatTextRow.laid.filter (fun x => x.1 == nameAt Rows.fnExactFormatTextRow.laid 7 || x.1 == nameAt Rows.fnExactFormatTextRow.laid 8) = ((Rows.fnExactFormatTextRow.laid.drop 7).take 1 ++ (Rows.fnExactFormatTextRow.laid.drop 8).take 1) by kernel_rfl] at h3
  exact errs_of (r1 := []) (r2 := []) (r3 := []) h1 h2 h3 (by kernel_rfl) (by kernel_rfl) (by kernel_rfl) (by kernel_rfl) (by kernel_rfl) (by kernel_rfl)
set_option maxRecDepth 100000 in
theorem lifted (os : Os) (started : os.Started) (H : Type) (enc : TypeId × Value → H) :
    ReturnsInHanded {} Tryz.checked os 3 .any (fun w args => (Rows.fnExactFormatTextSpec.pre enc Tryz.prog Tryz.f3 Rows.fnExactFormatTextRow.domain false w args ∧ laidMetH Tryz.prog Rows.fnExactFormatTextRow.laid w) ∧ sizedMet enc Tryz.prog Tryz.f3 (OpenSpec.ofChange Rows.fnExactFormatTextSpec) false w args)
      (Rows.fnExactFormatTextSpec.post enc Tryz.prog Tryz.f3 false true false false) := by
  refine ret_laid_shaped (C := Tryz.checked) (X := fun w _ => laidMetH Tryz.prog Rows.fnExactFormatTextRow.laid w) (fun _ _ _ hh h => h.of_heap hh) own started (by kernel_rfl) Tryz.func3
    (ChangeSpec.witness_shaped (enc := enc) (C := Tryz.checked) (os := os) (X := fun w _ => laidMetH Tryz.prog Rows.fnExactFormatTextRow.laid w) false (World.laidAll Tryz.prog os Rows.fnExactFormatTextRow.laid) #[.string ByteArray.empty, .string ByteArray.empty] 8 (World.laidAll_os _ _ _)
      (World.shaped_of_ZipB (by kernel_rfl) (by kernel_rfl)) (by kernel_rfl) (by kernel_rfl) (by kernel_rfl)
      (by rw [MakeChecks.laidMetH_plain _ _ _ (by kernel_rfl)]; exact laidMet_laidAll _ (by kernel_rfl) (by kernel_rfl))) ?_
  intro W base args ds gs before hval0 hW hsh hL
  have hval : ∀ (j : Nat) t v, Tryz.f3.params[j]? = some t → args[j]? = some v → Value.okWide Tryz.prog W .any base t v := hval0
  have hW' := hW
  obtain ⟨p, q, hA0, hV, rfl, _, _⟩ := hW
  have hA : DataW.TrodAll enc Tryz.prog W 0 (fun _ => true) true Tryz.f3.params.toList args.toList ds p := hA0
  rw [Tryz.params3] at hA hval
  obtain ⟨v0, vs0, d0, ds0, p0, q0, hargs, rfl, rfl, h0, r0⟩ := trodAll_cons hA
  obtain ⟨v1, vs1, d1, ds1, p1, q1, rfl, rfl, rfl, h1, r1⟩ := trodAll_cons r0
  obtain ⟨rfl, rfl, rfl⟩ := trodAll_nil r1
  obtain rfl : args = #[v0, v1] := by cases args; simp_all
  obtain ⟨ga, gb, gc, rfl⟩ := vars3 hV
  obtain ⟨x0, rfl, rfl, rfl, wx0⟩ := open_string Tryz.underlying9 (hval 0 9 v0 rfl rfl) h0
  obtain ⟨x1, rfl, rfl, rfl, wx1⟩ := open_string Tryz.underlying9 (hval 1 9 v1 rfl rfl) h1
  have hT := tabs hL
  clear hA0 hval0
  refine (law_formattext x0 x1 W hT (errs hL) (errF_laid hL)).mono fun e W' ⟨he, bel⟩ => ?_
  subst he
  exact ⟨_, rfl, _, _, _, [], _, _, hW', trodAll_mk1 (shut_bool Tryz.underlying4 _), (trodAll_cons_mk (shut_string Tryz.underlying9 wx0) (trodAll_cons_mk (shut_string Tryz.underlying9 wx1) trodAll_mk0)), (Below.trodVars laidOutE bel (by kernel_rfl) hV), bel.frame _, fun h => by cases h⟩

theorem over : Rows.fnExactFormatTextRow.holds Tryz.pinned (OpenSpec.ofChange Rows.fnExactFormatTextSpec) :=
  OpenClaim.holds_of_wide 3 Tryz.f3 rfl rfl rfl rfl rfl rfl rfl ⟨rfl, rfl, rfl, rfl, rfl⟩ rfl rfl rfl rfl rfl (by kernel_rfl) Tryz.func3 (by kernel_rfl)
    (of_decide_eq_true (by kernel_rfl)) (by unfold Func.isWrapper; first | (rw [if_pos (by decide +kernel)]; kernel_rfl) | (rw [if_neg (by decide +kernel)]; exact ⟨rfl, rfl⟩))
    (fun os started H enc _ => lifted os started H enc)
end Go.Proofs.YtahcpgldpbejiaaGreatDoor.dFormatText
namespace Go.Proofs.YtahcpgldpbejiaaGreatDoor
theorem formatText_holds : Rows.FnExactFormatTextCardSaid :=
  Claim7.holds_tied_plain_at .later [] [.data, .data, .data, .data, .sentinel, .sentinel, .sentinel, .sentinel, .sentinel, .pinned] true Rows.fnExactFormatTextCard.stood.harness true dFormatText.over (fun _ h => by cases h) (by kernel_rfl) (fun _ h => by cases h) fnExactFormatText_row_tie rfl ⟨rfl, rfl⟩ (by kernel_rfl) rfl
    (fun f fn hf hfn => by
      obtain rfl : f = 3 := Option.some.inj ((show Tryz.prog.funcNamed Rows.fnExactFormatTextRow.func = some 3 by kernel_rfl).symm.trans hf) |>.symm
      obtain rfl : fn = Tryz.f3 := (Option.some.inj (Tryz.func3.symm.trans hfn)).symm
      exact ⟨by kernel_rfl, fun j t ht => by
        rw [Tryz.params3] at ht
        have hm : t ∈ [9, 9] := by simpa using Array.mem_of_getElem? ht
        have hall : ([9, 9].all fun u => !Tryz.prog.wantsStandIn u) = true := by kernel_rfl
        exact (show Tryz.prog.wantsStandIn t = false by simpa using List.all_eq_true.1 hall t hm)⟩)
    (by kernel_rfl)
#print axioms formatText_holds
end Go.Proofs.YtahcpgldpbejiaaGreatDoor
