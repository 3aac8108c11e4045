import Derived.Test.YtahcpgldpbejiaaGreatDoorFrameW
import Derived.Test.YtahcpgldpbejiaaGreatDoorMfb

namespace Go.Proofs.YtahcpgldpbejiaaGreatDoor.dFormatBig
open Go.ChangeShapes Go.WideShapes Go.ChangeAt Go.RowKit Go.Shelf Go.Lib
open Go.ChangeMaps (open_string shut_string)
set_option linter.unusedVariables false
set_option linter.unusedSimpArgs false

theorem tabs {W : World} (h : laidMetH Tryz.prog Rows.fnExactFormatBigRow.laid W) : Tabs W := by
  rw [MakeChecks.laidMetH_plain _ _ _ (by kernel_rfl)] at h
  have h1 := Lib.laidMet.reads h (.tail _ (.tail _ (.tail _ (.head _))))
  have h2 := Lib.laidMet.reads h (.tail _ (.tail _ (.tail _ (.tail _ (.tail _ (.tail _ (.tail _ (.tail _ (.tail _ (.head _))))))))))
  rw [accept_eq] at h1
  rw [first_eq] at h2
  exact utf8Tabs_of_readsT (U8Types.of196 Tryz.laysValid) ⟨by kernel_rfl, by kernel_rfl, by kernel_rfl, by kernel_rfl, by kernel_rfl, by kernel_rfl, by kernel_rfl⟩ h2 h1
theorem errs {W : World} (h : laidMetH Tryz.prog Rows.fnExactFormatBigRow.laid W) : ∃ aA aZ aL, Errs W aA aZ aL := by
  rw [MakeChecks.laidMetH_plain _ _ _ (by kernel_rfl)] at h
  have h1 := laidMet.filter (fun x => x.1 == nameAt Rows.fnExactFormatBigRow.laid 6 || x.1 == nameAt Rows.fnExactFormatBigRow.laid 7) h
  have h2 := laidMet.filter (fun x => x.1 == nameAt Rows.fnExactFormatBigRow.laid 6 || x.1 == nameAt Rows.fnExactFormatBigRow.laid 8) h
  have h3 := laidMet.filter (fun x => x.1 == nameAt Rows.fnExactFormatBigRow.laid 7 || x.1 == nameAt Rows.fnExactFormatBigRow.laid 8) h
  rw [show Rows.fnExactFormatBigRow.laid.filter (fun x => x.1 == nameAt Rows.fnExactFormatBigRow.laid 6 || x.1 == nameAt Rows.fnExactFormatBigRow.laid 7) = ((Rows.fnExactFormatBigRow.laid.drop 6).take 1 ++ (Rows.fnExactFormatBigRow.laid.drop 7).take 1) by kernel_rfl] at h1
  rw [show Rows.fnExactFormatBigRow.laid.filter (fun x => x.1 == nameAt Rows.fnExactFormatBigRow.laid 6 || x.1 == nameAt Rows.fnExactFormatBigRow.laid 8) = ((Rows.fnExactFormatBigRow.laid.drop 6).take 1 ++ (Rows.fnExactFormatBigRow.laid.drop 8).take 1) by kernel_rfl] at h2
  rw [show Rows.fnExactFormatBigRow.laid.filter (fun x => x.1 == nameAt Rows.fnExactFormatBigRow.laid 7 || x.1 == nameAt Rows.fnExactFormatBigRow.laid 8) = ((Rows.fnExactFormatBigRow.laid.drop 7).take 1 ++ (Rows.fnExactFormatBigRow.laid.drop 8).take 1) by kernel_rfl] at h3
  exact errs_of (r1 := []) (r2 := []) (r3 := []) h1 h2 h3 (by kernel_rfl) (by kernel_rfl) (by kernel_rfl) (by kernel_rfl) (by kernel_rfl) (by kernel_rfl)


theorem errF_laid {W : World} (h : laidMetH Tryz.prog Rows.fnExactFormatBigRow.laid W) : ErrF W := by
  rw [MakeChecks.laidMetH_plain _ _ _ (by kernel_rfl)] at h
  have h1 := laidMet.filter (fun x => x.1 == nameAt Rows.fnExactFormatBigRow.laid 4 || x.1 == nameAt Rows.fnExactFormatBigRow.laid 5) h
  rw [show Rows.fnExactFormatBigRow.laid.filter (fun x => x.1 == nameAt Rows.fnExactFormatBigRow.laid 4 || x.1 == nameAt Rows.fnExactFormatBigRow.laid 5) = ((Rows.fnExactFormatBigRow.laid.drop 4).take 1 ++ (Rows.fnExactFormatBigRow.laid.drop 5).take 1) by kernel_rfl] at h1
  exact errF_of (r1 := []) (g0 := 7) (g1 := 6) h1 (by kernel_rfl) (by kernel_rfl) (by kernel_rfl) (by kernel_rfl) (by kernel_rfl)
set_option maxRecDepth 100000 in
theorem lifted (os : Os) (started : os.Started) (H : Type) (enc : TypeId × Value → H) :
    ReturnsInHanded {} Tryz.checked os 4 .any (fun w args => (Rows.fnExactFormatBigSpec.pre enc Tryz.prog Tryz.f4 Rows.fnExactFormatBigRow.domain false w args ∧ laidMetH Tryz.prog Rows.fnExactFormatBigRow.laid w) ∧ sizedMet enc Tryz.prog Tryz.f4 (OpenSpec.ofChange Rows.fnExactFormatBigSpec) false w args)
      (Rows.fnExactFormatBigSpec.post enc Tryz.prog Tryz.f4 false true false false) := by
  refine ret_laid_shaped (C := Tryz.checked) (X := fun w _ => laidMetH Tryz.prog Rows.fnExactFormatBigRow.laid w) (fun _ _ _ hh h => h.of_heap hh) own started (by kernel_rfl) Tryz.func4
    (ChangeSpec.witness_shaped (enc := enc) (C := Tryz.checked) (os := os) (X := fun w _ => laidMetH Tryz.prog Rows.fnExactFormatBigRow.laid w) false (World.laidAll Tryz.prog os Rows.fnExactFormatBigRow.laid) #[.string ByteArray.empty, .agg #[.bool false, .slice none 0 0]] 8 (World.laidAll_os _ _ _)
      (World.shaped_of_ZipB (by kernel_rfl) (by kernel_rfl)) (by kernel_rfl) (by kernel_rfl) (by kernel_rfl)
      (by rw [MakeChecks.laidMetH_plain _ _ _ (by kernel_rfl)]; exact laidMet_laidAll _ (by kernel_rfl) (by kernel_rfl))) ?_
  intro W base args ds gs before hval0 hW hsh hL
  have hval : ∀ (j : Nat) t v, Tryz.f4.params[j]? = some t → args[j]? = some v → Value.okWide Tryz.prog W .any base t v := hval0
  have hW' := hW
  obtain ⟨p, q, hA0, hV, rfl, _, _⟩ := hW
  have hA : DataW.TrodAll enc Tryz.prog W 0 (fun _ => true) true Tryz.f4.params.toList args.toList ds p := hA0
  rw [Tryz.params4] at hA hval
  obtain ⟨v0, vs0, d0, ds0, p0, q0, hargs, rfl, rfl, h0, r0⟩ := trodAll_cons hA
  obtain ⟨v1, vs1, d1, ds1, p1, q1, rfl, rfl, rfl, h1, r1⟩ := trodAll_cons r0
  obtain ⟨rfl, rfl, rfl⟩ := trodAll_nil r1
  obtain rfl : args = #[v0, v1] := by cases args; simp_all
  obtain ⟨ga, gb, gc, rfl⟩ := vars3 hV
  obtain ⟨x0, rfl, rfl, rfl, wx0⟩ := open_string Tryz.underlying9 (hval 0 9 v0 rfl rfl) h0
  have k1 := h1
  have lt1 : ∀ x ∈ p1, x.block < W.heap.size := by obtain ⟨m, hm⟩ := k1; exact DataW.trod_lt m _ _ _ hm
  obtain ⟨neg1, a1, c1, x1, rfl, l1, rb1⟩ := open_big (hval 1 27 v1 rfl rfl) h1
  have hT := tabs hL
  clear hA0 hval0
  refine (law_formatbig x0 neg1 a1 c1 x1 W rb1 l1 hT (errs hL) (errF_laid hL)).mono fun e W' ⟨he, bel⟩ => ?_
  subst he
  exact ⟨_, rfl, _, _, _, [], _, _, hW', trodAll_mk1 (shut_bool Tryz.underlying4 _), (trodAll_cons_mk (shut_string Tryz.underlying9 wx0) (trodAll_cons_mk (Below.trod laidOutE readBig rowBig k1 bel lt1) trodAll_mk0)), (Below.trodVars laidOutE bel (by kernel_rfl) hV), bel.frame _, fun h => by cases h⟩

theorem over : Rows.fnExactFormatBigRow.holds Tryz.pinned (OpenSpec.ofChange Rows.fnExactFormatBigSpec) :=
  OpenClaim.holds_of_wide 4 Tryz.f4 rfl rfl rfl rfl rfl rfl rfl ⟨rfl, rfl, rfl, rfl, rfl⟩ rfl rfl rfl rfl rfl (by kernel_rfl) Tryz.func4 (by kernel_rfl)
    (of_decide_eq_true (by kernel_rfl)) (by unfold Func.isWrapper; first | (rw [if_pos (by decide +kernel)]; kernel_rfl) | (rw [if_neg (by decide +kernel)]; exact ⟨rfl, rfl⟩))
    (fun os started H enc _ => lifted os started H enc)
end Go.Proofs.YtahcpgldpbejiaaGreatDoor.dFormatBig
namespace Go.Proofs.YtahcpgldpbejiaaGreatDoor
theorem formatBig_holds : Rows.FnExactFormatBigCardSaid :=
  Claim7.holds_tied_plain_at .later [] [.data, .data, .data, .data, .sentinel, .sentinel, .sentinel, .sentinel, .sentinel, .pinned] true Rows.fnExactFormatBigCard.stood.harness true dFormatBig.over (fun _ h => by cases h) (by kernel_rfl) (fun _ h => by cases h) fnExactFormatBig_row_tie rfl ⟨rfl, rfl⟩ (by kernel_rfl) rfl
    (fun f fn hf hfn => by
      obtain rfl : f = 4 := Option.some.inj ((show Tryz.prog.funcNamed Rows.fnExactFormatBigRow.func = some 4 by kernel_rfl).symm.trans hf) |>.symm
      obtain rfl : fn = Tryz.f4 := (Option.some.inj (Tryz.func4.symm.trans hfn)).symm
      exact ⟨by kernel_rfl, fun j t ht => by
        rw [Tryz.params4] at ht
        have hm : t ∈ [9, 27] := by simpa using Array.mem_of_getElem? ht
        have hall : ([9, 27].all fun u => !Tryz.prog.wantsStandIn u) = true := by kernel_rfl
        exact (show Tryz.prog.wantsStandIn t = false by simpa using List.all_eq_true.1 hall t hm)⟩)
    (by kernel_rfl)
#print axioms formatBig_holds
end Go.Proofs.YtahcpgldpbejiaaGreatDoor
