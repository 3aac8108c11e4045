import Derived.Test.YtdamddfhflhfbaaDoorSlcA
import Derived.Test.YtdamddfhflhfbaaDoorHelpI
import Derived.Deep.RegionHeld3
namespace Go.Proofs.YtdamddfhflhfbaaDoor
open Go.RowKit
set_option linter.unusedVariables false
set_option linter.unusedSimpArgs false

set_option maxHeartbeats 1000000 in
set_option maxRecDepth 100000 in
theorem sliceI_any (n : Int) (lh : Bool) (la : Int) (hh : Bool) (ha : Int) (sh : Bool) (sa : Int) (aA aZ aL : Addr) (w : World)
    (hl0 : -9223372036854775808 ≤ la) (hl1 : la ≤ 9223372036854775807) (hh0 : -9223372036854775808 ≤ ha) (hh1 : ha ≤ 9223372036854775807) (hs0 : -9223372036854775808 ≤ sa) (hs1 : sa ≤ 9223372036854775807) (hE : Errs w aA aZ aL) :
    Calls Tryd.prog 14 #[.int .i64 n, bnd lh la, bnd hh ha, bnd sh sa] w fun e w' => ∃ ao co, e = .returned (.tuple #[.slice ao (sliceAns n lh la hh ha sh sa).1.length co, .int .i64 (sliceAns n lh la hh ha sh sa).2]) ∧
      Own w' w.heap.size (.slice ao (sliceAns n lh la hh ha sh sa).1.length co) (sliceAns n lh la hh ha sh sa).1 ∧ Below w.heap.size w w' := by
  have bW : Below w.heap.size w (((w.alloc (Obj.cells #[.bool lh, .int .i64 la] 27)).alloc (Obj.cells #[.bool hh, .int .i64 ha] 27)).alloc (Obj.cells #[.bool sh, .int .i64 sa] 27)) := (((Below.refl _ w).alloc (Nat.le_refl _) _).alloc (by simp) _).alloc (by simp; omega) _
  have hP := fun W h => placesI_any n lh la hh ha sh sa aA aZ aL W hl0 hl1 hh0 hh1 hs0 hs1 h
  generalize sliceAns n lh la hh ha sh sa = A at hP ⊢
  obtain ⟨L, c⟩ := A
  have hC := fun v W h hv => codeOf_any aA aZ aL v c W h hv
  simp only at hP ⊢
  go_enter Tryd.func14, Tryd.ntmps14
  go_wp2_with fail
  refine (hP _ (hE.below bW)).mono ?_
  rintro e w1 ⟨ao, co, v, rfl, hv, hO, hB1⟩
  have hB0 := bW.trans (hB1.mono bW.size)
  have hO2 := hO.mono (show w.heap.size ≤ _ from bW.size)
  clear hP hO bW hB1
  go_wp2_with fail
  refine (hC _ _ (hE.below hB0) hv).mono ?_
  rintro e w2 ⟨rfl, hB2⟩
  go_wp2
  refine bodyPost_ret (v := .tuple #[.slice ao L.length co, .int .i64 c]) (by simp [results, Tryd.results14, go_sem]) rfl ?_
  exact ⟨ao, co, rfl, hO2.keep hB2, hB0.trans (hB2.mono hB0.size)⟩
set_option maxRecDepth 100000 in
theorem toBound_any (has : Bool) (x : Int) (w : World) :
    Calls Tryd.prog 13 #[.agg #[.bool has, .int .i64 x]] w fun e w' => e = .returned (bnd has x) ∧ Below w.heap.size w w' := by
  go_enter Tryd.func13, Tryd.ntmps13
  go_wp2
  refine bodyPost_ret (v := bnd has x) (by simp [results, Tryd.results13, go_sem]) rfl ⟨rfl, ?_⟩
  exact (((Below.refl _ w).alloc (Nat.le_refl _) _).alloc (by simp) _).alloc (by simp; omega) _
set_option maxHeartbeats 4000000 in
set_option maxRecDepth 100000 in
theorem law_slicelist (n : Int) (lh : Bool) (la : Int) (hh : Bool) (ha : Int) (sh : Bool) (sa : Int) (w : World)
    (hl0 : -9223372036854775808 ≤ la) (hl1 : la ≤ 9223372036854775807) (hh0 : -9223372036854775808 ≤ ha) (hh1 : ha ≤ 9223372036854775807) (hs0 : -9223372036854775808 ≤ sa) (hs1 : sa ≤ 9223372036854775807) (hEx : ∃ aA aZ aL, Errs w aA aZ aL) :
    Calls Tryd.prog 3 #[.int .i64 n, .agg #[.bool lh, .int .i64 la], .agg #[.bool hh, .int .i64 ha], .agg #[.bool sh, .int .i64 sa]] w fun e w' => e = .returned (.bool true) ∧ Below w.heap.size w w' := by
  obtain ⟨aA, aZ, aL, hE⟩ := hEx
  have bW : Below w.heap.size w (((w.alloc (Obj.cells #[.bool lh, .int .i64 la] 23)).alloc (Obj.cells #[.bool hh, .int .i64 ha] 23)).alloc (Obj.cells #[.bool sh, .int .i64 sa] 23)) := (((Below.refl _ w).alloc (Nat.le_refl _) _).alloc (by simp) _).alloc (by simp; omega) _
  have bL := (((Box.new w (.bool lh) (.int .i64 la) 23).alloc (Obj.cells #[.bool hh, .int .i64 ha] 23)).alloc (Obj.cells #[.bool sh, .int .i64 sa] 23))
  have bH := ((Box.new (w.alloc (Obj.cells #[.bool lh, .int .i64 la] 23)) (.bool hh) (.int .i64 ha) 23).alloc (Obj.cells #[.bool sh, .int .i64 sa] 23))
  have bS := (Box.new ((w.alloc (Obj.cells #[.bool lh, .int .i64 la] 23)).alloc (Obj.cells #[.bool hh, .int .i64 ha] 23)) (.bool sh) (.int .i64 sa) 23)
  simp only [World.size_alloc] at bH bS
  have hTl := fun W => toBound_any lh la W
  have hTh := fun W => toBound_any hh ha W
  have hTs := fun W => toBound_any sh sa W
  have hS := fun W => sliceS_any n lh la hh ha sh sa W hl0 hl1 hh0 hh1 hs0 hs1
  have hG := fun W h => sliceI_any n lh la hh ha sh sa aA aZ aL W hl0 hl1 hh0 hh1 hs0 hs1 h
  have hAl := ans_len n lh la hh ha sh sa
  generalize sliceAns n lh la hh ha sh sa = A at hS hG hAl
  obtain ⟨L, c⟩ := A
  simp only at hS hG hAl
  go_enter Tryd.func3, Tryd.ntmps3
  go_wp2_with fail
  obtain ⟨-, k0, k1⟩ := id bL
  obtain ⟨-, k2, k3⟩ := id bH
  obtain ⟨-, k4, k5⟩ := id bS
  go_region_held3 (fun W => W.cell? ⟨w.heap.size, 0, none⟩ = some (.bool lh) ∧ W.cell? ⟨w.heap.size, 1, none⟩ = some (.int .i64 la) ∧ W.cell? ⟨w.heap.size + 1, 0, none⟩ = some (.bool hh) ∧ W.cell? ⟨w.heap.size + 1, 1, none⟩ = some (.int .i64 ha) ∧ W.cell? ⟨w.heap.size + 1 + 1, 0, none⟩ = some (.bool sh) ∧ W.cell? ⟨w.heap.size + 1 + 1, 1, none⟩ = some (.int .i64 sa)) (go_keep) (first | (go_at_call_of 13 (Value.agg #[Value.bool lh, Value.int IntKind.i64 la]); refine (hTl _).mono ?_; rintro e v1 ⟨rfl, hBp1⟩; have bLp1 := bL.drew.keep hBp1; have bHp1 := bH.drew.keep hBp1; have bSp1 := bS.drew.keep hBp1; obtain ⟨-, bLxp1, bLyp1⟩ := id bLp1; obtain ⟨-, bHxp1, bHyp1⟩ := id bHp1; obtain ⟨-, bSxp1, bSyp1⟩ := id bSp1) | (go_at_call_of 13 (Value.agg #[Value.bool hh, Value.int IntKind.i64 ha]); refine (hTh _).mono ?_; rintro e v2 ⟨rfl, hBp2⟩; have bLp2 := bLp1.keep hBp2; have bHp2 := bHp1.keep hBp2; have bSp2 := bSp1.keep hBp2; obtain ⟨-, bLxp2, bLyp2⟩ := id bLp2; obtain ⟨-, bHxp2, bHyp2⟩ := id bHp2; obtain ⟨-, bSxp2, bSyp2⟩ := id bSp2) | (go_at_call_of 13 (Value.agg #[Value.bool sh, Value.int IntKind.i64 sa]); refine (hTs _).mono ?_; rintro e v3 ⟨rfl, hBp3⟩; have bLp3 := bLp2.keep hBp3; have bHp3 := bHp2.keep hBp3; have bSp3 := bSp2.keep hBp3; obtain ⟨-, bLxp3, bLyp3⟩ := id bLp3; obtain ⟨-, bHxp3, bHyp3⟩ := id bHp3; obtain ⟨-, bSxp3, bSyp3⟩ := id bSp3) | (go_at_call 12; refine (hS _).mono ?_; rintro e v4 ⟨aS, cS, rfl, oS, hBp4⟩; have bLp4 := bLp3.keep hBp4; have bHp4 := bHp3.keep hBp4; have bSp4 := bSp3.keep hBp4; obtain ⟨-, bLxp4, bLyp4⟩ := id bLp4; obtain ⟨-, bHxp4, bHyp4⟩ := id bHp4; obtain ⟨-, bSxp4, bSyp4⟩ := id bSp4))
  have hW1 := bW.drew.trans (hBp1.mono bW.size)
  have hW2 := hW1.trans (hBp2.mono hW1.size)
  have hW3 := hW2.trans (hBp3.mono hW2.size)
  have hW4 := hW3.trans (hBp4.mono hW3.size)
  have loS := oS.lt
  clear k0 k1 k2 k3 k4 k5 hBp1 hBp2 hBp3 hBp4 hW1 hW2 bL bH bS
  clear bLxp1 bLxp2 bLxp3 bLxp4 bLyp1 bLyp2 bLyp3 bLyp4 bHxp1 bHxp2 bHxp3 bHxp4 bHyp1 bHyp2 bHyp3 bHyp4 bSxp1 bSxp2 bSxp3 bSxp4 bSyp1 bSyp2 bSyp3 bSyp4
  have hz4 := hW4.size
  have zS := bSp4.1
  obtain ⟨-, k0, k1⟩ := id bLp4
  obtain ⟨-, k2, k3⟩ := id bHp4
  obtain ⟨-, k4, k5⟩ := id bSp4
  go_wp2_with fail
  go_region_held3 (fun W => W.cell? ⟨w.heap.size, 0, none⟩ = some (.bool lh) ∧ W.cell? ⟨w.heap.size, 1, none⟩ = some (.int .i64 la) ∧ W.cell? ⟨w.heap.size + 1, 0, none⟩ = some (.bool hh) ∧ W.cell? ⟨w.heap.size + 1, 1, none⟩ = some (.int .i64 ha) ∧ W.cell? ⟨w.heap.size + 1 + 1, 0, none⟩ = some (.bool sh) ∧ W.cell? ⟨w.heap.size + 1 + 1, 1, none⟩ = some (.int .i64 sa)) (go_keep) (first | (go_at_call_of 13 (Value.agg #[Value.bool lh, Value.int IntKind.i64 la]); refine (hTl _).mono ?_; rintro e q1 ⟨rfl, hBq1⟩; have bLq1 := bLp4.drew.keep hBq1; have bHq1 := bHp4.drew.keep hBq1; have bSq1 := bSp4.drew.keep hBq1; obtain ⟨-, bLxq1, bLyq1⟩ := id bLq1; obtain ⟨-, bHxq1, bHyq1⟩ := id bHq1; obtain ⟨-, bSxq1, bSyq1⟩ := id bSq1) | (go_at_call_of 13 (Value.agg #[Value.bool hh, Value.int IntKind.i64 ha]); refine (hTh _).mono ?_; rintro e q2 ⟨rfl, hBq2⟩; have bLq2 := bLq1.keep hBq2; have bHq2 := bHq1.keep hBq2; have bSq2 := bSq1.keep hBq2; obtain ⟨-, bLxq2, bLyq2⟩ := id bLq2; obtain ⟨-, bHxq2, bHyq2⟩ := id bHq2; obtain ⟨-, bSxq2, bSyq2⟩ := id bSq2) | (go_at_call_of 13 (Value.agg #[Value.bool sh, Value.int IntKind.i64 sa]); refine (hTs _).mono ?_; rintro e q3 ⟨rfl, hBq3⟩; have bLq3 := bLq2.keep hBq3; have bHq3 := bHq2.keep hBq3; have bSq3 := bSq2.keep hBq3; obtain ⟨-, bLxq3, bLyq3⟩ := id bLq3; obtain ⟨-, bHxq3, bHyq3⟩ := id bHq3; obtain ⟨-, bSxq3, bSyq3⟩ := id bSq3; have hWq1 := hW4.drew.trans (hBq1.mono hW4.size); have hWq2 := hWq1.trans (hBq2.mono hWq1.size); have hWq3 := hWq2.trans (hBq3.mono hWq2.size)) | (go_at_call 14; refine (hG _ (hE.below hWq3)).mono ?_; rintro e q4 ⟨aG, cG, rfl, oG, hBq4⟩; have bLq4 := bLq3.keep hBq4; have bHq4 := bHq3.keep hBq4; have bSq4 := bSq3.keep hBq4; obtain ⟨-, bLxq4, bLyq4⟩ := id bLq4; obtain ⟨-, bHxq4, bHyq4⟩ := id bHq4; obtain ⟨-, bSxq4, bSyq4⟩ := id bSq4))
  have hWq4 := hWq3.trans (hBq4.mono hWq3.size)
  have oSq := (((oS.drew.keep hBq1).keep hBq2).keep hBq3).keep hBq4
  have loG := oG.lt
  have z1 : v4.heap.size ≤ q1.heap.size := hBq1.size
  have z2 := hBq2.size
  have z3 := hBq3.size
  have z4 := hBq4.size
  have z0 : w.heap.size ≤ v3.heap.size := hW3.size
  clear k0 k1 k2 k3 k4 k5 hBq1 hBq2 hBq3 hBq4 hWq1 hWq2 hWq3 hW3 hW4 oS
  clear bLxq1 bLxq2 bLxq3 bLxq4 bLyq1 bLyq2 bLyq3 bLyq4 bHxq1 bHxq2 bHxq3 bHxq4 bHyq1 bHyq2 bHyq3 bHyq4 bSxq1 bSxq2 bSxq3 bSxq4 bSyq1 bSyq2 bSyq3 bSyq4
  go_wp2_with fail
  refine (eqS_any _ _ L L _ oG.rd oSq.rd).mono ?_
  rw [decide_eq_true rfl]
  rintro e r1 ⟨rfl, hB⟩
  have hWr1 := hWq4.trans (hB.mono hWq4.size)
  have oS1 := oSq.keep hB
  have oG1 := oG.keep hB
  have bLr := bLq4.keep hB
  have bHr := bHq4.keep hB
  have bSr := bSq4.keep hB
  have y1 := hB.size
  clear hB oSq oG hWq4
  go_wp2_with fail
  refine (markS_any _ _ _ _ L 1 _ oG1 (by omega) (by omega)).mono ?_
  rintro e r2 ⟨rfl, oG2, hg⟩
  have hWr2 := hWr1.trans (gb_to hg (fun k hk => by have := loG k hk; omega) hWr1.size)
  have oS2 := oS1.but hg (ob_ne loS loG (by omega))
  have bLs := bLr.but hg (bx_ne loG (by omega))
  have bHs := bHr.but hg (bx_ne loG (by omega))
  have bSs := bSr.but hg (bx_ne loG (by omega))
  have y2 := hg.size
  clear hg oG1 oS1 hWr1
  go_wp2_with fail
  refine (heldS_any _ _ 1 L.length _ oG2.rd (by omega) (by omega) rfl).mono ?_
  rintro e r3 ⟨rfl, hB⟩
  have hWr3 := hWr2.trans (hB.mono hWr2.size)
  have oS3 := oS2.keep hB
  have oG3 := oG2.keep hB
  have bLt := bLs.keep hB
  have bHt := bHs.keep hB
  have bSt := bSs.keep hB
  have y3 := hB.size
  have hkn : ¬ (1 + (L.length : Int)) < 0 := by omega
  clear hB oG2 oS2 hWr2
  obtain ⟨-, k0, k1⟩ := id bLt
  obtain ⟨-, k2, k3⟩ := id bHt
  obtain ⟨-, k4, k5⟩ := id bSt
  go_wp2_with fail
  go_region_held3 (fun W => W.cell? ⟨w.heap.size, 0, none⟩ = some (.bool lh) ∧ W.cell? ⟨w.heap.size, 1, none⟩ = some (.int .i64 la) ∧ W.cell? ⟨w.heap.size + 1, 0, none⟩ = some (.bool hh) ∧ W.cell? ⟨w.heap.size + 1, 1, none⟩ = some (.int .i64 ha) ∧ W.cell? ⟨w.heap.size + 1 + 1, 0, none⟩ = some (.bool sh) ∧ W.cell? ⟨w.heap.size + 1 + 1, 1, none⟩ = some (.int .i64 sa)) (go_keep) (first | (go_at_call_of 13 (Value.agg #[Value.bool lh, Value.int IntKind.i64 la]); refine (hTl _).mono ?_; rintro e s1 ⟨rfl, hBs1⟩; have bLs1 := bLt.drew.keep hBs1; have bHs1 := bHt.drew.keep hBs1; have bSs1 := bSt.drew.keep hBs1; obtain ⟨-, bLxs1, bLys1⟩ := id bLs1; obtain ⟨-, bHxs1, bHys1⟩ := id bHs1; obtain ⟨-, bSxs1, bSys1⟩ := id bSs1) | (go_at_call_of 13 (Value.agg #[Value.bool hh, Value.int IntKind.i64 ha]); refine (hTh _).mono ?_; rintro e s2 ⟨rfl, hBs2⟩; have bLs2 := bLs1.keep hBs2; have bHs2 := bHs1.keep hBs2; have bSs2 := bSs1.keep hBs2; obtain ⟨-, bLxs2, bLys2⟩ := id bLs2; obtain ⟨-, bHxs2, bHys2⟩ := id bHs2; obtain ⟨-, bSxs2, bSys2⟩ := id bSs2) | (go_at_call_of 13 (Value.agg #[Value.bool sh, Value.int IntKind.i64 sa]); refine (hTs _).mono ?_; rintro e s3 ⟨rfl, hBs3⟩; have bLs3 := bLs2.keep hBs3; have bHs3 := bHs2.keep hBs3; have bSs3 := bSs2.keep hBs3; obtain ⟨-, bLxs3, bLys3⟩ := id bLs3; obtain ⟨-, bHxs3, bHys3⟩ := id bHs3; obtain ⟨-, bSxs3, bSys3⟩ := id bSs3; have hWs1 := hWr3.drew.trans (hBs1.mono hWr3.size); have hWs2 := hWs1.trans (hBs2.mono hWs1.size); have hWs3 := hWs2.trans (hBs3.mono hWs2.size)) | (go_at_call 14; refine (hG _ (hE.below hWs3)).mono ?_; rintro e s4 ⟨aH, cH, rfl, oH, hBs4⟩; have bLs4 := bLs3.keep hBs4; have bHs4 := bHs3.keep hBs4; have bSs4 := bSs3.keep hBs4; obtain ⟨-, bLxs4, bLys4⟩ := id bLs4; obtain ⟨-, bHxs4, bHys4⟩ := id bHs4; obtain ⟨-, bSxs4, bSys4⟩ := id bSs4))
  have hWs4 := hWs3.trans (hBs4.mono hWs3.size)
  have oSs := (((oS3.drew.keep hBs1).keep hBs2).keep hBs3).keep hBs4
  have oGs := (((oG3.drew.keep hBs1).keep hBs2).keep hBs3).keep hBs4
  clear k0 k1 k2 k3 k4 k5 hBs1 hBs2 hBs3 hBs4 hWs1 hWs2 hWs3 oS3 oG3
  clear bLxs1 bLxs2 bLxs3 bLxs4 bLys1 bLys2 bLys3 bLys4 bHxs1 bHxs2 bHxs3 bHxs4 bHys1 bHys2 bHys3 bHys4 bSxs1 bSxs2 bSxs3 bSxs4 bSys1 bSys2 bSys3 bSys4
  go_wp2_with fail
  refine (eqS_any _ _ L L _ oH.rd oSs.rd).mono ?_
  rw [decide_eq_true rfl]
  rintro e t1 ⟨rfl, hB⟩
  have hWt := hWs4.trans (hB.mono hWs4.size)
  have oGt := oGs.keep hB
  clear hB oSs oGs oH hWs4
  go_wp2_with fail
  refine (heldS_any _ _ 1 L.length _ oGt.rd (by omega) (by omega) rfl).mono ?_
  rintro e t2 ⟨rfl, hB⟩
  go_wp2
  go_ret
  exact ⟨rfl, hWt.trans (hB.mono hWt.size)⟩
end Go.Proofs.YtdamddfhflhfbaaDoor
