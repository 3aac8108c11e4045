import Derived.Test.YtdamddfhflhfbaaDoorCutS
import Derived.Test.YtdamddfhflhfbaaDoorCutI
namespace Go.Proofs.YtdamddfhflhfbaaDoor
open Go.RowKit Go.Lib Go.Shelf
set_option linter.unusedVariables false
set_option linter.unusedSimpArgs false

set_option maxRecDepth 100000 in
theorem toBound_any' (has : Bool) (x : Int) (w : World) :
    Calls Tryd.prog 13 #[.agg #[.bool has, .int .i64 x]] w fun e w' => e = .returned (bnd has x) ∧ Below w.heap.size w w' := by
  go_enter Tryd.func13, Tryd.ntmps13
  go_wp2
  refine bodyPost_ret (v := bnd has x) (by simp [results, Tryd.results13, go_sem]) rfl ⟨rfl, ?_⟩
  exact (((Below.refl _ w).alloc (Nat.le_refl _) _).alloc (by simp) _).alloc (by simp; omega) _
set_option maxHeartbeats 4000000 in
set_option maxRecDepth 100000 in
theorem law_textcut (s : ByteArray) (lh : Bool) (la : Int) (hh : Bool) (ha : Int) (sh : Bool) (sa : Int) (w : World)
    (hl0 : -9223372036854775808 ≤ la) (hl1 : la ≤ 9223372036854775807) (hh0 : -9223372036854775808 ≤ ha) (hh1 : ha ≤ 9223372036854775807) (hs0 : -9223372036854775808 ≤ sa) (hs1 : sa ≤ 9223372036854775807) (hT : Tabs w) (hEx : ∃ aA aZ aL, Errs w aA aZ aL) :
    Calls Tryd.prog 11 #[.string s, .agg #[.bool lh, .int .i64 la], .agg #[.bool hh, .int .i64 ha], .agg #[.bool sh, .int .i64 sa]] w fun e w' => e = .returned (.bool true) ∧ Below w.heap.size w w' := by
  obtain ⟨aA, aZ, aL, hE⟩ := hEx
  have bW : Below w.heap.size w (((w.alloc (Obj.cells #[.bool lh, .int .i64 la] 23)).alloc (Obj.cells #[.bool hh, .int .i64 ha] 23)).alloc (Obj.cells #[.bool sh, .int .i64 sa] 23)) := (((Below.refl _ w).alloc (Nat.le_refl _) _).alloc (by simp) _).alloc (by simp; omega) _
  by_cases hbig : (1048576 : Int) < (s.size : Int)
  · go_enter Tryd.func11, Tryd.ntmps11
    go_wp2
    go_ret
    exact ⟨rfl, bW⟩
  · have bL := (((Box.new w (.bool lh) (.int .i64 la) 23).alloc (Obj.cells #[.bool hh, .int .i64 ha] 23)).alloc (Obj.cells #[.bool sh, .int .i64 sa] 23))
    have bH := ((Box.new (w.alloc (Obj.cells #[.bool lh, .int .i64 la] 23)) (.bool hh) (.int .i64 ha) 23).alloc (Obj.cells #[.bool sh, .int .i64 sa] 23))
    have bS := (Box.new ((w.alloc (Obj.cells #[.bool lh, .int .i64 la] 23)).alloc (Obj.cells #[.bool hh, .int .i64 ha] 23)) (.bool sh) (.int .i64 sa) 23)
    simp only [World.size_alloc] at bH bS
    have hTl := fun W => toBound_any' lh la W
    have hTh := fun W => toBound_any' hh ha W
    have hTs := fun W => toBound_any' sh sa W
    have hS := fun W => textCutS_any s lh la hh ha sh sa W (by omega) hl0 hl1 hh0 hh1 hs0 hs1
    have hG := fun W h1 h2 => textCut_any s lh la hh ha sh sa aA aZ aL W (by omega) hl0 hl1 hh0 hh1 hs0 hs1 h1 h2
    generalize cutAns s lh la hh ha sh sa = A at hS hG
    obtain ⟨L, c⟩ := A
    simp only at hS hG
    generalize L.toArray = X at hS hG
    go_enter Tryd.func11, Tryd.ntmps11
    go_wp2_with fail
    obtain ⟨-, k0, k1⟩ := id bL
    obtain ⟨-, k2, k3⟩ := id bH
    obtain ⟨-, k4, k5⟩ := id bS
    go_region_held3 (fun W => W.cell? ⟨w.heap.size, 0, none⟩ = some (.bool lh) ∧ W.cell? ⟨w.heap.size, 1, none⟩ = some (.int .i64 la) ∧ W.cell? ⟨w.heap.size + 1, 0, none⟩ = some (.bool hh) ∧ W.cell? ⟨w.heap.size + 1, 1, none⟩ = some (.int .i64 ha) ∧ W.cell? ⟨w.heap.size + 1 + 1, 0, none⟩ = some (.bool sh) ∧ W.cell? ⟨w.heap.size + 1 + 1, 1, none⟩ = some (.int .i64 sa)) (go_keep) (first | (go_at_call_of 13 (Value.agg #[Value.bool lh, Value.int IntKind.i64 la]); refine (hTl _).mono ?_; rintro e v1 ⟨rfl, hBp1⟩; have bLp1 := bL.drew.keep hBp1; have bHp1 := bH.drew.keep hBp1; have bSp1 := bS.drew.keep hBp1; obtain ⟨-, bLxp1, bLyp1⟩ := id bLp1; obtain ⟨-, bHxp1, bHyp1⟩ := id bHp1; obtain ⟨-, bSxp1, bSyp1⟩ := id bSp1) | (go_at_call_of 13 (Value.agg #[Value.bool hh, Value.int IntKind.i64 ha]); refine (hTh _).mono ?_; rintro e v2 ⟨rfl, hBp2⟩; have bLp2 := bLp1.keep hBp2; have bHp2 := bHp1.keep hBp2; have bSp2 := bSp1.keep hBp2; obtain ⟨-, bLxp2, bLyp2⟩ := id bLp2; obtain ⟨-, bHxp2, bHyp2⟩ := id bHp2; obtain ⟨-, bSxp2, bSyp2⟩ := id bSp2) | (go_at_call_of 13 (Value.agg #[Value.bool sh, Value.int IntKind.i64 sa]); refine (hTs _).mono ?_; rintro e v3 ⟨rfl, hBp3⟩; have bLp3 := bLp2.keep hBp3; have bHp3 := bHp2.keep hBp3; have bSp3 := bSp2.keep hBp3; obtain ⟨-, bLxp3, bLyp3⟩ := id bLp3; obtain ⟨-, bHxp3, bHyp3⟩ := id bHp3; obtain ⟨-, bSxp3, bSyp3⟩ := id bSp3) | (go_at_call 35; refine (hS _).mono ?_; rintro e v4 ⟨rfl, hBp4⟩; have bLp4 := bLp3.keep hBp4; have bHp4 := bHp3.keep hBp4; have bSp4 := bSp3.keep hBp4; obtain ⟨-, bLxp4, bLyp4⟩ := id bLp4; obtain ⟨-, bHxp4, bHyp4⟩ := id bHp4; obtain ⟨-, bSxp4, bSyp4⟩ := id bSp4))
    have hW1 := bW.drew.trans (hBp1.mono bW.size)
    have hW2 := hW1.trans (hBp2.mono hW1.size)
    have hW3 := hW2.trans (hBp3.mono hW2.size)
    have hW4 := hW3.trans (hBp4.mono hW3.size)
    clear k0 k1 k2 k3 k4 k5 hBp1 hBp2 hBp3 hBp4 hW1 hW2 hW3 bL bH bS
    clear bLxp1 bLxp2 bLxp3 bLxp4 bLyp1 bLyp2 bLyp3 bLyp4 bHxp1 bHxp2 bHxp3 bHxp4 bHyp1 bHyp2 bHyp3 bHyp4 bSxp1 bSxp2 bSxp3 bSxp4 bSyp1 bSyp2 bSyp3 bSyp4
    obtain ⟨-, k0, k1⟩ := id bLp4
    obtain ⟨-, k2, k3⟩ := id bHp4
    obtain ⟨-, k4, k5⟩ := id bSp4
    go_wp2_with fail
    go_region_held3 (fun W => W.cell? ⟨w.heap.size, 0, none⟩ = some (.bool lh) ∧ W.cell? ⟨w.heap.size, 1, none⟩ = some (.int .i64 la) ∧ W.cell? ⟨w.heap.size + 1, 0, none⟩ = some (.bool hh) ∧ W.cell? ⟨w.heap.size + 1, 1, none⟩ = some (.int .i64 ha) ∧ W.cell? ⟨w.heap.size + 1 + 1, 0, none⟩ = some (.bool sh) ∧ W.cell? ⟨w.heap.size + 1 + 1, 1, none⟩ = some (.int .i64 sa)) (go_keep) (first | (go_at_call_of 13 (Value.agg #[Value.bool lh, Value.int IntKind.i64 la]); refine (hTl _).mono ?_; rintro e q1 ⟨rfl, hBq1⟩; have bLq1 := bLp4.drew.keep hBq1; have bHq1 := bHp4.drew.keep hBq1; have bSq1 := bSp4.drew.keep hBq1; obtain ⟨-, bLxq1, bLyq1⟩ := id bLq1; obtain ⟨-, bHxq1, bHyq1⟩ := id bHq1; obtain ⟨-, bSxq1, bSyq1⟩ := id bSq1) | (go_at_call_of 13 (Value.agg #[Value.bool hh, Value.int IntKind.i64 ha]); refine (hTh _).mono ?_; rintro e q2 ⟨rfl, hBq2⟩; have bLq2 := bLq1.keep hBq2; have bHq2 := bHq1.keep hBq2; have bSq2 := bSq1.keep hBq2; obtain ⟨-, bLxq2, bLyq2⟩ := id bLq2; obtain ⟨-, bHxq2, bHyq2⟩ := id bHq2; obtain ⟨-, bSxq2, bSyq2⟩ := id bSq2) | (go_at_call_of 13 (Value.agg #[Value.bool sh, Value.int IntKind.i64 sa]); refine (hTs _).mono ?_; rintro e q3 ⟨rfl, hBq3⟩; have bLq3 := bLq2.keep hBq3; have bHq3 := bHq2.keep hBq3; have bSq3 := bSq2.keep hBq3; obtain ⟨-, bLxq3, bLyq3⟩ := id bLq3; obtain ⟨-, bHxq3, bHyq3⟩ := id bHq3; obtain ⟨-, bSxq3, bSyq3⟩ := id bSq3; have hWq1 := hW4.drew.trans (hBq1.mono hW4.size); have hWq2 := hWq1.trans (hBq2.mono hWq1.size); have hWq3 := hWq2.trans (hBq3.mono hWq2.size)) | (go_at_call 36; refine (hG _ (hT.below hWq3) (hE.below hWq3)).mono ?_; rintro e q4 ⟨rfl, hBq4⟩; have bLq4 := bLq3.keep hBq4; have bHq4 := bHq3.keep hBq4; have bSq4 := bSq3.keep hBq4; obtain ⟨-, bLxq4, bLyq4⟩ := id bLq4; obtain ⟨-, bHxq4, bHyq4⟩ := id bHq4; obtain ⟨-, bSxq4, bSyq4⟩ := id bSq4))
    have hWq4 := hWq3.trans (hBq4.mono hWq3.size)
    clear k0 k1 k2 k3 k4 k5 hBq1 hBq2 hBq3 hBq4
    clear bLxq1 bLxq2 bLxq3 bLxq4 bLyq1 bLyq2 bLyq3 bLyq4 bHxq1 bHxq2 bHxq3 bHxq4 bHyq1 bHyq2 bHyq3 bHyq4 bSxq1 bSxq2 bSxq3 bSxq4 bSyq1 bSyq2 bSyq3 bSyq4
    go_wp2
    go_ret
    exact ⟨rfl, hWq4⟩
end Go.Proofs.YtdamddfhflhfbaaDoor
