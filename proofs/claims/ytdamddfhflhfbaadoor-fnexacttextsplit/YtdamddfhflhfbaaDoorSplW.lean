import Derived.Test.YtdamddfhflhfbaaDoorSplJ
namespace Go.Proofs.YtdamddfhflhfbaaDoor
open Go.RowKit Go.Lib Go.Shelf
set_option linter.unusedVariables false
set_option linter.unusedSimpArgs false

theorem splitAns_len (s sep : ByteArray) : (splitAns s sep).1.length ≤ 16385 := by
  unfold splitAns
  split
  · rename_i h
    have h1 := textOf_size h.1
    have := splitAll_len s sep (by have := h.2.2; omega)
    show (splitAll s sep).length ≤ _
    omega
  · simp
set_option maxHeartbeats 4000000 in
set_option maxRecDepth 100000 in
theorem law_textsplit (s sep : ByteArray) (W : World) (hT : Tabs W) (hM : MaxL W) :
    Calls Tryd.prog 7 #[.string s, .string sep] W fun e w' => e = .returned (.bool true) ∧ Below W.heap.size W w' := by
  by_cases hbig : (1048576 : Int) < (s.size : Int)
  · go_enter Tryd.func7, Tryd.ntmps7
    go_wp2
    go_ret
    exact ⟨rfl, Below.refl _ _⟩
  by_cases hbig2 : (1048576 : Int) < (sep.size : Int)
  · go_enter Tryd.func7, Tryd.ntmps7
    go_wp2
    go_ret
    exact ⟨rfl, Below.refl _ _⟩
  have hS := fun w => textSplitS_any s sep w (by omega) (by omega)
  have hG := fun w h h2 => textSplit_any s sep w (by omega) (by omega) h h2
  have hAl := splitAns_len s sep
  generalize splitAns s sep = A at hS hG hAl
  obtain ⟨L, c⟩ := A
  simp only at hS hG hAl
  go_enter Tryd.func7, Tryd.ntmps7
  go_wp2_with fail
  refine (hS _).mono ?_
  rintro e w1 ⟨aS, cS, rfl, oS, hB1⟩
  go_wp2_with fail
  refine (hG _ (hT.below hB1) (hM.below hB1)).mono ?_
  rintro e w2 ⟨aG, cG, rfl, oG, hB2⟩
  have hW2 := hB1.trans (hB2.mono hB1.size)
  have loS := oS.lt
  have oS2 := oS.keep hB2
  have loG := oG.lt
  have z1 := hB1.size
  have z2 := hB2.size
  clear oS hB1 hB2
  go_wp2_with fail
  refine (eqT_any _ _ L _ oG.rd oS2.rd).mono ?_
  rintro e w3 ⟨rfl, hB⟩
  have hW3 := hW2.trans (hB.mono hW2.size)
  have oS3 := oS2.keep hB
  have oG3 := oG.keep hB
  have z3 := hB.size
  clear hB oS2 oG hW2
  go_wp2_with fail
  refine (markT_any _ _ _ _ L 1 _ oG3 (by omega) (by omega) (by omega)).mono ?_
  rintro e w4 ⟨rfl, oG4, hg⟩
  have hW4 := hW3.trans (gb_to hg (fun k hk => by have := loG k hk; omega) hW3.size)
  have oS4 := oS3.but hg (ob_ne loS loG (by omega))
  have z4 := hg.size
  clear hg oG3 oS3 hW3
  go_wp2_with fail
  refine (heldT_any _ _ 1 L.length _ oG4.rd (by omega) (by omega) rfl).mono ?_
  rintro e w5 ⟨rfl, hB⟩
  have hW5 := hW4.trans (hB.mono hW4.size)
  have oS5 := oS4.keep hB
  have oG5 := oG4.keep hB
  clear hB oG4 oS4 hW4
  have hkn : ¬ ((1 + L.length : Nat) : Int) < 0 := by omega
  go_wp2_with fail
  refine (hG _ (hT.below hW5) (hM.below hW5)).mono ?_
  rintro e w6 ⟨aH, cH, rfl, oH, hB⟩
  have hW6 := hW5.trans (hB.mono hW5.size)
  have oS6 := oS5.keep hB
  have oG6 := oG5.keep hB
  clear hB oS5 oG5 hW5
  go_wp2_with fail
  refine (eqT_any _ _ L _ oH.rd oS6.rd).mono ?_
  rintro e w7 ⟨rfl, hB⟩
  have hW7 := hW6.trans (hB.mono hW6.size)
  have oG7 := oG6.keep hB
  clear hB oS6 oG6 oH hW6
  go_wp2_with fail
  refine (heldT_any _ _ 1 L.length _ oG7.rd (by omega) (by omega) rfl).mono ?_
  rintro e w8 ⟨rfl, hB⟩
  go_wp2
  go_ret
  exact ⟨rfl, hW7.trans (hB.mono hW7.size)⟩
end Go.Proofs.YtdamddfhflhfbaaDoor
