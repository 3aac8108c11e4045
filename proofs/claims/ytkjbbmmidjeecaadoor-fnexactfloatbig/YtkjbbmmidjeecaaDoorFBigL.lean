import Derived.Test.YtkjbbmmidjeecaaDoorFBigI
import Derived.Test.YtkjbbmmidjeecaaDoorHelp
namespace Go.Proofs.YtkjbbmmidjeecaaDoor
open Go.RowKit
set_option linter.unusedVariables false
set_option linter.unusedSimpArgs false

theorem fbL_len (x : Nat) : (fbL x).length ≤ 66 := by
  cases hb : fbad x with
  | true => rw [(fb_bad hb).2.1]; simp
  | false => rw [(fb_good hb).2.1]; exact fq_len hb
set_option maxHeartbeats 1000000 in
set_option maxRecDepth 100000 in
theorem floatBig_any (x : Int) (aA aZ aL : Addr) (w : World) (h0 : 0 ≤ x) (h1 : x ≤ 18446744073709551615) (hE : Errs w aA aZ aL) :
    Calls Tryd.prog 10 #[.int .u64 x] w fun e w' => ∃ a c, e = .returned (.tuple #[.agg #[.bool (fbS x.toNat), .slice a (fbL x.toNat).length c], .int .i64 (fbC x.toNat)]) ∧ Own w' w.heap.size (.slice a (fbL x.toNat).length c) (fbL x.toNat) ∧ Below w.heap.size w w' := by
  have hW0 := (Below.refl w.heap.size w).alloc (Nat.le_refl _) (Obj.cells #[.bool false, .slice none 0 0] 25)
  have hP := fun W h => wholePart_any x aA aZ aL W h0 h1 h
  have hC := fun u W h hv => codeOf_any aA aZ aL u (fbC x.toNat) W h hv
  have hV : ∀ u, (u = if fbad x.toNat then errAt aA else .nilIface) → IsErr aA aZ aL u (fbC x.toNat) := by
    intro u hu
    cases hb : fbad x.toNat with
    | true => rw [hb] at hu; exact .inr (.inl ⟨hu, (fb_bad hb).2.2⟩)
    | false => rw [hb] at hu; exact .inl ⟨hu, (fb_good hb).2.2⟩
  generalize fbS x.toNat = s at hP ⊢
  generalize fbL x.toNat = L at hP ⊢
  generalize fbC x.toNat = C at hC hV ⊢
  go_enter Tryd.func10, Tryd.ntmps10
  go_wp2_with fail
  refine (hP _ (hE.below hW0)).mono ?_
  rintro e w1 ⟨a1, c1, u, rfl, hu, o1, hB1⟩
  have hW1 := hW0.trans (hB1.mono hW0.size)
  have hv := hV u hu
  clear hP hV hu
  have bx1 := (Box.new w (.bool false) (.slice none 0 0) 25).keep hB1
  have fx1 := (Unf.new w #[.bool false, .slice none 0 0] 25).keep hB1
  have hEl := hE.below (hW1.alloc hW1.size (Obj.cells #[.bool s, .slice a1 L.length c1] 25))
  have hW2 := hW1.alloc hW1.size (Obj.cells #[.bool s, .slice a1 L.length c1] 25)
  have bl := Box.new w1 (.bool s) (.slice a1 L.length c1) 25
  have bx2 := bx1.alloc (Obj.cells #[.bool s, .slice a1 L.length c1] 25)
  have fx2 := fx1.keep ((Below.refl _ _).alloc (Nat.le_refl _) (Obj.cells #[.bool s, .slice a1 L.length c1] 25))
  have o2 := o1.alloc (Obj.cells #[.bool s, .slice a1 L.length c1] 25)
  have bx0 := (Box.new w (.bool false) (.slice none 0 0) 25).1
  obtain ⟨zl, l0, l1⟩ := id bl
  have hD : Below (w1.alloc (Obj.cells #[.bool s, .slice a1 L.length c1] 25)).heap.size (w1.alloc (Obj.cells #[.bool s, .slice a1 L.length c1] 25)) (w1.alloc (Obj.cells #[.bool s, .slice a1 L.length c1] 25)).drew := (Below.refl _ _).drew
  have hEd := hEl.below hD
  have hWd := hW2.trans (hD.mono hW2.size)
  have bd := bl.keep hD
  have xd := bx2.keep hD
  have fd := fx2.keep hD
  have od := o2.keep hD
  obtain ⟨zd, d0, d1⟩ := id bd
  go_wp2_with fail
  go_region_with (go_at_call 35; refine (hC _ _ hEd hv).mono ?_; rintro e w3 ⟨rfl, hB3⟩; obtain ⟨zl3, l30, l31⟩ := bd.keep hB3; obtain ⟨zx3, x30, x31⟩ := xd.keep hB3; have hf3 := (fd.keep hB3).2; have o3 := od.keep hB3; have hW3 := hWd.trans (hB3.mono hWd.size))
  all_goals (try go_wp2)
  all_goals refine bodyPost_ret (v := .tuple #[.agg #[.bool s, .slice a1 L.length c1], .int .i64 C]) (by simp [results, Tryd.results10, go_sem, Act.put, x30, x31, zx3]) rfl ⟨a1, c1, rfl, ?_, ?_⟩
  all_goals first
    | exact (((o3.setBelow bx0 _).setBelow bx0 _)).mono (by simp)
    | exact (hW3.setCell (Nat.le_refl _) _).setCell (Nat.le_refl _) _
set_option maxHeartbeats 1000000 in
set_option maxRecDepth 100000 in
theorem law_floatbig (x : Int) (w : World) (h0 : 0 ≤ x) (h1 : x ≤ 18446744073709551615) (hEx : ∃ aA aZ aL, Errs w aA aZ aL) :
    Calls Tryd.prog 3 #[.int .u64 x] w fun e w' => e = .returned (.bool true) ∧ Below w.heap.size w w' := by
  obtain ⟨aA, aZ, aL, hE⟩ := hEx
  have hS := fun W => floatBigS_any x W h0 h1
  have hG := fun W h => floatBig_any x aA aZ aL W h0 h1 h
  have hLl := fbL_len x.toNat
  generalize fbL x.toNat = L at hS hG hLl
  generalize fbS x.toNat = s at hS hG
  generalize fbC x.toNat = C at hS hG
  go_enter Tryd.func3, Tryd.ntmps3
  have hW := Below.refl w.heap.size w
  go_wp2_with fail
  refine (hS _).mono ?_
  rintro e w1 ⟨aS, cS, rfl, oS, hB⟩
  replace hW := hW.trans (hB.mono hW.size)
  have hz1 : w.heap.size ≤ w1.heap.size := by have := hB.size; (try simp at this); omega
  clear hB
  have loS := oS.lt
  replace hW := hW.alloc hW.size (Obj.cells #[.bool s, .slice aS L.length cS] 25)
  replace oS := oS.alloc (Obj.cells #[.bool s, .slice aS L.length cS] 25)
  have bS := Box.new w1 (.bool s) (.slice aS L.length cS) 25
  obtain ⟨-, bSp, bSq⟩ := id bS
  go_wp2_with fail
  clear bSp bSq
  refine (hG _ (hE.below hW)).mono ?_
  rintro e w2 ⟨aG, cG, rfl, oG, hB⟩
  replace hW := hW.trans (hB.mono hW.size)
  replace bS := bS.keep hB
  replace oS := oS.keep hB
  have hz2 : w1.heap.size + 1 ≤ w2.heap.size := by have := hB.size; (try simp at this); omega
  clear hB
  have loG := oG.lt
  simp only [World.size_alloc] at loG
  replace hW := hW.alloc hW.size (Obj.cells #[.bool s, .slice aG L.length cG] 25)
  replace bS := bS.alloc (Obj.cells #[.bool s, .slice aG L.length cG] 25)
  replace oS := oS.alloc (Obj.cells #[.bool s, .slice aG L.length cG] 25)
  replace oG := oG.alloc (Obj.cells #[.bool s, .slice aG L.length cG] 25)
  have bG := Box.new w2 (.bool s) (.slice aG L.length cG) 25
  obtain ⟨-, bSp, bSq⟩ := id bS
  obtain ⟨-, bGp, bGq⟩ := id bG
  go_wp2_with fail
  clear bSp bSq bGp bGq
  refine (eqBig_same _ _ _ L _ oG.rd oS.rd).mono ?_
  rintro e w3 ⟨rfl, hB⟩
  replace hW := hW.trans (hB.mono hW.size)
  replace bS := bS.keep hB
  replace bG := bG.keep hB
  replace oS := oS.keep hB
  replace oG := oG.keep hB
  have hz3 : w2.heap.size + 1 ≤ w3.heap.size := by have := hB.size; (try simp at this); omega
  clear hB
  obtain ⟨-, bSp, bSq⟩ := id bS
  obtain ⟨-, bGp, bGq⟩ := id bG
  go_wp2_with fail
  clear bSp bSq bGp bGq
  refine (markBig_any _ _ _ _ _ L 1 _ oG (by (try simp); omega) (by omega) (by omega)).mono ?_
  rintro e w4 ⟨rfl, oG', hg⟩
  replace hW := hW.trans (gb_to hg (fun k hk => by have := loG k hk; omega) hW.size)
  replace bS := bS.but hg (bx_ne loG (by omega))
  replace bG := bG.but hg (bx_ne loG (by omega))
  replace oS := oS.but hg (ob_ne loS loG (by omega))
  have hz4 : w3.heap.size ≤ w4.heap.size := by have := hg.size; (try simp at this); omega
  clear oG
  have oG := oG'
  clear oG'
  clear hg
  obtain ⟨-, bSp, bSq⟩ := id bS
  obtain ⟨-, bGp, bGq⟩ := id bG
  go_wp2_with fail
  clear bSp bSq bGp bGq
  refine (heldBig_any _ _ _ 1 L.length _ oG.rd (by omega) (by omega) rfl).mono ?_
  rintro e w5 ⟨rfl, hB⟩
  replace hW := hW.trans (hB.mono hW.size)
  replace bS := bS.keep hB
  replace bG := bG.keep hB
  replace oS := oS.keep hB
  replace oG := oG.keep hB
  have hz5 : w4.heap.size ≤ w5.heap.size := by have := hB.size; (try simp at this); omega
  clear hB
  obtain ⟨-, bSp, bSq⟩ := id bS
  obtain ⟨-, bGp, bGq⟩ := id bG
  go_wp2_with fail
  clear bSp bSq bGp bGq
  refine (hG _ (hE.below hW)).mono ?_
  rintro e w6 ⟨aH, cH, rfl, oH, hB⟩
  replace hW := hW.trans (hB.mono hW.size)
  replace bS := bS.keep hB
  replace bG := bG.keep hB
  replace oS := oS.keep hB
  replace oG := oG.keep hB
  have hz6 : w5.heap.size ≤ w6.heap.size := by have := hB.size; (try simp at this); omega
  clear hB
  have loH := oH.lt
  replace hW := hW.alloc hW.size (Obj.cells #[.bool s, .slice aH L.length cH] 25)
  replace bS := bS.alloc (Obj.cells #[.bool s, .slice aH L.length cH] 25)
  replace bG := bG.alloc (Obj.cells #[.bool s, .slice aH L.length cH] 25)
  replace oS := oS.alloc (Obj.cells #[.bool s, .slice aH L.length cH] 25)
  replace oG := oG.alloc (Obj.cells #[.bool s, .slice aH L.length cH] 25)
  replace oH := oH.alloc (Obj.cells #[.bool s, .slice aH L.length cH] 25)
  have bH := Box.new w6 (.bool s) (.slice aH L.length cH) 25
  obtain ⟨-, bSp, bSq⟩ := id bS
  obtain ⟨-, bGp, bGq⟩ := id bG
  obtain ⟨-, bHp, bHq⟩ := id bH
  go_wp2_with fail
  clear bSp bSq bGp bGq bHp bHq
  refine (eqBig_same _ _ _ L _ oH.rd oS.rd).mono ?_
  rintro e w7 ⟨rfl, hB⟩
  replace hW := hW.trans (hB.mono hW.size)
  replace bS := bS.keep hB
  replace bG := bG.keep hB
  replace bH := bH.keep hB
  replace oS := oS.keep hB
  replace oG := oG.keep hB
  replace oH := oH.keep hB
  have hz7 : w6.heap.size + 1 ≤ w7.heap.size := by have := hB.size; (try simp at this); omega
  clear hB
  obtain ⟨-, bSp, bSq⟩ := id bS
  obtain ⟨-, bGp, bGq⟩ := id bG
  obtain ⟨-, bHp, bHq⟩ := id bH
  go_wp2_with fail
  clear bSp bSq bGp bGq bHp bHq
  refine (heldBig_any _ _ _ 1 L.length _ oG.rd (by omega) (by omega) rfl).mono ?_
  rintro e w8 ⟨rfl, hB⟩
  replace hW := hW.trans (hB.mono hW.size)
  replace bS := bS.keep hB
  replace bG := bG.keep hB
  replace bH := bH.keep hB
  replace oS := oS.keep hB
  replace oG := oG.keep hB
  replace oH := oH.keep hB
  have hz8 : w7.heap.size ≤ w8.heap.size := by have := hB.size; (try simp at this); omega
  clear hB
  obtain ⟨-, bSp, bSq⟩ := id bS
  obtain ⟨-, bGp, bGq⟩ := id bG
  obtain ⟨-, bHp, bHq⟩ := id bH
  go_wp2_with fail
  go_ret
  exact ⟨rfl, hW⟩
end Go.Proofs.YtkjbbmmidjeecaaDoor
