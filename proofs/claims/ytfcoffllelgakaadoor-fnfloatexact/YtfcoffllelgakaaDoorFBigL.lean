import Derived.Test.YtfcoffllelgakaaDoorFBigI
import Derived.Test.YtfcoffllelgakaaDoorBase
namespace Go.Proofs.YtfcoffllelgakaaDoor
open Go.RowKit
set_option linter.unusedVariables false
set_option linter.unusedSimpArgs false

set_option maxHeartbeats 1000000 in
set_option maxRecDepth 100000 in
theorem floatBig_any (x : Int) (aA aZ aL : Addr) (w : World) (h0 : 0 ≤ x) (h1 : x ≤ 18446744073709551615) (hE : Errs w aA aZ aL) :
    Calls Tryd.prog 16 #[.int .u64 x] w fun e w' => ∃ a c, e = .returned (.tuple #[.agg #[.bool (fbS x.toNat), .slice a (fbL x.toNat).length c], .int .i64 (fbC x.toNat)]) ∧ Own w' w.heap.size (.slice a (fbL x.toNat).length c) (fbL x.toNat) ∧ Below w.heap.size w w' := by
  have hW0 := (Below.refl w.heap.size w).alloc (Nat.le_refl _) (Obj.cells #[.bool false, .slice none 0 0] 29)
  have hP := fun W h => wholePart_any x aA W h0 h1 h
  have hC := fun u W h hv => codeOf_any aA aZ aL u (fbC x.toNat) W h hv
  have hV : ∀ u, (u = if fbad x.toNat then errAt aA else .nilIface) → IsErr aA aZ aL u (fbC x.toNat) := by
    intro u hu
    cases hb : fbad x.toNat with
    | true => rw [hb] at hu; exact .inr (.inl ⟨hu, (fb_bad hb).2.2⟩)
    | false => rw [hb] at hu; exact .inl ⟨hu, (fb_good hb).2.2⟩
  generalize fbS x.toNat = s at hP ⊢
  generalize fbL x.toNat = L at hP ⊢
  generalize fbC x.toNat = C at hC hV ⊢
  go_enter Tryd.func16, Tryd.ntmps16
  go_wp2_with fail
  refine (hP _ (hE.below hW0).1.1).mono ?_
  rintro e w1 ⟨a1, c1, u, rfl, hu, o1, hB1⟩
  have hW1 := hW0.trans (hB1.mono hW0.size)
  have hv := hV u hu
  clear hP hV hu
  have bx1 := (Box.new w (.bool false) (.slice none 0 0) 29).keep hB1
  have fx1 := (Unf.new w #[.bool false, .slice none 0 0] 29).keep hB1
  have hEl := hE.below (hW1.alloc hW1.size (Obj.cells #[.bool s, .slice a1 L.length c1] 29))
  have hW2 := hW1.alloc hW1.size (Obj.cells #[.bool s, .slice a1 L.length c1] 29)
  have bl := Box.new w1 (.bool s) (.slice a1 L.length c1) 29
  have bx2 := bx1.alloc (Obj.cells #[.bool s, .slice a1 L.length c1] 29)
  have fx2 := fx1.keep ((Below.refl _ _).alloc (Nat.le_refl _) (Obj.cells #[.bool s, .slice a1 L.length c1] 29))
  have o2 := o1.alloc (Obj.cells #[.bool s, .slice a1 L.length c1] 29)
  have bx0 := (Box.new w (.bool false) (.slice none 0 0) 29).1
  obtain ⟨zl, l0, l1⟩ := id bl
  have hD : Below (w1.alloc (Obj.cells #[.bool s, .slice a1 L.length c1] 29)).heap.size (w1.alloc (Obj.cells #[.bool s, .slice a1 L.length c1] 29)) (w1.alloc (Obj.cells #[.bool s, .slice a1 L.length c1] 29)).drew := (Below.refl _ _).drew
  have hEd := hEl.below hD
  have hWd := hW2.trans (hD.mono hW2.size)
  have bd := bl.keep hD
  have xd := bx2.keep hD
  have fd := fx2.keep hD
  have od := o2.keep hD
  obtain ⟨zd, d0, d1⟩ := id bd
  go_wp2_with fail
  go_region_with (go_at_call 29; refine (hC _ _ hEd hv).mono ?_; rintro e w3 ⟨rfl, hB3⟩; obtain ⟨zl3, l30, l31⟩ := bd.keep hB3; obtain ⟨zx3, x30, x31⟩ := xd.keep hB3; have hf3 := (fd.keep hB3).2; have o3 := od.keep hB3; have hW3 := hWd.trans (hB3.mono hWd.size))
  all_goals (try go_wp2)
  all_goals refine bodyPost_ret (v := .tuple #[.agg #[.bool s, .slice a1 L.length c1], .int .i64 C]) (by simp [results, Tryd.results16, go_sem, Act.put, x30, x31, zx3]) rfl ⟨a1, c1, rfl, ?_, ?_⟩
  all_goals first
    | exact (((o3.setBelow bx0 _).setBelow bx0 _)).mono (by simp)
    | exact (hW3.setCell (Nat.le_refl _) _).setCell (Nat.le_refl _) _
end Go.Proofs.YtfcoffllelgakaaDoor
