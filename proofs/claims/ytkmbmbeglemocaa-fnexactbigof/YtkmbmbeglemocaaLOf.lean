import Derived.Test.YtkmbmbeglemocaaOf
namespace Go.Proofs.Ytkmbmbeglemocaa
open Go.RowKit
set_option linter.unusedVariables false
set_option linter.unusedSimpArgs false

theorem nat_beq_ne {n : Nat} : (((1 : Int) + n) != 1 + n) = false := by simp

set_option maxHeartbeats 1000000 in
set_option maxRecDepth 100000 in
theorem law_of (x : Int) (w : World) (h0 : -9223372036854775808 ≤ x) (h1 : x ≤ 9223372036854775807) :
    Calls Try.prog 4 #[.int .i64 x] w fun e w' => e = .returned (.bool true) ∧ Below w.heap.size w w' := by
  have hS := fun W => bigOfS_any x W h0 h1
  have hG := fun W => bigOf_any x W h0 h1
  generalize lim x.natAbs = L at hS hG
  generalize decide (x < 0) = s at hS hG
  go_enter Try.func4, Try.ntmps4
  have hW := Below.refl w.heap.size w
  go_wp2_with fail
  refine (hS _).mono ?_
  rintro e w1 ⟨aS, cS, rfl, oS, hB⟩
  replace hW := hW.trans (hB.mono hW.size)
  have hz1 : w.heap.size ≤ w1.heap.size := by have := hB.size; (try simp at this); omega
  clear hB
  have loS := oS.lt
  replace hW := hW.alloc hW.size (Obj.cells #[.bool s, .slice aS L.length cS] 27)
  replace oS := oS.alloc (Obj.cells #[.bool s, .slice aS L.length cS] 27)
  have bS := Box.new w1 (.bool s) (.slice aS L.length cS) 27
  obtain ⟨-, bSp, bSq⟩ := id bS
  go_wp2_with fail
  clear bSp bSq
  refine (hG _).mono ?_
  rintro e w2 ⟨aG, cG, rfl, oG, hB⟩
  replace hW := hW.trans (hB.mono hW.size)
  replace bS := bS.keep hB
  replace oS := oS.keep hB
  have hz2 : w1.heap.size + 1 ≤ w2.heap.size := by have := hB.size; (try simp at this); omega
  clear hB
  have loG := oG.lt
  simp only [World.size_alloc] at loG
  replace hW := hW.alloc hW.size (Obj.cells #[.bool s, .slice aG L.length cG] 27)
  replace bS := bS.alloc (Obj.cells #[.bool s, .slice aG L.length cG] 27)
  replace oS := oS.alloc (Obj.cells #[.bool s, .slice aG L.length cG] 27)
  replace oG := oG.alloc (Obj.cells #[.bool s, .slice aG L.length cG] 27)
  have bG := Box.new w2 (.bool s) (.slice aG L.length cG) 27
  obtain ⟨-, bSp, bSq⟩ := id bS
  obtain ⟨-, bGp, bGq⟩ := id bG
  go_wp2_with fail
  clear bSp bSq bGp bGq
  refine (eqBig_same _ _ _ L _ oG.rd oS.rd).mono ?_
  rintro e w3 ⟨rfl, hB⟩
  replace hW := hW.trans (hB.mono hW.size)
  replace bS := bS.keep hB
  replace bG := bG.keep hB
  replace oS := oS.keep hB
  replace oG := oG.keep hB
  have hz3 : w2.heap.size + 1 ≤ w3.heap.size := by have := hB.size; (try simp at this); omega
  clear hB
  obtain ⟨-, bSp, bSq⟩ := id bS
  obtain ⟨-, bGp, bGq⟩ := id bG
  go_wp2_with fail
  clear bSp bSq bGp bGq
  refine (markBig_any _ _ _ _ _ L 1 _ oG (by simp; omega) (by omega) (by omega)).mono ?_
  rintro e w4 ⟨rfl, oG', hg⟩
  replace hW := hW.trans (gb_to hg (fun k hk => by have := loG k hk; omega) hW.size)
  replace bS := bS.but hg (bx_ne loG (by omega))
  replace bG := bG.but hg (bx_ne loG (by omega))
  replace oS := oS.but hg (ob_ne loS loG (by omega))
  have hz4 : w3.heap.size ≤ w4.heap.size := by have := hg.size; (try simp at this); omega
  clear oG
  have oG := oG'
  clear oG'
  clear hg
  obtain ⟨-, bSp, bSq⟩ := id bS
  obtain ⟨-, bGp, bGq⟩ := id bG
  go_wp2_with fail
  clear bSp bSq bGp bGq
  refine (heldBig_any _ _ _ 1 L.length _ oG.rd (by omega) (by omega) rfl).mono ?_
  rintro e w5 ⟨rfl, hB⟩
  replace hW := hW.trans (hB.mono hW.size)
  replace bS := bS.keep hB
  replace bG := bG.keep hB
  replace oS := oS.keep hB
  replace oG := oG.keep hB
  have hz5 : w4.heap.size ≤ w5.heap.size := by have := hB.size; (try simp at this); omega
  clear hB
  obtain ⟨-, bSp, bSq⟩ := id bS
  obtain ⟨-, bGp, bGq⟩ := id bG
  go_wp2_with fail
  clear bSp bSq bGp bGq
  refine (hG _).mono ?_
  rintro e w6 ⟨aH, cH, rfl, oH, hB⟩
  replace hW := hW.trans (hB.mono hW.size)
  replace bS := bS.keep hB
  replace bG := bG.keep hB
  replace oS := oS.keep hB
  replace oG := oG.keep hB
  have hz6 : w5.heap.size ≤ w6.heap.size := by have := hB.size; (try simp at this); omega
  clear hB
  have loH := oH.lt
  replace hW := hW.alloc hW.size (Obj.cells #[.bool s, .slice aH L.length cH] 27)
  replace bS := bS.alloc (Obj.cells #[.bool s, .slice aH L.length cH] 27)
  replace bG := bG.alloc (Obj.cells #[.bool s, .slice aH L.length cH] 27)
  replace oS := oS.alloc (Obj.cells #[.bool s, .slice aH L.length cH] 27)
  replace oG := oG.alloc (Obj.cells #[.bool s, .slice aH L.length cH] 27)
  replace oH := oH.alloc (Obj.cells #[.bool s, .slice aH L.length cH] 27)
  have bH := Box.new w6 (.bool s) (.slice aH L.length cH) 27
  obtain ⟨-, bSp, bSq⟩ := id bS
  obtain ⟨-, bGp, bGq⟩ := id bG
  obtain ⟨-, bHp, bHq⟩ := id bH
  go_wp2_with fail
  clear bSp bSq bGp bGq bHp bHq
  refine (eqBig_same _ _ _ L _ oH.rd oS.rd).mono ?_
  rintro e w7 ⟨rfl, hB⟩
  replace hW := hW.trans (hB.mono hW.size)
  replace bS := bS.keep hB
  replace bG := bG.keep hB
  replace bH := bH.keep hB
  replace oS := oS.keep hB
  replace oG := oG.keep hB
  replace oH := oH.keep hB
  have hz7 : w6.heap.size + 1 ≤ w7.heap.size := by have := hB.size; (try simp at this); omega
  clear hB
  obtain ⟨-, bSp, bSq⟩ := id bS
  obtain ⟨-, bGp, bGq⟩ := id bG
  obtain ⟨-, bHp, bHq⟩ := id bH
  go_wp2_with fail
  clear bSp bSq bGp bGq bHp bHq
  refine (heldBig_any _ _ _ 1 L.length _ oG.rd (by omega) (by omega) rfl).mono ?_
  rintro e w8 ⟨rfl, hB⟩
  replace hW := hW.trans (hB.mono hW.size)
  replace bS := bS.keep hB
  replace bG := bG.keep hB
  replace bH := bH.keep hB
  replace oS := oS.keep hB
  replace oG := oG.keep hB
  replace oH := oH.keep hB
  have hz8 : w7.heap.size ≤ w8.heap.size := by have := hB.size; (try simp at this); omega
  clear hB
  obtain ⟨-, bSp, bSq⟩ := id bS
  obtain ⟨-, bGp, bGq⟩ := id bG
  obtain ⟨-, bHp, bHq⟩ := id bH
  go_wp2_with fail
  go_ret
  exact ⟨rfl, hW⟩
end Go.Proofs.Ytkmbmbeglemocaa
