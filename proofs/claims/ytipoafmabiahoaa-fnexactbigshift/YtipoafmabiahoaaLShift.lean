import Derived.Test.YtipoafmabiahoaaShiftB
import Derived.Test.YtipoafmabiahoaaCut
import Derived.Deep.RegionHeld3
namespace Go.Proofs.Ytipoafmabiahoaa
open Go.RowKit
set_option linter.unusedVariables false
set_option linter.unusedSimpArgs false

set_option maxHeartbeats 4000000 in
set_option maxRecDepth 100000 in
theorem law_shift (p : Bool) (a : Option Addr) (cap : Nat) (xs : List Int) (n : Int) (w : World) (hrx : xs.length ≤ 1048576 → Rd w (.slice a xs.length cap) xs) (hlx : xs.length ≤ 9223372036854775807) (hn0 : -9223372036854775808 ≤ n) (hn1 : n ≤ 9223372036854775807) :
    Calls Try.prog 3 #[.agg #[.bool p, .slice a xs.length cap], .int .i64 n] w fun e w' => e = .returned (.bool true) ∧ Below w.heap.size w w' := by
  have hW := (Below.refl w.heap.size w).alloc (Nat.le_refl _) (Obj.cells #[.bool p, .slice a xs.length cap] 24)
  have bA := Box.new w (.bool p) (.slice a xs.length cap) 24
  by_cases hbig : (1048576 : Int) < xs.length
  · go_enter Try.func3, Try.ntmps3
    go_wp2_with fail
    refine (szBig_any _ _ _ _ _ _ hlx (by omega) (by omega)).mono ?_
    rw [if_pos hbig]
    rintro e w1 ⟨rfl, hB⟩
    go_wp2
    go_ret
    exact ⟨rfl, hW.trans (hB.mono hW.size)⟩
  · have hx0 : Rd w (.slice a xs.length cap) xs := hrx (by omega)
    have hS := fun W v h => bigShiftS_any p v xs n W h hn0 hn1
    have hG := fun W v h => bigShift_any p v xs n W h hn0 hn1
    generalize shS (okB p xs) p (val xs) n = s at hS hG
    generalize shL (okB p xs) p (val xs) n = L at hS hG
    generalize shC (okB p xs) (val xs) n = C at hS hG
    clear hrx hn0 hn1
    go_enter Try.func3, Try.ntmps3
    go_wp2_with fail
    refine (szBig_any _ _ _ _ _ _ hlx (by omega) (by omega)).mono ?_
    rw [if_neg (by omega)]
    rintro e w1 ⟨rfl, hB⟩
    replace hW := hW.trans (hB.mono hW.size)
    replace bA := bA.keep hB
    clear hB
    have hs0 := bA.1
    obtain ⟨-, bAp, bAq⟩ := id bA
    go_wp2_with fail
    clear bAp bAq
    refine (toBig_any _ _ xs _ (hx0.keep hW)).mono ?_
    rintro e ua ⟨aV, cV, rfl, oV, hB⟩
    replace hW := hW.trans (hB.mono hW.size)
    replace bA := bA.keep hB
    have hz1 : w1.heap.size ≤ ua.heap.size := by have := hB.size; (try simp at this); omega
    clear hB
    have loV := oV.lt
    try simp only [World.size_alloc] at loV
    obtain ⟨-, bAp, bAq⟩ := id bA
    go_wp2_with fail
    clear bAp bAq
    refine (hS _ _ oV.rd).mono ?_
    rintro e ub ⟨aS, cS, rfl, oS, hB⟩
    replace hW := hW.trans (hB.mono hW.size)
    replace bA := bA.keep hB
    replace oV := oV.keep hB
    have hz2 : ua.heap.size ≤ ub.heap.size := by have := hB.size; (try simp at this); omega
    clear hB
    have loS := oS.lt
    try simp only [World.size_alloc] at loS
    clear oV loV
    replace hW := hW.alloc hW.size (Obj.cells #[.bool s, .slice aS L.length cS] 26)
    replace bA := bA.alloc (Obj.cells #[.bool s, .slice aS L.length cS] 26)
    replace oS := oS.alloc (Obj.cells #[.bool s, .slice aS L.length cS] 26)
    have bS := Box.new ub (.bool s) (.slice aS L.length cS) 26
    obtain ⟨-, bAp, bAq⟩ := id bA
    obtain ⟨-, bSp, bSq⟩ := id bS
    go_wp2_with fail
    clear bAp bAq bSp bSq
    refine (toBig_any _ _ xs _ (hx0.keep hW)).mono ?_
    rintro e uc ⟨aX, cX, rfl, oX, hB⟩
    replace hW := hW.trans (hB.mono hW.size)
    replace bA := bA.keep hB
    replace bS := bS.keep hB
    replace oS := oS.keep hB
    have hz3 : ub.heap.size + 1 ≤ uc.heap.size := by have := hB.size; (try simp at this); omega
    clear hB
    have loX := oX.lt
    try simp only [World.size_alloc] at loX
    replace hW := hW.alloc hW.size (Obj.cells #[.bool p, .slice aX xs.length cX] 26)
    replace bA := bA.alloc (Obj.cells #[.bool p, .slice aX xs.length cX] 26)
    replace bS := bS.alloc (Obj.cells #[.bool p, .slice aX xs.length cX] 26)
    replace oS := oS.alloc (Obj.cells #[.bool p, .slice aX xs.length cX] 26)
    replace oX := oX.alloc (Obj.cells #[.bool p, .slice aX xs.length cX] 26)
    have bX := Box.new uc (.bool p) (.slice aX xs.length cX) 26
    obtain ⟨-, bAp, bAq⟩ := id bA
    obtain ⟨-, bSp, bSq⟩ := id bS
    obtain ⟨-, bXp, bXq⟩ := id bX
    go_wp2_with fail
    clear bAp bAq bSp bSq bXp bXq
    refine (hG _ _ oX.rd).mono ?_
    rintro e ud ⟨aG, cG, rfl, oG, hB⟩
    replace hW := hW.trans (hB.mono hW.size)
    replace bA := bA.keep hB
    replace bS := bS.keep hB
    replace bX := bX.keep hB
    replace oS := oS.keep hB
    replace oX := oX.keep hB
    have hz4 : uc.heap.size + 1 ≤ ud.heap.size := by have := hB.size; (try simp at this); omega
    clear hB
    have loG := oG.lt
    try simp only [World.size_alloc] at loG
    replace hW := hW.alloc hW.size (Obj.cells #[.bool s, .slice aG L.length cG] 26)
    replace bA := bA.alloc (Obj.cells #[.bool s, .slice aG L.length cG] 26)
    replace bS := bS.alloc (Obj.cells #[.bool s, .slice aG L.length cG] 26)
    replace bX := bX.alloc (Obj.cells #[.bool s, .slice aG L.length cG] 26)
    replace oS := oS.alloc (Obj.cells #[.bool s, .slice aG L.length cG] 26)
    replace oX := oX.alloc (Obj.cells #[.bool s, .slice aG L.length cG] 26)
    replace oG := oG.alloc (Obj.cells #[.bool s, .slice aG L.length cG] 26)
    have bG := Box.new ud (.bool s) (.slice aG L.length cG) 26
    obtain ⟨-, bAp, bAq⟩ := id bA
    obtain ⟨-, bSp, bSq⟩ := id bS
    obtain ⟨-, bXp, bXq⟩ := id bX
    obtain ⟨-, bGp, bGq⟩ := id bG
    go_wp2_with fail
    clear bAp bAq bSp bSq bXp bXq bGp bGq
    refine (eqBig_same _ _ _ L _ oG.rd oS.rd).mono ?_
    rintro e ue ⟨rfl, hB⟩
    replace hW := hW.trans (hB.mono hW.size)
    replace bA := bA.keep hB
    replace bS := bS.keep hB
    replace bX := bX.keep hB
    replace bG := bG.keep hB
    replace oS := oS.keep hB
    replace oX := oX.keep hB
    replace oG := oG.keep hB
    have hz5 : ud.heap.size + 1 ≤ ue.heap.size := by have := hB.size; (try simp at this); omega
    clear hB
    obtain ⟨-, bAp, bAq⟩ := id bA
    obtain ⟨-, bSp, bSq⟩ := id bS
    obtain ⟨-, bXp, bXq⟩ := id bX
    obtain ⟨-, bGp, bGq⟩ := id bG
    have hWo := hW
    have bAo := bA
    have bSo := bS
    have bXo := bX
    have bGo := bG
    have oSo := oS
    have oXo := oX
    have oGo := oG
    go_wp2_with fail
    go_region_held3 (fun W => W.cell? ⟨uc.heap.size, 0, none⟩ = some (.bool p) ∧ W.cell? ⟨uc.heap.size, 1, none⟩ = some (.slice aX xs.length cX) ∧ W.cell? ⟨w.heap.size, 0, none⟩ = some (.bool p) ∧ W.cell? ⟨w.heap.size, 1, none⟩ = some (.slice a xs.length cap)) (go_keep) (first | (go_at_call 7; refine (toBig_any _ _ xs _ (hx0.keep hW).drew).mono ?_; rintro e uf ⟨a9, c9, rfl, o9, hB⟩; have hW1 := hW.drew.trans (hB.mono hW.size); have bA1 := bA.drew.keep hB; have bS1 := bS.drew.keep hB; have bX1 := bX.drew.keep hB; have bG1 := bG.drew.keep hB; have oS1 := oS.drew.keep hB; have oX1 := oX.drew.keep hB; have oG1 := oG.drew.keep hB; have hzz1 := hB.size; obtain ⟨-, g0, g1⟩ := id bX1; obtain ⟨-, g2, g3⟩ := id bA1) | (go_at_call 9; refine (eqBig_same _ _ _ xs _ oX1.rd o9.rd).mono ?_; rintro e ug ⟨rfl, hB⟩; have hW2 := hW1.trans (hB.mono hW1.size); have bA2 := bA1.keep hB; have bS2 := bS1.keep hB; have bX2 := bX1.keep hB; have bG2 := bG1.keep hB; have oS2 := oS1.keep hB; have oX2 := oX1.keep hB; have oG2 := oG1.keep hB; have hzz2 := hB.size; obtain ⟨-, i0, i1⟩ := id bX2; obtain ⟨-, i2, i3⟩ := id bA2))
    clear g0 g1 g2 g3 i0 i1 i2 i3 o9
    clear bAp bAq bSp bSq bXp bXq bGp bGq
    clear hW hW1 hWo
    have hW := hW2
    clear hW2
    clear bA bA1 bAo
    have bA := bA2
    clear bA2
    clear bS bS1 bSo
    have bS := bS2
    clear bS2
    clear bX bX1 bXo
    have bX := bX2
    clear bX2
    clear bG bG1 bGo
    have bG := bG2
    clear bG2
    clear oS oS1 oSo
    have oS := oS2
    clear oS2
    clear oX oX1 oXo
    have oX := oX2
    clear oX2
    clear oG oG1 oGo
    have oG := oG2
    clear oG2
    have hz7 : ue.heap.size ≤ ug.heap.size := by have h1 := hzz1; have h2 := hzz2; (try simp at h1); omega
    clear hzz1 hzz2
    obtain ⟨-, bAp, bAq⟩ := id bA
    obtain ⟨-, bSp, bSq⟩ := id bS
    obtain ⟨-, bXp, bXq⟩ := id bX
    obtain ⟨-, bGp, bGq⟩ := id bG
    go_wp2_with fail
    clear bAp bAq bSp bSq bXp bXq bGp bGq
    refine (markBig2_any _ _ _ _ _ xs 1 _ oX (by (try simp only [World.size_alloc]); omega) (by omega) (by omega)).mono ?_
    rintro e uh ⟨rfl, oX', hg⟩
    replace hW := hW.trans (gb_to hg (fun k hk => by have := loX k hk; omega) hW.size)
    replace bA := bA.but hg (bx_ne loX (by omega))
    replace bS := bS.but hg (bx_ne loX (by omega))
    replace bX := bX.but hg (bx_ne loX (by omega))
    replace bG := bG.but hg (bx_ne loX (by omega))
    replace oS := oS.but hg (ob_ne loS loX (by omega))
    replace oG := oG.but hg (ob_ne loG loX (by omega))
    have hz8 : ug.heap.size ≤ uh.heap.size := by have := hg.size; (try simp at this); omega
    clear oX hg
    have oX := oX'
    clear oX'
    have hkn : (0 : Int) ≤ 1 + (xs.length : Int) := by omega
    obtain ⟨-, bAp, bAq⟩ := id bA
    obtain ⟨-, bSp, bSq⟩ := id bS
    obtain ⟨-, bXp, bXq⟩ := id bX
    obtain ⟨-, bGp, bGq⟩ := id bG
    go_wp2_with fail
    clear bAp bAq bSp bSq bXp bXq bGp bGq
    refine (eqBig_same _ _ _ L _ oG.rd oS.rd).mono ?_
    rintro e ui ⟨rfl, hB⟩
    replace hW := hW.trans (hB.mono hW.size)
    replace bA := bA.keep hB
    replace bS := bS.keep hB
    replace bX := bX.keep hB
    replace bG := bG.keep hB
    replace oS := oS.keep hB
    replace oX := oX.keep hB
    replace oG := oG.keep hB
    have hz9 : uh.heap.size ≤ ui.heap.size := by have := hB.size; (try simp at this); omega
    clear hB
    obtain ⟨-, bAp, bAq⟩ := id bA
    obtain ⟨-, bSp, bSq⟩ := id bS
    obtain ⟨-, bXp, bXq⟩ := id bX
    obtain ⟨-, bGp, bGq⟩ := id bG
    go_wp2_with fail
    clear bAp bAq bSp bSq bXp bXq bGp bGq
    refine (markBig2_any _ _ _ _ _ L 1 _ oG (by (try simp only [World.size_alloc]); omega) (by omega) (by omega)).mono ?_
    rintro e uj ⟨rfl, oG', hg⟩
    replace hW := hW.trans (gb_to hg (fun k hk => by have := loG k hk; omega) hW.size)
    replace bA := bA.but hg (bx_ne loG (by omega))
    replace bS := bS.but hg (bx_ne loG (by omega))
    replace bX := bX.but hg (bx_ne loG (by omega))
    replace bG := bG.but hg (bx_ne loG (by omega))
    replace oS := oS.but hg (ob_ne loS loG (by omega))
    replace oX := oX.but hg (ob_ne loX loG (by omega))
    have hz10 : ui.heap.size ≤ uj.heap.size := by have := hg.size; (try simp at this); omega
    clear oG hg
    have oG := oG'
    clear oG'
    obtain ⟨-, bAp, bAq⟩ := id bA
    obtain ⟨-, bSp, bSq⟩ := id bS
    obtain ⟨-, bXp, bXq⟩ := id bX
    obtain ⟨-, bGp, bGq⟩ := id bG
    go_wp2_with fail
    clear bAp bAq bSp bSq bXp bXq bGp bGq
    refine (heldBig_any _ _ _ 1 L.length _ oG.rd (by omega) (by omega) rfl).mono ?_
    rintro e uk ⟨rfl, hB⟩
    replace hW := hW.trans (hB.mono hW.size)
    replace bA := bA.keep hB
    replace bS := bS.keep hB
    replace bX := bX.keep hB
    replace bG := bG.keep hB
    replace oS := oS.keep hB
    replace oX := oX.keep hB
    replace oG := oG.keep hB
    have hz11 : uj.heap.size ≤ uk.heap.size := by have := hB.size; (try simp at this); omega
    clear hB
    clear bX oX
    obtain ⟨-, bAp, bAq⟩ := id bA
    obtain ⟨-, bSp, bSq⟩ := id bS
    obtain ⟨-, bGp, bGq⟩ := id bG
    go_wp2_with fail
    clear bAp bAq bSp bSq bGp bGq
    refine (toBig_any _ _ xs _ (hx0.keep hW)).mono ?_
    rintro e ul ⟨aT, cT, rfl, oT, hB⟩
    replace hW := hW.trans (hB.mono hW.size)
    replace bA := bA.keep hB
    replace bS := bS.keep hB
    replace bG := bG.keep hB
    replace oS := oS.keep hB
    replace oG := oG.keep hB
    have hz12 : uk.heap.size ≤ ul.heap.size := by have := hB.size; (try simp at this); omega
    clear hB
    have loT := oT.lt
    try simp only [World.size_alloc] at loT
    obtain ⟨-, bAp, bAq⟩ := id bA
    obtain ⟨-, bSp, bSq⟩ := id bS
    obtain ⟨-, bGp, bGq⟩ := id bG
    go_wp2_with fail
    clear bAp bAq bSp bSq bGp bGq
    refine (hG _ _ oT.rd).mono ?_
    rintro e um ⟨aH, cH, rfl, oH, hB⟩
    replace hW := hW.trans (hB.mono hW.size)
    replace bA := bA.keep hB
    replace bS := bS.keep hB
    replace bG := bG.keep hB
    replace oS := oS.keep hB
    replace oG := oG.keep hB
    replace oT := oT.keep hB
    have hz13 : ul.heap.size ≤ um.heap.size := by have := hB.size; (try simp at this); omega
    clear hB
    have loH := oH.lt
    try simp only [World.size_alloc] at loH
    clear oT loT
    replace hW := hW.alloc hW.size (Obj.cells #[.bool s, .slice aH L.length cH] 26)
    replace bA := bA.alloc (Obj.cells #[.bool s, .slice aH L.length cH] 26)
    replace bS := bS.alloc (Obj.cells #[.bool s, .slice aH L.length cH] 26)
    replace bG := bG.alloc (Obj.cells #[.bool s, .slice aH L.length cH] 26)
    replace oS := oS.alloc (Obj.cells #[.bool s, .slice aH L.length cH] 26)
    replace oG := oG.alloc (Obj.cells #[.bool s, .slice aH L.length cH] 26)
    replace oH := oH.alloc (Obj.cells #[.bool s, .slice aH L.length cH] 26)
    have bH := Box.new um (.bool s) (.slice aH L.length cH) 26
    obtain ⟨-, bAp, bAq⟩ := id bA
    obtain ⟨-, bSp, bSq⟩ := id bS
    obtain ⟨-, bGp, bGq⟩ := id bG
    obtain ⟨-, bHp, bHq⟩ := id bH
    go_wp2_with fail
    clear bAp bAq bSp bSq bGp bGq bHp bHq
    refine (eqBig_same _ _ _ L _ oH.rd oS.rd).mono ?_
    rintro e un ⟨rfl, hB⟩
    replace hW := hW.trans (hB.mono hW.size)
    replace bA := bA.keep hB
    replace bS := bS.keep hB
    replace bG := bG.keep hB
    replace bH := bH.keep hB
    replace oS := oS.keep hB
    replace oG := oG.keep hB
    replace oH := oH.keep hB
    have hz14 : um.heap.size + 1 ≤ un.heap.size := by have := hB.size; (try simp at this); omega
    clear hB
    obtain ⟨-, bAp, bAq⟩ := id bA
    obtain ⟨-, bSp, bSq⟩ := id bS
    obtain ⟨-, bGp, bGq⟩ := id bG
    obtain ⟨-, bHp, bHq⟩ := id bH
    go_wp2_with fail
    clear bAp bAq bSp bSq bGp bGq bHp bHq
    refine (heldBig_any _ _ _ 1 L.length _ oG.rd (by omega) (by omega) rfl).mono ?_
    rintro e uo ⟨rfl, hB⟩
    replace hW := hW.trans (hB.mono hW.size)
    replace bA := bA.keep hB
    replace bS := bS.keep hB
    replace bG := bG.keep hB
    replace bH := bH.keep hB
    replace oS := oS.keep hB
    replace oG := oG.keep hB
    replace oH := oH.keep hB
    have hz15 : un.heap.size ≤ uo.heap.size := by have := hB.size; (try simp at this); omega
    clear hB
    go_wp2
    go_ret
    exact ⟨rfl, hW⟩
end Go.Proofs.Ytipoafmabiahoaa
