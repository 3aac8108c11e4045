import Derived.Test.YtahcpgldpbejiaaGreatDoorFbI
import Derived.Deep.RegionHeld3
namespace Go.Proofs.YtahcpgldpbejiaaGreatDoor
open Go.RowKit Go.Lib Go.Shelf
set_option linter.unusedVariables false
set_option linter.unusedSimpArgs false

set_option maxHeartbeats 1000000 in
set_option maxRecDepth 100000 in
theorem formatBig_any (sp : ByteArray) (p : Bool) (u : Value) (xs : List Int) (w : World) (hsp : sp.size ≤ 16777216) (hx : Z.Rd w u xs) (hT : Tabs w) (aA aZ aL : Addr) (hE : Errs w aA aZ aL) (hEf : ErrF w) :
    Calls Tryz.prog 11 #[.string sp, .agg #[.bool p, u]] w fun e w' => e = .returned (fbS sp p xs) ∧ Below w.heap.size w w' := by
  have hx' := hx
  obtain ⟨a, cap, rfl, _, hzx, hnx, hcx⟩ := hx
  clear hcx hnx
  have bA := Z.Box.new w (.bool p) (.slice a xs.length cap) 30
  have rx := hx'.alloc (Obj.cells #[.bool p, .slice a xs.length cap] 30)
  have hW := (Below.refl w.heap.size w).alloc (Nat.le_refl _) (Obj.cells #[.bool p, .slice a xs.length cap] 30)
  have hF := fun W h1 h2 h3 h4 => formattedBig_any sp p (.slice a xs.length cap) xs W hsp h1 h2 aA aZ aL h3 h4
  go_enter Tryz.func11, Tryz.ntmps11
  go_upto_region 1 with fail
  generalize w.alloc _ = W0 at *
  obtain ⟨-, k0, k1⟩ := id bA
  go_wp2_with fail
  refine (hF W0 rx (hT.below hW) (hE.below hW) (hEf.below hW)).mono ?_
  rintro e w1 ⟨X, er, code, rfl, hI, hR, hX, hB1⟩
  clear hF k0 k1
  have hR' : Hid (fbS sp p xs = .tuple #[.string X, .int .i64 code]) := hR
  clear hR
  have hW1 := hW.trans (hB1.mono hW.size)
  have hD := codeOf_any aA aZ aL er code w1 (hE.below hW1) hI
  go_wp2_with fail
  refine hD.mono ?_
  rintro e w3 ⟨rfl, hB3⟩
  clear hD
  go_wp2
  refine bodyPost_ret (v := .tuple #[.string X, .int .i64 code]) (by simp [results, Tryz.results11, go_sem, Act.put]) rfl ?_
  exact ⟨congrArg Ending.returned (show _ = fbS sp p xs from Eq.symm hR'), hW1.trans (hB3.mono hW1.size)⟩
end Go.Proofs.YtahcpgldpbejiaaGreatDoor

namespace Go.Proofs.YtahcpgldpbejiaaGreatDoor
open Go.RowKit Go.Lib Go.Shelf
set_option linter.unusedVariables false
set_option linter.unusedSimpArgs false

set_option maxHeartbeats 4000000 in
set_option maxRecDepth 100000 in
theorem law_formatbig (sp : ByteArray) (p : Bool) (a : Option Addr) (cap : Nat) (xs : List Int) (w : World) (hrx : xs.length ≤ 1048576 → Z.Rd w (.slice a xs.length cap) xs) (hlx : xs.length ≤ 9223372036854775807) (hT : Tabs w) (hEx : ∃ aA aZ aL, Errs w aA aZ aL) (hEf : ErrF w) :
    Calls Tryz.prog 4 #[.string sp, .agg #[.bool p, .slice a xs.length cap]] w fun e w' => e = .returned (.bool true) ∧ Below w.heap.size w w' := by
  have hW := (Below.refl w.heap.size w).alloc (Nat.le_refl _) (Obj.cells #[.bool p, .slice a xs.length cap] 27)
  have bA := Z.Box.new w (.bool p) (.slice a xs.length cap) 27
  obtain ⟨aA, aZ, aL, hE⟩ := hEx
  by_cases hb1 : (1048576 : Int) < (sp.size : Int)
  · go_enter Tryz.func4, Tryz.ntmps4
    go_wp2
    go_ret
    exact ⟨rfl, hW⟩
  by_cases hbig : (1048576 : Int) < xs.length
  · go_enter Tryz.func4, Tryz.ntmps4
    go_wp2_with fail
    refine (Z.szBig_any _ _ _ _ _ _ hlx (by omega) (by omega)).mono ?_
    rw [if_pos hbig]
    rintro e w1 ⟨rfl, hB⟩
    go_wp2
    go_ret
    exact ⟨rfl, hW.trans (hB.mono hW.size)⟩
  · have hx0 : Z.Rd w (.slice a xs.length cap) xs := hrx (by omega)
    have hS := fun W v h => formatBigS_any sp p v xs W (by omega) h
    have hG := fun W v h h1 h2 h3 => formatBig_any sp p v xs W (by omega) h h1 aA aZ aL h2 h3
    obtain ⟨X, c, hX⟩ := fbS_ex sp p xs
    rw [hX] at hS hG
    clear hrx hX
    go_enter Tryz.func4, Tryz.ntmps4
    go_wp2_with fail
    refine (Z.szBig_any _ _ _ _ _ _ hlx (by omega) (by omega)).mono ?_
    rw [if_neg (by omega)]
    rintro e w1 ⟨rfl, hB⟩
    replace hW := hW.trans (hB.mono hW.size)
    replace bA := bA.keep hB
    clear hB
    have hs0 := bA.1
    obtain ⟨-, bAp, bAq⟩ := id bA
    go_wp2_with fail
    clear bAp bAq
    refine (Z.toBig_any _ _ xs _ (hx0.keep hW)).mono ?_
    rintro e ua ⟨aV, cV, rfl, oV, hB⟩
    replace hW := hW.trans (hB.mono hW.size)
    replace bA := bA.keep hB
    have hz1 : w1.heap.size ≤ ua.heap.size := by have := hB.size; (try simp at this); omega
    clear hB
    have loV := oV.lt
    try simp only [World.size_alloc] at loV
    obtain ⟨-, bAp, bAq⟩ := id bA
    go_wp2_with fail
    clear bAp bAq
    refine (hS _ _ oV.rd).mono ?_
    rintro e ub ⟨rfl, hB⟩
    replace hW := hW.trans (hB.mono hW.size)
    replace bA := bA.keep hB
    replace oV := oV.keep hB
    have hz2 : ua.heap.size ≤ ub.heap.size := by have := hB.size; (try simp at this); omega
    clear hB
    clear oV loV
    obtain ⟨-, bAp, bAq⟩ := id bA
    go_wp2_with fail
    clear bAp bAq
    refine (Z.toBig_any _ _ xs _ (hx0.keep hW)).mono ?_
    rintro e uc ⟨aX, cX, rfl, oX, hB⟩
    replace hW := hW.trans (hB.mono hW.size)
    replace bA := bA.keep hB
    have hz3 : ub.heap.size ≤ uc.heap.size := by have := hB.size; (try simp at this); omega
    clear hB
    have loX := oX.lt
    try simp only [World.size_alloc] at loX
    replace hW := hW.alloc hW.size (Obj.cells #[.bool p, .slice aX xs.length cX] 30)
    replace bA := bA.alloc (Obj.cells #[.bool p, .slice aX xs.length cX] 30)
    replace oX := oX.alloc (Obj.cells #[.bool p, .slice aX xs.length cX] 30)
    have bX := Z.Box.new uc (.bool p) (.slice aX xs.length cX) 30
    obtain ⟨-, bAp, bAq⟩ := id bA
    obtain ⟨-, bXp, bXq⟩ := id bX
    go_wp2_with fail
    clear bAp bAq bXp bXq
    refine (hG _ _ oX.rd (hT.below hW) (hE.below hW) (hEf.below hW)).mono ?_
    rintro e ud ⟨rfl, hB⟩
    replace hW := hW.trans (hB.mono hW.size)
    replace bA := bA.keep hB
    replace bX := bX.keep hB
    replace oX := oX.keep hB
    have hz4 : uc.heap.size + 1 ≤ ud.heap.size := by have := hB.size; (try simp at this); omega
    clear hB
    obtain ⟨-, bAp, bAq⟩ := id bA
    obtain ⟨-, bXp, bXq⟩ := id bX
    have hWo := hW
    have bAo := bA
    have bXo := bX
    have oXo := oX
    go_wp2_with fail
    go_region_held3 (fun W => W.cell? ⟨uc.heap.size, 0, none⟩ = some (.bool p) ∧ W.cell? ⟨uc.heap.size, 1, none⟩ = some (.slice aX xs.length cX) ∧ W.cell? ⟨w.heap.size, 0, none⟩ = some (.bool p) ∧ W.cell? ⟨w.heap.size, 1, none⟩ = some (.slice a xs.length cap)) (go_keep) (first | (go_at_call 10; refine (Z.toBig_any _ _ xs _ (hx0.keep hW).drew).mono ?_; rintro e ue ⟨a9, c9, rfl, o9, hB⟩; have hW1 := hW.drew.trans (hB.mono hW.size); have bA1 := bA.drew.keep hB; have bX1 := bX.drew.keep hB; have oX1 := oX.drew.keep hB; have hzz1 := hB.size; obtain ⟨-, g0, g1⟩ := id bX1; obtain ⟨-, g2, g3⟩ := id bA1) | (go_at_call 12; refine (Z.eqBig_same _ _ _ xs _ oX1.rd o9.rd).mono ?_; rintro e uf ⟨rfl, hB⟩; have hW2 := hW1.trans (hB.mono hW1.size); have bA2 := bA1.keep hB; have bX2 := bX1.keep hB; have oX2 := oX1.keep hB; have hzz2 := hB.size; obtain ⟨-, i0, i1⟩ := id bX2; obtain ⟨-, i2, i3⟩ := id bA2))
    clear g0 g1 g2 g3 i0 i1 i2 i3 o9
    clear bAp bAq bXp bXq
    clear hW hW1 hWo
    have hW := hW2
    clear hW2
    clear bA bA1 bAo
    have bA := bA2
    clear bA2
    clear bX bX1 bXo
    have bX := bX2
    clear bX2
    clear oX oX1 oXo
    have oX := oX2
    clear oX2
    have hz6 : ud.heap.size ≤ uf.heap.size := by have h1 := hzz1; have h2 := hzz2; (try simp at h1); omega
    clear hzz1 hzz2
    go_wp2
    go_ret
    exact ⟨rfl, hW⟩
end Go.Proofs.YtahcpgldpbejiaaGreatDoor
