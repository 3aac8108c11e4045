import Derived.Test.YtkjbbmmidjeecaaDoorTxtK
import Derived.Test.YtkjbbmmidjeecaaDoorCut
import Derived.Deep.RegionHeld3
namespace Go.Proofs.YtkjbbmmidjeecaaDoor
open Go.RowKit
set_option linter.unusedVariables false
set_option linter.unusedSimpArgs false

set_option maxHeartbeats 4000000 in
set_option maxRecDepth 100000 in
theorem law_bigtext (p : Bool) (a : Option Addr) (cap : Nat) (xs : List Int) (n : Int) (w : World) (hrx : xs.length ≤ 1048576 → Rd w (.slice a xs.length cap) xs) (hlx : xs.length ≤ 9223372036854775807) (hn0 : -9223372036854775808 ≤ n) (hn1 : n ≤ 9223372036854775807) :
    Calls Tryd.prog 5 #[.agg #[.bool p, .slice a xs.length cap], .int .i64 n] w fun e w' => e = .returned (.bool true) ∧ Below w.heap.size w w' := by
  have hW := (Below.refl w.heap.size w).alloc (Nat.le_refl _) (Obj.cells #[.bool p, .slice a xs.length cap] 31)
  have bA := Box.new w (.bool p) (.slice a xs.length cap) 31
  by_cases hbig : (1048576 : Int) < xs.length
  · go_enter Tryd.func5, Tryd.ntmps5
    go_wp2_with fail
    refine (szBig_any _ _ _ _ _ _ hlx (by omega) (by omega)).mono ?_
    rw [if_pos hbig]
    rintro e w1 ⟨rfl, hB⟩
    go_wp2
    go_ret
    exact ⟨rfl, hW.trans (hB.mono hW.size)⟩
  · have hx0 : Rd w (.slice a xs.length cap) xs := hrx (by omega)
    have hS := fun W v h => bigTextS_any p v xs n W h hn0 hn1
    have hG := fun W v h => bigText_any p v xs n W h hn0 hn1
    obtain ⟨R, hR⟩ : ∃ R : ByteArray, (⟨(btA p xs n).toArray⟩ : ByteArray) = R := ⟨_, rfl⟩
    rw [hR] at hS hG
    clear hrx hn0 hn1 hR
    go_enter Tryd.func5, Tryd.ntmps5
    go_wp2_with fail
    refine (szBig_any _ _ _ _ _ _ hlx (by omega) (by omega)).mono ?_
    rw [if_neg (by omega)]
    rintro e w1 ⟨rfl, hB⟩
    replace hW := hW.trans (hB.mono hW.size)
    replace bA := bA.keep hB
    clear hB
    have hs0 := bA.1
    obtain ⟨-, bAp, bAq⟩ := id bA
    go_wp2_with fail
    clear bAp bAq
    refine (toBig_any _ _ xs _ (hx0.keep hW)).mono ?_
    rintro e ua ⟨aV, cV, rfl, oV, hB⟩
    replace hW := hW.trans (hB.mono hW.size)
    replace bA := bA.keep hB
    have hz1 : w1.heap.size ≤ ua.heap.size := by have := hB.size; (try simp at this); omega
    clear hB
    have loV := oV.lt
    try simp only [World.size_alloc] at loV
    obtain ⟨-, bAp, bAq⟩ := id bA
    go_wp2_with fail
    clear bAp bAq
    refine (hS _ _ oV.rd).mono ?_
    rintro e ub ⟨rfl, hB⟩
    replace hW := hW.trans (hB.mono hW.size)
    replace bA := bA.keep hB
    replace oV := oV.keep hB
    have hz2 : ua.heap.size ≤ ub.heap.size := by have := hB.size; (try simp at this); omega
    clear hB
    clear oV loV
    obtain ⟨-, bAp, bAq⟩ := id bA
    go_wp2_with fail
    clear bAp bAq
    refine (toBig_any _ _ xs _ (hx0.keep hW)).mono ?_
    rintro e uc ⟨aX, cX, rfl, oX, hB⟩
    replace hW := hW.trans (hB.mono hW.size)
    replace bA := bA.keep hB
    have hz3 : ub.heap.size ≤ uc.heap.size := by have := hB.size; (try simp at this); omega
    clear hB
    have loX := oX.lt
    try simp only [World.size_alloc] at loX
    replace hW := hW.alloc hW.size (Obj.cells #[.bool p, .slice aX xs.length cX] 25)
    replace bA := bA.alloc (Obj.cells #[.bool p, .slice aX xs.length cX] 25)
    replace oX := oX.alloc (Obj.cells #[.bool p, .slice aX xs.length cX] 25)
    have bX := Box.new uc (.bool p) (.slice aX xs.length cX) 25
    obtain ⟨-, bAp, bAq⟩ := id bA
    obtain ⟨-, bXp, bXq⟩ := id bX
    go_wp2_with fail
    clear bAp bAq bXp bXq
    refine (hG _ _ oX.rd).mono ?_
    rintro e ud ⟨rfl, hB⟩
    replace hW := hW.trans (hB.mono hW.size)
    replace bA := bA.keep hB
    replace bX := bX.keep hB
    replace oX := oX.keep hB
    have hz4 : uc.heap.size + 1 ≤ ud.heap.size := by have := hB.size; (try simp at this); omega
    clear hB
    obtain ⟨-, bAp, bAq⟩ := id bA
    obtain ⟨-, bXp, bXq⟩ := id bX
    have hWo := hW
    have bAo := bA
    have bXo := bX
    have oXo := oX
    go_wp2_with fail
    go_region_held3 (fun W => W.cell? ⟨uc.heap.size, 0, none⟩ = some (.bool p) ∧ W.cell? ⟨uc.heap.size, 1, none⟩ = some (.slice aX xs.length cX) ∧ W.cell? ⟨w.heap.size, 0, none⟩ = some (.bool p) ∧ W.cell? ⟨w.heap.size, 1, none⟩ = some (.slice a xs.length cap)) (go_keep) (first | (go_at_call 16; refine (toBig_any _ _ xs _ (hx0.keep hW).drew).mono ?_; rintro e ue ⟨a9, c9, rfl, o9, hB⟩; have hW1 := hW.drew.trans (hB.mono hW.size); have bA1 := bA.drew.keep hB; have bX1 := bX.drew.keep hB; have oX1 := oX.drew.keep hB; have hzz1 := hB.size; obtain ⟨-, g0, g1⟩ := id bX1; obtain ⟨-, g2, g3⟩ := id bA1) | (go_at_call 11; refine (eqBig_same _ _ _ xs _ oX1.rd o9.rd).mono ?_; rintro e uf ⟨rfl, hB⟩; have hW2 := hW1.trans (hB.mono hW1.size); have bA2 := bA1.keep hB; have bX2 := bX1.keep hB; have oX2 := oX1.keep hB; have hzz2 := hB.size; obtain ⟨-, i0, i1⟩ := id bX2; obtain ⟨-, i2, i3⟩ := id bA2))
    clear g0 g1 g2 g3 i0 i1 i2 i3 o9
    clear bAp bAq bXp bXq
    clear hW hW1 hWo
    have hW := hW2
    clear hW2
    clear bA bA1 bAo
    have bA := bA2
    clear bA2
    clear bX bX1 bXo
    have bX := bX2
    clear bX2
    clear oX oX1 oXo
    have oX := oX2
    clear oX2
    have hz6 : ud.heap.size ≤ uf.heap.size := by have h1 := hzz1; have h2 := hzz2; (try simp at h1); omega
    clear hzz1 hzz2
    go_wp2
    go_ret
    exact ⟨rfl, hW⟩
end Go.Proofs.YtkjbbmmidjeecaaDoor
