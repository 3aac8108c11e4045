import Derived.Test.YtcbgjgclhlmeaaaBitA
import Derived.Test.YtcbgjgclhlmeaaaCut
import Derived.Deep.RegionHeld3
import Derived.Deep.CutRange
namespace Go.Proofs.Ytcbgjgclhlmeaaa
open Go.RowKit
set_option linter.unusedVariables false
set_option linter.unusedSimpArgs false

set_option maxHeartbeats 4000000 in
set_option maxRecDepth 100000 in
theorem law_bit (op : Int) (p : Bool) (a : Option Addr) (cap : Nat) (xs : List Int) (q : Bool) (a' : Option Addr) (cap' : Nat) (ys : List Int) (w : World) (hop0 : -9223372036854775808 ≤ op) (hop1 : op ≤ 9223372036854775807) (hrx : xs.length ≤ 1048576 → Rd w (.slice a xs.length cap) xs) (hlx : xs.length ≤ 9223372036854775807) (hry : ys.length ≤ 1048576 → Rd w (.slice a' ys.length cap') ys) (hly : ys.length ≤ 9223372036854775807) :
    Calls Try.prog 4 #[.int .i64 op, .agg #[.bool p, .slice a xs.length cap], .agg #[.bool q, .slice a' ys.length cap']] w fun e w' => e = .returned (.bool true) ∧ Below w.heap.size w w' := by
  have hW := ((Below.refl w.heap.size w).alloc (Nat.le_refl _) (Obj.cells #[.bool p, .slice a xs.length cap] 24)).alloc (by simp) (Obj.cells #[.bool q, .slice a' ys.length cap'] 24)
  have bA := (Box.new w (.bool p) (.slice a xs.length cap) 24).alloc (Obj.cells #[.bool q, .slice a' ys.length cap'] 24)
  have bB := Box.new (w.alloc (Obj.cells #[.bool p, .slice a xs.length cap] 24)) (.bool q) (.slice a' ys.length cap') 24
  simp only [World.size_alloc] at bB
  by_cases hbig : (1048576 : Int) < xs.length
  · go_enter Try.func4, Try.ntmps4
    go_wp2_with fail
    refine (szBig_any _ _ _ _ _ _ hlx (by omega) (by omega)).mono ?_
    rw [if_pos hbig]
    rintro e w1 ⟨rfl, hB⟩
    go_wp2
    go_ret
    exact ⟨rfl, hW.trans (hB.mono hW.size)⟩
  · by_cases hbig2 : (1048576 : Int) - xs.length < ys.length
    · go_enter Try.func4, Try.ntmps4
      go_wp2_with fail
      refine (szBig_any _ _ _ _ _ _ hlx (by omega) (by omega)).mono ?_
      rw [if_neg (by omega)]
      rintro e w1 ⟨rfl, hB⟩
      replace hW := hW.trans (hB.mono hW.size)
      replace bB := bB.keep hB
      obtain ⟨-, k2, k3⟩ := id bB
      go_wp2_with fail
      refine (szBig_any _ _ _ _ _ _ hly (by omega) (by omega)).mono ?_
      rw [if_pos hbig2]
      rintro e w2 ⟨rfl, hB⟩
      go_wp2
      go_ret
      exact ⟨rfl, hW.trans (hB.mono hW.size)⟩
    · have hx0 : Rd w (.slice a xs.length cap) xs := hrx (by omega)
      have hy0 : Rd w (.slice a' ys.length cap') ys := hry (by omega)
      have hsum : xs.length + ys.length ≤ 1048576 := by omega
      have hS := fun W v u h1 h2 => bigBitS_any op p q v u xs ys W h1 h2
      have hG := fun W v u h1 h2 => bigBit_any op p q v u xs ys W h1 h2
      generalize bbS op p q xs ys = s at hS hG
      generalize bbL op p q xs ys = L at hS hG
      generalize bbC op p q xs ys = C at hS hG
      clear hrx hry
      go_enter Try.func4, Try.ntmps4
      go_wp2_with fail
      refine (szBig_any _ _ _ _ _ _ hlx (by omega) (by omega)).mono ?_
      rw [if_neg (by omega)]
      rintro e w1 ⟨rfl, hB⟩
      replace hW := hW.trans (hB.mono hW.size)
      replace bA := bA.keep hB
      replace bB := bB.keep hB
      clear hB
      obtain ⟨-, k2, k3⟩ := id bB
      go_wp2_with fail
      refine (szBig_any _ _ _ _ _ _ hly (by omega) (by omega)).mono ?_
      rw [if_neg (by omega)]
      rintro e w2 ⟨rfl, hB⟩
      clear k2 k3
      replace hW := hW.trans (hB.mono hW.size)
      replace bA := bA.keep hB
      replace bB := bB.keep hB
      clear hB
      have hs0 := bB.1
      obtain ⟨hzap, k0, k1⟩ := id bA
      obtain ⟨hzbp, k2, k3⟩ := id bB
      have hxp := hx0.keep hW
      have hyp := hy0.keep hW
      have n1w2 : ¬ (w2.heap.size = w.heap.size) := (by omega)
      have n2w2 : ¬ (w2.heap.size = w.heap.size + 1) := (by omega)
      have n3w2 : ¬ (w.heap.size = w2.heap.size) := (by omega)
      have n4w2 : ¬ (w.heap.size + 1 = w2.heap.size) := (by omega)
      go_upto_region 8 with fail
      go_cut [8, 9] from 29 to 37 (fun s1 s2 wc => Cut1 w2 wc s L C s1 s2)
      case first =>
        go_region_held3 (fun W => W.cell? ⟨w.heap.size, 0, none⟩ = some (.bool p) ∧ W.cell? ⟨w.heap.size, 1, none⟩ = some (.slice a xs.length cap) ∧ W.cell? ⟨w.heap.size + 1, 0, none⟩ = some (.bool q) ∧ W.cell? ⟨w.heap.size + 1, 1, none⟩ = some (.slice a' ys.length cap')) (go_keep) (first | (go_at_call_of 8 (Value.agg #[Value.bool q, Value.slice a' ys.length cap']); have hq := oA; refine (toBig_any _ _ ys _ (hyp.keep hP3)).mono ?_; rintro e v4 ⟨a4, c4, rfl, oB, hB⟩; have hP4 := hP3.trans (hB.mono hP3.size); obtain ⟨hza4, z04, z14⟩ := bA.keep hP4; obtain ⟨hzb4, z24, z34⟩ := bB.keep hP4; have n1v4 : ¬ (v4.heap.size = w.heap.size) := (by omega); have n2v4 : ¬ (v4.heap.size = w.heap.size + 1) := (by omega); have n3v4 : ¬ (w.heap.size = v4.heap.size) := (by omega); have n4v4 : ¬ (w.heap.size + 1 = v4.heap.size) := (by omega); have oA4 := oA.keep hB; try (replace bD := bD.keep hB; replace fD := fD.keep hB; obtain ⟨hzd, d0, d1⟩ := id bD; obtain ⟨-, hfd⟩ := id fD)) | (go_at_call_of 8 (Value.agg #[Value.bool q, Value.slice a' ys.length cap']); have hq := oA; refine (toBig_any _ _ ys _ ((hyp.keep hP3).alloc (Obj.cells #[.bool false, .slice none 0 0] 26))).mono ?_; rintro e v4 ⟨a4, c4, rfl, oB, hB⟩; have hP4 := (hP3.alloc hP3.size (Obj.cells #[.bool false, .slice none 0 0] 26)).trans (hB.mono (by have := hP3.size; simp; omega)); obtain ⟨hza4, z04, z14⟩ := bA.keep hP4; obtain ⟨hzb4, z24, z34⟩ := bB.keep hP4; have n1v4 : ¬ (v4.heap.size = w.heap.size) := (by omega); have n2v4 : ¬ (v4.heap.size = w.heap.size + 1) := (by omega); have n3v4 : ¬ (w.heap.size = v4.heap.size) := (by omega); have n4v4 : ¬ (w.heap.size + 1 = v4.heap.size) := (by omega); have oA4 := (oA.alloc (Obj.cells #[.bool false, .slice none 0 0] 26)).keep hB; have bD := (Box.new v3 (.bool false) (.slice none 0 0) 26).keep hB; have fD := (Unf.new v3 #[.bool false, .slice none 0 0] 26).keep hB; obtain ⟨hzd, d0, d1⟩ := id bD; obtain ⟨-, hfd⟩ := id fD; have hbD := hP3.size) | (go_at_call_of 8 (Value.agg #[Value.bool p, Value.slice a xs.length cap]); refine (toBig_any _ _ xs _ hxp.drew).mono ?_; rintro e v3 ⟨a3, c3, rfl, oA, hB⟩; have hP3 := (Below.refl w2.heap.size w2).drew.trans hB; obtain ⟨hza3, z03, z13⟩ := bA.keep hP3; obtain ⟨hzb3, z23, z33⟩ := bB.keep hP3; have n1v3 : ¬ (v3.heap.size = w.heap.size) := (by omega); have n2v3 : ¬ (v3.heap.size = w.heap.size + 1) := (by omega); have n3v3 : ¬ (w.heap.size = v3.heap.size) := (by omega); have n4v3 : ¬ (w.heap.size + 1 = v3.heap.size) := (by omega)) | (go_at_call_of 8 (Value.agg #[Value.bool p, Value.slice a xs.length cap]); refine (toBig_any _ _ xs _ (hxp.alloc (Obj.cells #[.bool false, .slice none 0 0] 26)).drew).mono ?_; rintro e v3 ⟨a3, c3, rfl, oA, hB⟩; have hP3 := ((Below.refl w2.heap.size w2).alloc (Nat.le_refl _) (Obj.cells #[.bool false, .slice none 0 0] 26)).drew.trans (hB.mono (by simp)); obtain ⟨hza3, z03, z13⟩ := bA.keep hP3; obtain ⟨hzb3, z23, z33⟩ := bB.keep hP3; have n1v3 : ¬ (v3.heap.size = w.heap.size) := (by omega); have n2v3 : ¬ (v3.heap.size = w.heap.size + 1) := (by omega); have n3v3 : ¬ (w.heap.size = v3.heap.size) := (by omega); have n4v3 : ¬ (w.heap.size + 1 = v3.heap.size) := (by omega); have bD := (Box.new w2 (.bool false) (.slice none 0 0) 26).drew.keep hB; have fD := (Unf.new w2 #[.bool false, .slice none 0 0] 26).drew.keep hB; obtain ⟨hzd, d0, d1⟩ := id bD; obtain ⟨-, hfd⟩ := id fD; have hbD := Nat.le_refl w2.heap.size) | (go_at_call 13; refine (hS _ _ _ oA4.rd oB.rd).mono ?_; rintro e v5 ⟨a5, c5, rfl, oS, hB⟩; have hP5 := hP4.trans (hB.mono hP4.size); obtain ⟨hza5, z05, z15⟩ := bA.keep hP5; obtain ⟨hzb5, z25, z35⟩ := bB.keep hP5; have n1v5 : ¬ (v5.heap.size = w.heap.size) := (by omega); have n2v5 : ¬ (v5.heap.size = w.heap.size + 1) := (by omega); have n3v5 : ¬ (w.heap.size = v5.heap.size) := (by omega); have n4v5 : ¬ (w.heap.size + 1 = v5.heap.size) := (by omega); have hbase := hP4.size; (try have hlt := bD.1); try (replace bD := bD.keep hB; replace fD := fD.keep hB; obtain ⟨hzd, d0, d1⟩ := id bD; obtain ⟨-, hfd⟩ := id fD)) | (go_at_call 13; refine (hS _ _ _ (oA4.rd.alloc (Obj.cells #[.bool false, .slice none 0 0] 26)) (oB.rd.alloc (Obj.cells #[.bool false, .slice none 0 0] 26))).mono ?_; rintro e v5 ⟨a5, c5, rfl, oS, hB⟩; have hP5 := (hP4.alloc hP4.size (Obj.cells #[.bool false, .slice none 0 0] 26)).trans (hB.mono (by have := hP4.size; simp; omega)); obtain ⟨hza5, z05, z15⟩ := bA.keep hP5; obtain ⟨hzb5, z25, z35⟩ := bB.keep hP5; have n1v5 : ¬ (v5.heap.size = w.heap.size) := (by omega); have n2v5 : ¬ (v5.heap.size = w.heap.size + 1) := (by omega); have n3v5 : ¬ (w.heap.size = v5.heap.size) := (by omega); have n4v5 : ¬ (w.heap.size + 1 = v5.heap.size) := (by omega); have hbase : w2.heap.size ≤ (v4.alloc (Obj.cells #[.bool false, .slice none 0 0] 26)).heap.size := (by have := hP4.size; simp; omega); have hlt : v4.heap.size < (v4.alloc (Obj.cells #[.bool false, .slice none 0 0] 26)).heap.size := (by simp); have bD := (Box.new v4 (.bool false) (.slice none 0 0) 26).keep hB; have fD := (Unf.new v4 #[.bool false, .slice none 0 0] 26).keep hB; obtain ⟨hzd, d0, d1⟩ := id bD; obtain ⟨-, hfd⟩ := id fD; have hbD := hP4.size))
        all_goals go_wp2_with fail
        all_goals go_meet
        all_goals first | exact ⟨_, a5, c5, rfl, rfl, hP5.alloc hP5.size _, hP5.size, Box.new _ _ _ _, (oS.alloc _).mono hbase⟩ | exact ⟨_, a5, c5, rfl, rfl, (hP5.setCell hbD _).setCell hbD _, hbD, Box.set bD _ _, ((oS.setBelow hlt _).setBelow hlt _).mono hbase⟩
      case rest =>
      obtain ⟨b, aS, cS, rfl, rfl, hP, hbS, bS, oS⟩ := hcut
      clear k0 k1 k2 k3 hxp hyp n1w2 n2w2 n3w2 n4w2 hzap hzbp
      replace hW := hW.trans (hP.mono hW.size)
      replace bA := bA.keep hP
      replace bB := bB.keep hP
      have hzc := hP.size
      have hbS2 := bS.1
      clear hP
      have loS := oS.lt
      try simp only [World.size_alloc] at loS
      obtain ⟨-, bAp, bAq⟩ := id bA
      obtain ⟨-, bBp, bBq⟩ := id bB
      obtain ⟨-, bSp, bSq⟩ := id bS
      go_wp2_with fail
      clear bAp bAq bBp bBq bSp bSq
      refine (toBig_any _ _ xs _ (hx0.keep hW)).mono ?_
      rintro e ua ⟨aX, cX, rfl, oX, hB⟩
      replace hW := hW.trans (hB.mono hW.size)
      replace bA := bA.keep hB
      replace bB := bB.keep hB
      replace bS := bS.keep hB
      replace oS := oS.keep hB
      have hz1 : wc.heap.size ≤ ua.heap.size := by have := hB.size; (try simp at this); omega
      clear hB
      have loX := oX.lt
      try simp only [World.size_alloc] at loX
      replace hW := hW.alloc hW.size (Obj.cells #[.bool p, .slice aX xs.length cX] 26)
      replace bA := bA.alloc (Obj.cells #[.bool p, .slice aX xs.length cX] 26)
      replace bB := bB.alloc (Obj.cells #[.bool p, .slice aX xs.length cX] 26)
      replace bS := bS.alloc (Obj.cells #[.bool p, .slice aX xs.length cX] 26)
      replace oS := oS.alloc (Obj.cells #[.bool p, .slice aX xs.length cX] 26)
      replace oX := oX.alloc (Obj.cells #[.bool p, .slice aX xs.length cX] 26)
      have bX := Box.new ua (.bool p) (.slice aX xs.length cX) 26
      obtain ⟨-, bAp, bAq⟩ := id bA
      obtain ⟨-, bBp, bBq⟩ := id bB
      obtain ⟨-, bSp, bSq⟩ := id bS
      obtain ⟨-, bXp, bXq⟩ := id bX
      go_wp2_with fail
      clear bAp bAq bBp bBq bSp bSq bXp bXq
      refine (toBig_any _ _ ys _ (hy0.keep hW)).mono ?_
      rintro e ub ⟨aY, cY, rfl, oY, hB⟩
      replace hW := hW.trans (hB.mono hW.size)
      replace bA := bA.keep hB
      replace bB := bB.keep hB
      replace bS := bS.keep hB
      replace bX := bX.keep hB
      replace oS := oS.keep hB
      replace oX := oX.keep hB
      have hz2 : ua.heap.size + 1 ≤ ub.heap.size := by have := hB.size; (try simp at this); omega
      clear hB
      have loY := oY.lt
      try simp only [World.size_alloc] at loY
      replace hW := hW.alloc hW.size (Obj.cells #[.bool q, .slice aY ys.length cY] 26)
      replace bA := bA.alloc (Obj.cells #[.bool q, .slice aY ys.length cY] 26)
      replace bB := bB.alloc (Obj.cells #[.bool q, .slice aY ys.length cY] 26)
      replace bS := bS.alloc (Obj.cells #[.bool q, .slice aY ys.length cY] 26)
      replace bX := bX.alloc (Obj.cells #[.bool q, .slice aY ys.length cY] 26)
      replace oS := oS.alloc (Obj.cells #[.bool q, .slice aY ys.length cY] 26)
      replace oX := oX.alloc (Obj.cells #[.bool q, .slice aY ys.length cY] 26)
      replace oY := oY.alloc (Obj.cells #[.bool q, .slice aY ys.length cY] 26)
      have bY := Box.new ub (.bool q) (.slice aY ys.length cY) 26
      obtain ⟨-, bAp, bAq⟩ := id bA
      obtain ⟨-, bBp, bBq⟩ := id bB
      obtain ⟨-, bSp, bSq⟩ := id bS
      obtain ⟨-, bXp, bXq⟩ := id bX
      obtain ⟨-, bYp, bYq⟩ := id bY
      go_wp2_with fail
      clear bAp bAq bBp bBq bSp bSq bXp bXq bYp bYq
      refine (hG _ _ _ oX.rd oY.rd).mono ?_
      rintro e uc ⟨aG, cG, rfl, oG, hB⟩
      replace hW := hW.trans (hB.mono hW.size)
      replace bA := bA.keep hB
      replace bB := bB.keep hB
      replace bS := bS.keep hB
      replace bX := bX.keep hB
      replace bY := bY.keep hB
      replace oS := oS.keep hB
      replace oX := oX.keep hB
      replace oY := oY.keep hB
      have hz3 : ub.heap.size + 1 ≤ uc.heap.size := by have := hB.size; (try simp at this); omega
      clear hB
      have loG := oG.lt
      try simp only [World.size_alloc] at loG
      replace hW := hW.alloc hW.size (Obj.cells #[.bool s, .slice aG L.length cG] 26)
      replace bA := bA.alloc (Obj.cells #[.bool s, .slice aG L.length cG] 26)
      replace bB := bB.alloc (Obj.cells #[.bool s, .slice aG L.length cG] 26)
      replace bS := bS.alloc (Obj.cells #[.bool s, .slice aG L.length cG] 26)
      replace bX := bX.alloc (Obj.cells #[.bool s, .slice aG L.length cG] 26)
      replace bY := bY.alloc (Obj.cells #[.bool s, .slice aG L.length cG] 26)
      replace oS := oS.alloc (Obj.cells #[.bool s, .slice aG L.length cG] 26)
      replace oX := oX.alloc (Obj.cells #[.bool s, .slice aG L.length cG] 26)
      replace oY := oY.alloc (Obj.cells #[.bool s, .slice aG L.length cG] 26)
      replace oG := oG.alloc (Obj.cells #[.bool s, .slice aG L.length cG] 26)
      have bG := Box.new uc (.bool s) (.slice aG L.length cG) 26
      obtain ⟨-, bAp, bAq⟩ := id bA
      obtain ⟨-, bBp, bBq⟩ := id bB
      obtain ⟨-, bSp, bSq⟩ := id bS
      obtain ⟨-, bXp, bXq⟩ := id bX
      obtain ⟨-, bYp, bYq⟩ := id bY
      obtain ⟨-, bGp, bGq⟩ := id bG
      go_wp2_with fail
      clear bAp bAq bBp bBq bSp bSq bXp bXq bYp bYq bGp bGq
      refine (eqBig_same _ _ _ L _ oG.rd oS.rd).mono ?_
      rintro e ud ⟨rfl, hB⟩
      replace hW := hW.trans (hB.mono hW.size)
      replace bA := bA.keep hB
      replace bB := bB.keep hB
      replace bS := bS.keep hB
      replace bX := bX.keep hB
      replace bY := bY.keep hB
      replace bG := bG.keep hB
      replace oS := oS.keep hB
      replace oX := oX.keep hB
      replace oY := oY.keep hB
      replace oG := oG.keep hB
      have hz4 : uc.heap.size + 1 ≤ ud.heap.size := by have := hB.size; (try simp at this); omega
      clear hB
      obtain ⟨-, bAp, bAq⟩ := id bA
      obtain ⟨-, bBp, bBq⟩ := id bB
      obtain ⟨-, bSp, bSq⟩ := id bS
      obtain ⟨-, bXp, bXq⟩ := id bX
      obtain ⟨-, bYp, bYq⟩ := id bY
      obtain ⟨-, bGp, bGq⟩ := id bG
      have hWo := hW
      have bAo := bA
      have bBo := bB
      have bSo := bS
      have bXo := bX
      have bYo := bY
      have bGo := bG
      have oSo := oS
      have oXo := oX
      have oYo := oY
      have oGo := oG
      go_wp2_with fail
      go_region_held3 (fun W => W.cell? ⟨ua.heap.size, 0, none⟩ = some (.bool p) ∧ W.cell? ⟨ua.heap.size, 1, none⟩ = some (.slice aX xs.length cX) ∧ W.cell? ⟨w.heap.size, 0, none⟩ = some (.bool p) ∧ W.cell? ⟨w.heap.size, 1, none⟩ = some (.slice a xs.length cap)) (go_keep) (first | (go_at_call 8; refine (toBig_any _ _ xs _ (hx0.keep hW).drew).mono ?_; rintro e ue ⟨a9, c9, rfl, o9, hB⟩; have hW1 := hW.drew.trans (hB.mono hW.size); have bA1 := bA.drew.keep hB; have bB1 := bB.drew.keep hB; have bS1 := bS.drew.keep hB; have bX1 := bX.drew.keep hB; have bY1 := bY.drew.keep hB; have bG1 := bG.drew.keep hB; have oS1 := oS.drew.keep hB; have oX1 := oX.drew.keep hB; have oY1 := oY.drew.keep hB; have oG1 := oG.drew.keep hB; have hzz1 := hB.size; obtain ⟨-, g0, g1⟩ := id bX1; obtain ⟨-, g2, g3⟩ := id bA1) | (go_at_call 10; refine (eqBig_same _ _ _ xs _ oX1.rd o9.rd).mono ?_; rintro e uf ⟨rfl, hB⟩; have hW2 := hW1.trans (hB.mono hW1.size); have bA2 := bA1.keep hB; have bB2 := bB1.keep hB; have bS2 := bS1.keep hB; have bX2 := bX1.keep hB; have bY2 := bY1.keep hB; have bG2 := bG1.keep hB; have oS2 := oS1.keep hB; have oX2 := oX1.keep hB; have oY2 := oY1.keep hB; have oG2 := oG1.keep hB; have hzz2 := hB.size; obtain ⟨-, i0, i1⟩ := id bX2; obtain ⟨-, i2, i3⟩ := id bA2))
      clear g0 g1 g2 g3 i0 i1 i2 i3 o9
      clear bAp bAq bBp bBq bSp bSq bXp bXq bYp bYq bGp bGq
      clear hW hW1 hWo
      have hW := hW2
      clear hW2
      clear bA bA1 bAo
      have bA := bA2
      clear bA2
      clear bB bB1 bBo
      have bB := bB2
      clear bB2
      clear bS bS1 bSo
      have bS := bS2
      clear bS2
      clear bX bX1 bXo
      have bX := bX2
      clear bX2
      clear bY bY1 bYo
      have bY := bY2
      clear bY2
      clear bG bG1 bGo
      have bG := bG2
      clear bG2
      clear oS oS1 oSo
      have oS := oS2
      clear oS2
      clear oX oX1 oXo
      have oX := oX2
      clear oX2
      clear oY oY1 oYo
      have oY := oY2
      clear oY2
      clear oG oG1 oGo
      have oG := oG2
      clear oG2
      have hz6 : ud.heap.size ≤ uf.heap.size := by have h1 := hzz1; have h2 := hzz2; (try simp at h1); omega
      clear hzz1 hzz2
      obtain ⟨-, bAp, bAq⟩ := id bA
      obtain ⟨-, bBp, bBq⟩ := id bB
      obtain ⟨-, bSp, bSq⟩ := id bS
      obtain ⟨-, bXp, bXq⟩ := id bX
      obtain ⟨-, bYp, bYq⟩ := id bY
      obtain ⟨-, bGp, bGq⟩ := id bG
      have hWo := hW
      have bAo := bA
      have bBo := bB
      have bSo := bS
      have bXo := bX
      have bYo := bY
      have bGo := bG
      have oSo := oS
      have oXo := oX
      have oYo := oY
      have oGo := oG
      go_wp2_with fail
      go_region_held3 (fun W => W.cell? ⟨ub.heap.size, 0, none⟩ = some (.bool q) ∧ W.cell? ⟨ub.heap.size, 1, none⟩ = some (.slice aY ys.length cY) ∧ W.cell? ⟨w.heap.size + 1, 0, none⟩ = some (.bool q) ∧ W.cell? ⟨w.heap.size + 1, 1, none⟩ = some (.slice a' ys.length cap')) (go_keep) (first | (go_at_call 8; refine (toBig_any _ _ ys _ (hy0.keep hW).drew).mono ?_; rintro e ug ⟨a9, c9, rfl, o9, hB⟩; have hW1 := hW.drew.trans (hB.mono hW.size); have bA1 := bA.drew.keep hB; have bB1 := bB.drew.keep hB; have bS1 := bS.drew.keep hB; have bX1 := bX.drew.keep hB; have bY1 := bY.drew.keep hB; have bG1 := bG.drew.keep hB; have oS1 := oS.drew.keep hB; have oX1 := oX.drew.keep hB; have oY1 := oY.drew.keep hB; have oG1 := oG.drew.keep hB; have hzz1 := hB.size; obtain ⟨-, g0, g1⟩ := id bY1; obtain ⟨-, g2, g3⟩ := id bB1) | (go_at_call 10; refine (eqBig_same _ _ _ ys _ oY1.rd o9.rd).mono ?_; rintro e uh ⟨rfl, hB⟩; have hW2 := hW1.trans (hB.mono hW1.size); have bA2 := bA1.keep hB; have bB2 := bB1.keep hB; have bS2 := bS1.keep hB; have bX2 := bX1.keep hB; have bY2 := bY1.keep hB; have bG2 := bG1.keep hB; have oS2 := oS1.keep hB; have oX2 := oX1.keep hB; have oY2 := oY1.keep hB; have oG2 := oG1.keep hB; have hzz2 := hB.size; obtain ⟨-, i0, i1⟩ := id bY2; obtain ⟨-, i2, i3⟩ := id bB2))
      clear g0 g1 g2 g3 i0 i1 i2 i3 o9
      clear bAp bAq bBp bBq bSp bSq bXp bXq bYp bYq bGp bGq
      clear hW hW1 hWo
      have hW := hW2
      clear hW2
      clear bA bA1 bAo
      have bA := bA2
      clear bA2
      clear bB bB1 bBo
      have bB := bB2
      clear bB2
      clear bS bS1 bSo
      have bS := bS2
      clear bS2
      clear bX bX1 bXo
      have bX := bX2
      clear bX2
      clear bY bY1 bYo
      have bY := bY2
      clear bY2
      clear bG bG1 bGo
      have bG := bG2
      clear bG2
      clear oS oS1 oSo
      have oS := oS2
      clear oS2
      clear oX oX1 oXo
      have oX := oX2
      clear oX2
      clear oY oY1 oYo
      have oY := oY2
      clear oY2
      clear oG oG1 oGo
      have oG := oG2
      clear oG2
      have hz8 : uf.heap.size ≤ uh.heap.size := by have h1 := hzz1; have h2 := hzz2; (try simp at h1); omega
      clear hzz1 hzz2
      obtain ⟨-, bAp, bAq⟩ := id bA
      obtain ⟨-, bBp, bBq⟩ := id bB
      obtain ⟨-, bSp, bSq⟩ := id bS
      obtain ⟨-, bXp, bXq⟩ := id bX
      obtain ⟨-, bYp, bYq⟩ := id bY
      obtain ⟨-, bGp, bGq⟩ := id bG
      go_wp2_with fail
      clear bAp bAq bBp bBq bSp bSq bXp bXq bYp bYq bGp bGq
      refine (markBig2_any _ _ _ _ _ xs 1 _ oX (by omega) (by omega) (by omega)).mono ?_
      rintro e ui ⟨rfl, oX', hg⟩
      replace hW := hW.trans (gb_to hg (fun k hk => by have := loX k hk; omega) hW.size)
      replace bA := bA.but hg (bx_ne loX (by omega))
      replace bB := bB.but hg (bx_ne loX (by omega))
      replace bS := bS.but hg (bx_ne loX (by omega))
      replace bX := bX.but hg (bx_ne loX (by omega))
      replace bY := bY.but hg (bx_ne loX (by omega))
      replace bG := bG.but hg (bx_ne loX (by omega))
      replace oS := oS.but hg (ob_ne loS loX (by omega))
      replace oY := oY.but hg (ob_ne loY loX (by omega))
      replace oG := oG.but hg (ob_ne loG loX (by omega))
      have hz9 : uh.heap.size ≤ ui.heap.size := by have := hg.size; (try simp at this); omega
      clear oX hg
      have oX := oX'
      clear oX'
      obtain ⟨-, bAp, bAq⟩ := id bA
      obtain ⟨-, bBp, bBq⟩ := id bB
      obtain ⟨-, bSp, bSq⟩ := id bS
      obtain ⟨-, bXp, bXq⟩ := id bX
      obtain ⟨-, bYp, bYq⟩ := id bY
      obtain ⟨-, bGp, bGq⟩ := id bG
      go_wp2_with fail
      clear bAp bAq bBp bBq bSp bSq bXp bXq bYp bYq bGp bGq
      refine (markBig2_any _ _ _ _ _ ys (1 + (xs.length : Int)) _ oY (by (try simp only [World.size_alloc]); omega) (by omega) (by omega)).mono ?_
      rintro e uj ⟨rfl, oY', hg⟩
      replace hW := hW.trans (gb_to hg (fun k hk => by have := loY k hk; omega) hW.size)
      replace bA := bA.but hg (bx_ne loY (by omega))
      replace bB := bB.but hg (bx_ne loY (by omega))
      replace bS := bS.but hg (bx_ne loY (by omega))
      replace bX := bX.but hg (bx_ne loY (by omega))
      replace bY := bY.but hg (bx_ne loY (by omega))
      replace bG := bG.but hg (bx_ne loY (by omega))
      replace oS := oS.but hg (ob_ne loS loY (by omega))
      replace oX := oX.but hg (ob_ne loX loY (by omega))
      replace oG := oG.but hg (ob_ne loG loY (by omega))
      have hz10 : ui.heap.size ≤ uj.heap.size := by have := hg.size; (try simp at this); omega
      clear oY hg
      have oY := oY'
      clear oY'
      have hkn : (0 : Int) ≤ 1 + (xs.length : Int) + (ys.length : Int) := by omega
      obtain ⟨-, bAp, bAq⟩ := id bA
      obtain ⟨-, bBp, bBq⟩ := id bB
      obtain ⟨-, bSp, bSq⟩ := id bS
      obtain ⟨-, bXp, bXq⟩ := id bX
      obtain ⟨-, bYp, bYq⟩ := id bY
      obtain ⟨-, bGp, bGq⟩ := id bG
      go_wp2_with fail
      clear bAp bAq bBp bBq bSp bSq bXp bXq bYp bYq bGp bGq
      refine (eqBig_same _ _ _ L _ oG.rd oS.rd).mono ?_
      rintro e uk ⟨rfl, hB⟩
      replace hW := hW.trans (hB.mono hW.size)
      replace bA := bA.keep hB
      replace bB := bB.keep hB
      replace bS := bS.keep hB
      replace bX := bX.keep hB
      replace bY := bY.keep hB
      replace bG := bG.keep hB
      replace oS := oS.keep hB
      replace oX := oX.keep hB
      replace oY := oY.keep hB
      replace oG := oG.keep hB
      have hz11 : uj.heap.size ≤ uk.heap.size := by have := hB.size; (try simp at this); omega
      clear hB
      obtain ⟨-, bAp, bAq⟩ := id bA
      obtain ⟨-, bBp, bBq⟩ := id bB
      obtain ⟨-, bSp, bSq⟩ := id bS
      obtain ⟨-, bXp, bXq⟩ := id bX
      obtain ⟨-, bYp, bYq⟩ := id bY
      obtain ⟨-, bGp, bGq⟩ := id bG
      go_wp2_with fail
      clear bAp bAq bBp bBq bSp bSq bXp bXq bYp bYq bGp bGq
      refine (markBig2_any _ _ _ _ _ L 1 _ oG (by (try simp only [World.size_alloc]); omega) (by omega) (by omega)).mono ?_
      rintro e ul ⟨rfl, oG', hg⟩
      replace hW := hW.trans (gb_to hg (fun k hk => by have := loG k hk; omega) hW.size)
      replace bA := bA.but hg (bx_ne loG (by omega))
      replace bB := bB.but hg (bx_ne loG (by omega))
      replace bS := bS.but hg (bx_ne loG (by omega))
      replace bX := bX.but hg (bx_ne loG (by omega))
      replace bY := bY.but hg (bx_ne loG (by omega))
      replace bG := bG.but hg (bx_ne loG (by omega))
      replace oS := oS.but hg (ob_ne loS loG (by omega))
      replace oX := oX.but hg (ob_ne loX loG (by omega))
      replace oY := oY.but hg (ob_ne loY loG (by omega))
      have hz12 : uk.heap.size ≤ ul.heap.size := by have := hg.size; (try simp at this); omega
      clear oG hg
      have oG := oG'
      clear oG'
      obtain ⟨-, bAp, bAq⟩ := id bA
      obtain ⟨-, bBp, bBq⟩ := id bB
      obtain ⟨-, bSp, bSq⟩ := id bS
      obtain ⟨-, bXp, bXq⟩ := id bX
      obtain ⟨-, bYp, bYq⟩ := id bY
      obtain ⟨-, bGp, bGq⟩ := id bG
      go_wp2_with fail
      clear bAp bAq bBp bBq bSp bSq bXp bXq bYp bYq bGp bGq
      refine (heldBig_any _ _ _ 1 L.length _ oG.rd (by omega) (by omega) rfl).mono ?_
      rintro e um ⟨rfl, hB⟩
      replace hW := hW.trans (hB.mono hW.size)
      replace bA := bA.keep hB
      replace bB := bB.keep hB
      replace bS := bS.keep hB
      replace bX := bX.keep hB
      replace bY := bY.keep hB
      replace bG := bG.keep hB
      replace oS := oS.keep hB
      replace oX := oX.keep hB
      replace oY := oY.keep hB
      replace oG := oG.keep hB
      have hz13 : ul.heap.size ≤ um.heap.size := by have := hB.size; (try simp at this); omega
      clear hB
      clear bX bY oX oY
      have hs1 : w.heap.size + 1 < um.heap.size := by omega
      obtain ⟨hzap, k0, k1⟩ := id bA
      obtain ⟨hzbp, k2, k3⟩ := id bB
      have hxp := hx0.keep hW
      have hyp := hy0.keep hW
      have n1um : ¬ (um.heap.size = w.heap.size) := (by omega)
      have n2um : ¬ (um.heap.size = w.heap.size + 1) := (by omega)
      have n3um : ¬ (w.heap.size = um.heap.size) := (by omega)
      have n4um : ¬ (w.heap.size + 1 = um.heap.size) := (by omega)
      go_upto_region 31 with fail
      go_cut [17, 18] from 98 to 106 (fun s1 s2 wc => Cut1 um wc s L C s1 s2)
      case first =>
        go_region_held3 (fun W => W.cell? ⟨w.heap.size, 0, none⟩ = some (.bool p) ∧ W.cell? ⟨w.heap.size, 1, none⟩ = some (.slice a xs.length cap) ∧ W.cell? ⟨w.heap.size + 1, 0, none⟩ = some (.bool q) ∧ W.cell? ⟨w.heap.size + 1, 1, none⟩ = some (.slice a' ys.length cap')) (go_keep) (first | (go_at_call_of 8 (Value.agg #[Value.bool q, Value.slice a' ys.length cap']); have hq := oA; refine (toBig_any _ _ ys _ (hyp.keep hP3)).mono ?_; rintro e v4 ⟨a4, c4, rfl, oB, hB⟩; have hP4 := hP3.trans (hB.mono hP3.size); obtain ⟨hza4, z04, z14⟩ := bA.keep hP4; obtain ⟨hzb4, z24, z34⟩ := bB.keep hP4; have n1v4 : ¬ (v4.heap.size = w.heap.size) := (by omega); have n2v4 : ¬ (v4.heap.size = w.heap.size + 1) := (by omega); have n3v4 : ¬ (w.heap.size = v4.heap.size) := (by omega); have n4v4 : ¬ (w.heap.size + 1 = v4.heap.size) := (by omega); have oA4 := oA.keep hB; try (replace bD := bD.keep hB; replace fD := fD.keep hB; obtain ⟨hzd, d0, d1⟩ := id bD; obtain ⟨-, hfd⟩ := id fD)) | (go_at_call_of 8 (Value.agg #[Value.bool q, Value.slice a' ys.length cap']); have hq := oA; refine (toBig_any _ _ ys _ ((hyp.keep hP3).alloc (Obj.cells #[.bool false, .slice none 0 0] 26))).mono ?_; rintro e v4 ⟨a4, c4, rfl, oB, hB⟩; have hP4 := (hP3.alloc hP3.size (Obj.cells #[.bool false, .slice none 0 0] 26)).trans (hB.mono (by have := hP3.size; simp; omega)); obtain ⟨hza4, z04, z14⟩ := bA.keep hP4; obtain ⟨hzb4, z24, z34⟩ := bB.keep hP4; have n1v4 : ¬ (v4.heap.size = w.heap.size) := (by omega); have n2v4 : ¬ (v4.heap.size = w.heap.size + 1) := (by omega); have n3v4 : ¬ (w.heap.size = v4.heap.size) := (by omega); have n4v4 : ¬ (w.heap.size + 1 = v4.heap.size) := (by omega); have oA4 := (oA.alloc (Obj.cells #[.bool false, .slice none 0 0] 26)).keep hB; have bD := (Box.new v3 (.bool false) (.slice none 0 0) 26).keep hB; have fD := (Unf.new v3 #[.bool false, .slice none 0 0] 26).keep hB; obtain ⟨hzd, d0, d1⟩ := id bD; obtain ⟨-, hfd⟩ := id fD; have hbD := hP3.size) | (go_at_call_of 8 (Value.agg #[Value.bool p, Value.slice a xs.length cap]); refine (toBig_any _ _ xs _ hxp.drew).mono ?_; rintro e v3 ⟨a3, c3, rfl, oA, hB⟩; have hP3 := (Below.refl um.heap.size um).drew.trans hB; obtain ⟨hza3, z03, z13⟩ := bA.keep hP3; obtain ⟨hzb3, z23, z33⟩ := bB.keep hP3; have n1v3 : ¬ (v3.heap.size = w.heap.size) := (by omega); have n2v3 : ¬ (v3.heap.size = w.heap.size + 1) := (by omega); have n3v3 : ¬ (w.heap.size = v3.heap.size) := (by omega); have n4v3 : ¬ (w.heap.size + 1 = v3.heap.size) := (by omega)) | (go_at_call_of 8 (Value.agg #[Value.bool p, Value.slice a xs.length cap]); refine (toBig_any _ _ xs _ (hxp.alloc (Obj.cells #[.bool false, .slice none 0 0] 26)).drew).mono ?_; rintro e v3 ⟨a3, c3, rfl, oA, hB⟩; have hP3 := ((Below.refl um.heap.size um).alloc (Nat.le_refl _) (Obj.cells #[.bool false, .slice none 0 0] 26)).drew.trans (hB.mono (by simp)); obtain ⟨hza3, z03, z13⟩ := bA.keep hP3; obtain ⟨hzb3, z23, z33⟩ := bB.keep hP3; have n1v3 : ¬ (v3.heap.size = w.heap.size) := (by omega); have n2v3 : ¬ (v3.heap.size = w.heap.size + 1) := (by omega); have n3v3 : ¬ (w.heap.size = v3.heap.size) := (by omega); have n4v3 : ¬ (w.heap.size + 1 = v3.heap.size) := (by omega); have bD := (Box.new um (.bool false) (.slice none 0 0) 26).drew.keep hB; have fD := (Unf.new um #[.bool false, .slice none 0 0] 26).drew.keep hB; obtain ⟨hzd, d0, d1⟩ := id bD; obtain ⟨-, hfd⟩ := id fD; have hbD := Nat.le_refl um.heap.size) | (go_at_call 14; refine (hG _ _ _ oA4.rd oB.rd).mono ?_; rintro e v5 ⟨a5, c5, rfl, oS, hB⟩; have hP5 := hP4.trans (hB.mono hP4.size); obtain ⟨hza5, z05, z15⟩ := bA.keep hP5; obtain ⟨hzb5, z25, z35⟩ := bB.keep hP5; have n1v5 : ¬ (v5.heap.size = w.heap.size) := (by omega); have n2v5 : ¬ (v5.heap.size = w.heap.size + 1) := (by omega); have n3v5 : ¬ (w.heap.size = v5.heap.size) := (by omega); have n4v5 : ¬ (w.heap.size + 1 = v5.heap.size) := (by omega); have hbase := hP4.size; (try have hlt := bD.1); try (replace bD := bD.keep hB; replace fD := fD.keep hB; obtain ⟨hzd, d0, d1⟩ := id bD; obtain ⟨-, hfd⟩ := id fD)) | (go_at_call 14; refine (hG _ _ _ (oA4.rd.alloc (Obj.cells #[.bool false, .slice none 0 0] 26)) (oB.rd.alloc (Obj.cells #[.bool false, .slice none 0 0] 26))).mono ?_; rintro e v5 ⟨a5, c5, rfl, oS, hB⟩; have hP5 := (hP4.alloc hP4.size (Obj.cells #[.bool false, .slice none 0 0] 26)).trans (hB.mono (by have := hP4.size; simp; omega)); obtain ⟨hza5, z05, z15⟩ := bA.keep hP5; obtain ⟨hzb5, z25, z35⟩ := bB.keep hP5; have n1v5 : ¬ (v5.heap.size = w.heap.size) := (by omega); have n2v5 : ¬ (v5.heap.size = w.heap.size + 1) := (by omega); have n3v5 : ¬ (w.heap.size = v5.heap.size) := (by omega); have n4v5 : ¬ (w.heap.size + 1 = v5.heap.size) := (by omega); have hbase : um.heap.size ≤ (v4.alloc (Obj.cells #[.bool false, .slice none 0 0] 26)).heap.size := (by have := hP4.size; simp; omega); have hlt : v4.heap.size < (v4.alloc (Obj.cells #[.bool false, .slice none 0 0] 26)).heap.size := (by simp); have bD := (Box.new v4 (.bool false) (.slice none 0 0) 26).keep hB; have fD := (Unf.new v4 #[.bool false, .slice none 0 0] 26).keep hB; obtain ⟨hzd, d0, d1⟩ := id bD; obtain ⟨-, hfd⟩ := id fD; have hbD := hP4.size))
        all_goals go_wp2_with fail
        all_goals go_meet
        all_goals first | exact ⟨_, a5, c5, rfl, rfl, hP5.alloc hP5.size _, hP5.size, Box.new _ _ _ _, (oS.alloc _).mono hbase⟩ | exact ⟨_, a5, c5, rfl, rfl, (hP5.setCell hbD _).setCell hbD _, hbD, Box.set bD _ _, ((oS.setBelow hlt _).setBelow hlt _).mono hbase⟩
      case rest =>
      obtain ⟨b2, aH, cH, rfl, rfl, hB, hbH, bH, oH⟩ := hcut
      clear k0 k1 k2 k3 hxp hyp n1um n2um n3um n4um hzap hzbp
      replace hW := hW.trans (hB.mono hW.size)
      replace bA := bA.keep hB
      replace bB := bB.keep hB
      replace bS := bS.keep hB
      replace bG := bG.keep hB
      replace oS := oS.keep hB
      replace oG := oG.keep hB
      have hzc2 := hB.size
      clear hB
      obtain ⟨-, bAp, bAq⟩ := id bA
      obtain ⟨-, bBp, bBq⟩ := id bB
      obtain ⟨-, bSp, bSq⟩ := id bS
      obtain ⟨-, bGp, bGq⟩ := id bG
      obtain ⟨-, bHp, bHq⟩ := id bH
      go_wp2_with fail
      clear bAp bAq bBp bBq bSp bSq bGp bGq bHp bHq
      refine (eqBig_same _ _ _ L _ oH.rd oS.rd).mono ?_
      rintro e un ⟨rfl, hB⟩
      replace hW := hW.trans (hB.mono hW.size)
      replace bA := bA.keep hB
      replace bB := bB.keep hB
      replace bS := bS.keep hB
      replace bG := bG.keep hB
      replace bH := bH.keep hB
      replace oS := oS.keep hB
      replace oG := oG.keep hB
      replace oH := oH.keep hB
      have hz14 : wc.heap.size ≤ un.heap.size := by have := hB.size; (try simp at this); omega
      clear hB
      obtain ⟨-, bAp, bAq⟩ := id bA
      obtain ⟨-, bBp, bBq⟩ := id bB
      obtain ⟨-, bSp, bSq⟩ := id bS
      obtain ⟨-, bGp, bGq⟩ := id bG
      obtain ⟨-, bHp, bHq⟩ := id bH
      go_wp2_with fail
      clear bAp bAq bBp bBq bSp bSq bGp bGq bHp bHq
      refine (heldBig_any _ _ _ 1 L.length _ oG.rd (by omega) (by omega) rfl).mono ?_
      rintro e uo ⟨rfl, hB⟩
      replace hW := hW.trans (hB.mono hW.size)
      replace bA := bA.keep hB
      replace bB := bB.keep hB
      replace bS := bS.keep hB
      replace bG := bG.keep hB
      replace bH := bH.keep hB
      replace oS := oS.keep hB
      replace oG := oG.keep hB
      replace oH := oH.keep hB
      have hz15 : un.heap.size ≤ uo.heap.size := by have := hB.size; (try simp at this); omega
      clear hB
      go_wp2
      go_ret
      exact ⟨rfl, hW⟩
end Go.Proofs.Ytcbgjgclhlmeaaa
