import Derived.Test.YtkmbmbeglemocaaBCmp
namespace Go.Proofs.Ytkmbmbeglemocaa
open Go.RowKit
set_option linter.unusedVariables false
set_option linter.unusedSimpArgs false

set_option maxHeartbeats 2000000 in
set_option maxRecDepth 100000 in
theorem law_cmp (p : Bool) (a : Option Addr) (cap : Nat) (xs : List Int) (q : Bool) (a' : Option Addr) (cap' : Nat) (ys : List Int) (w : World) (hrx : xs.length ≤ 1048576 → Rd w (.slice a xs.length cap) xs) (hlx : xs.length ≤ 9223372036854775807) (hry : ys.length ≤ 1048576 → Rd w (.slice a' ys.length cap') ys) (hly : ys.length ≤ 9223372036854775807) :
    Calls Try.prog 7 #[.agg #[.bool p, .slice a xs.length cap], .agg #[.bool q, .slice a' ys.length cap']] w fun e w' => e = .returned (.bool true) ∧ Below w.heap.size w w' := by
  have hW := ((Below.refl w.heap.size w).alloc (Nat.le_refl _) (Obj.cells #[.bool p, .slice a xs.length cap] 24)).alloc (by simp) (Obj.cells #[.bool q, .slice a' ys.length cap'] 24)
  have bA := (Box.new w (.bool p) (.slice a xs.length cap) 24).alloc (Obj.cells #[.bool q, .slice a' ys.length cap'] 24)
  have bB := Box.new (w.alloc (Obj.cells #[.bool p, .slice a xs.length cap] 24)) (.bool q) (.slice a' ys.length cap') 24
  simp only [World.size_alloc] at bB
  by_cases hbig : (1048576 : Int) < xs.length
  · go_enter Try.func7, Try.ntmps7
    go_wp2_with fail
    refine (szBig_any _ _ _ _ _ _ hlx (by omega) (by omega)).mono ?_
    rw [if_pos hbig]
    rintro e w1 ⟨rfl, hB⟩
    go_wp2
    go_ret
    exact ⟨rfl, hW.trans (hB.mono hW.size)⟩
  · by_cases hbig2 : (1048576 : Int) - xs.length < ys.length
    · go_enter Try.func7, Try.ntmps7
      go_wp2_with fail
      refine (szBig_any _ _ _ _ _ _ hlx (by omega) (by omega)).mono ?_
      rw [if_neg (by omega)]
      rintro e w1 ⟨rfl, hB⟩
      replace hW := hW.trans (hB.mono hW.size)
      replace bB := bB.keep hB
      obtain ⟨-, k2, k3⟩ := id bB
      go_wp2_with fail
      refine (szBig_any _ _ _ _ _ _ hly (by omega) (by omega)).mono ?_
      rw [if_pos hbig2]
      rintro e w2 ⟨rfl, hB⟩
      go_wp2
      go_ret
      exact ⟨rfl, hW.trans (hB.mono hW.size)⟩
    · have hx0 : Rd w (.slice a xs.length cap) xs := hrx (by omega)
      have hy0 : Rd w (.slice a' ys.length cap') ys := hry (by omega)
      have hS := fun W v u h1 h2 => bigCmpS_any p q v u xs ys W h1 h2
      have hG := fun W v u h1 h2 => bigCmp_any p q v u xs ys W h1 h2
      generalize cmpA p xs q ys = r at hS hG
      clear hrx hry
      go_enter Try.func7, Try.ntmps7
      go_wp2_with fail
      refine (szBig_any _ _ _ _ _ _ hlx (by omega) (by omega)).mono ?_
      rw [if_neg (by omega)]
      rintro e w1 ⟨rfl, hB⟩
      replace hW := hW.trans (hB.mono hW.size)
      replace bA := bA.keep hB
      replace bB := bB.keep hB
      clear hB
      obtain ⟨-, k2, k3⟩ := id bB
      go_wp2_with fail
      refine (szBig_any _ _ _ _ _ _ hly (by omega) (by omega)).mono ?_
      rw [if_neg (by omega)]
      rintro e w2 ⟨rfl, hB⟩
      clear k2 k3
      replace hW := hW.trans (hB.mono hW.size)
      replace bA := bA.keep hB
      replace bB := bB.keep hB
      clear hB
      obtain ⟨-, k0, k1⟩ := id bA
      obtain ⟨-, k2, k3⟩ := id bB
      have rx := (hx0.keep hW).drew
      have ry := (hy0.keep hW).drew
      go_wp2_with fail
      go_region_held3 (fun W => W.cell? ⟨w.heap.size, 0, none⟩ = some (.bool p) ∧ W.cell? ⟨w.heap.size, 1, none⟩ = some (.slice a xs.length cap) ∧ W.cell? ⟨w.heap.size + 1, 0, none⟩ = some (.bool q) ∧ W.cell? ⟨w.heap.size + 1, 1, none⟩ = some (.slice a' ys.length cap')) (go_keep) (first | (go_at_call_of 18 (Value.agg #[Value.bool p, Value.slice a xs.length cap]); have hq3 := oB; refine (toBig_any _ _ xs _ (hx0.keep hW3)).mono ?_; rintro e w4 ⟨a3, c3, rfl, oA, hB4⟩; have oB4 := oB.keep hB4; have oA4 := oA; have hW4 := hW3.trans (hB4.mono hW3.size); have bA4 := bA3.keep hB4; have bB4 := bB3.keep hB4; obtain ⟨-, y0, y1⟩ := id bA4; obtain ⟨-, y2, y3⟩ := id bB4) | (go_at_call_of 18 (Value.agg #[Value.bool p, Value.slice a xs.length cap]); refine (toBig_any _ _ xs _ rx).mono ?_; rintro e w3 ⟨a3, c3, rfl, oA, hB3⟩; have hW3 := hW.drew.trans (hB3.mono hW.size); have bA3 := bA.drew.keep hB3; have bB3 := bB.drew.keep hB3; obtain ⟨-, z0, z1⟩ := id bA3; obtain ⟨-, z2, z3⟩ := id bB3) | (go_at_call_of 18 (Value.agg #[Value.bool q, Value.slice a' ys.length cap']); have hq3 := oA; refine (toBig_any _ _ ys _ (hy0.keep hW3)).mono ?_; rintro e w4 ⟨a4, c4, rfl, oB, hB4⟩; have oA4 := oA.keep hB4; have oB4 := oB; have hW4 := hW3.trans (hB4.mono hW3.size); have bA4 := bA3.keep hB4; have bB4 := bB3.keep hB4; obtain ⟨-, y0, y1⟩ := id bA4; obtain ⟨-, y2, y3⟩ := id bB4) | (go_at_call_of 18 (Value.agg #[Value.bool q, Value.slice a' ys.length cap']); refine (toBig_any _ _ ys _ ry).mono ?_; rintro e w3 ⟨a4, c4, rfl, oB, hB3⟩; have hW3 := hW.drew.trans (hB3.mono hW.size); have bA3 := bA.drew.keep hB3; have bB3 := bB.drew.keep hB3; obtain ⟨-, z0, z1⟩ := id bA3; obtain ⟨-, z2, z3⟩ := id bB3) | (go_at_call 29; refine (hS _ _ _ oA4.rd oB4.rd).mono ?_; rintro e w5 ⟨rfl, hB5⟩; have hW5 := hW4.trans (hB5.mono hW4.size); have bA5 := bA4.keep hB5; have bB5 := bB4.keep hB5; obtain ⟨-, v0, v1⟩ := id bA5; obtain ⟨-, v2, v3⟩ := id bB5))
      clear k0 k1 k2 k3 rx ry
      go_wp2_with fail
      refine (toBig_any _ _ xs _ (hx0.keep hW5)).mono ?_
      rintro e w6 ⟨a6, c6, rfl, oX, hB⟩
      have hW6 := (hW5.trans (hB.mono hW5.size)).alloc (by have := hW5.size; have := hB.size; omega) (Obj.cells #[.bool p, .slice a6 xs.length c6] 27)
      have bA6 := (bA5.keep hB).alloc (Obj.cells #[.bool p, .slice a6 xs.length c6] 27)
      have bB6 := (bB5.keep hB).alloc (Obj.cells #[.bool p, .slice a6 xs.length c6] 27)
      have bX6 := Box.new w6 (.bool p) (.slice a6 xs.length c6) 27
      have oX6 := oX.alloc (Obj.cells #[.bool p, .slice a6 xs.length c6] 27)
      clear hB
      obtain ⟨-, s0, s1⟩ := id bB6
      go_wp2_with fail
      refine (toBig_any _ _ ys _ (hy0.keep hW6)).mono ?_
      rintro e w7 ⟨a7, c7, rfl, oY, hB⟩
      clear s0 s1
      have hW7 := (hW6.trans (hB.mono hW6.size)).alloc (by have := hW6.size; have := hB.size; omega) (Obj.cells #[.bool q, .slice a7 ys.length c7] 27)
      have bA7 := (bA6.keep hB).alloc (Obj.cells #[.bool q, .slice a7 ys.length c7] 27)
      have bB7 := (bB6.keep hB).alloc (Obj.cells #[.bool q, .slice a7 ys.length c7] 27)
      have bX7 := (bX6.keep hB).alloc (Obj.cells #[.bool q, .slice a7 ys.length c7] 27)
      have bY7 := Box.new w7 (.bool q) (.slice a7 ys.length c7) 27
      have oX7 := (oX6.keep hB).alloc (Obj.cells #[.bool q, .slice a7 ys.length c7] 27)
      have oY7 := oY.alloc (Obj.cells #[.bool q, .slice a7 ys.length c7] 27)
      clear hB
      obtain ⟨-, s0, s1⟩ := id bX7
      go_wp2_with fail
      refine (hG _ _ _ oX7.rd oY7.rd).mono ?_
      rintro e w8 ⟨rfl, hB⟩
      clear s0 s1
      have hW8 := hW7.trans (hB.mono hW7.size)
      have bA8 := bA7.keep hB
      have bB8 := bB7.keep hB
      have bX8 := bX7.keep hB
      have bY8 := bY7.keep hB
      have oX8 := oX7.keep hB
      have oY8 := oY7.keep hB
      clear hB
      obtain ⟨-, s0, s1⟩ := id bX8
      obtain ⟨-, s2, s3⟩ := id bA8
      go_wp2_with fail
      go_region_held3 (fun W => W.cell? ⟨w6.heap.size, 0, none⟩ = some (.bool p) ∧ W.cell? ⟨w6.heap.size, 1, none⟩ = some (.slice a6 xs.length c6) ∧ W.cell? ⟨w.heap.size, 0, none⟩ = some (.bool p) ∧ W.cell? ⟨w.heap.size, 1, none⟩ = some (.slice a xs.length cap)) (go_keep) (first | (go_at_call 18; refine (toBig_any _ _ xs _ (hx0.keep hW8).drew).mono ?_; rintro e w9 ⟨a9, c9, rfl, o9, hB9⟩; have hW9 := hW8.drew.trans (hB9.mono hW8.size); have bA9 := bA8.drew.keep hB9; have bB9 := bB8.drew.keep hB9; have bX9 := bX8.drew.keep hB9; have bY9 := bY8.drew.keep hB9; have oX9 := oX8.drew.keep hB9; have oY9 := oY8.drew.keep hB9; obtain ⟨-, g0, g1⟩ := id bX9; obtain ⟨-, g2, g3⟩ := id bA9) | (go_at_call 20; refine (eqBig_same _ _ _ xs _ oX9.rd o9.rd).mono ?_; rintro e w10 ⟨rfl, hB10⟩; have hW10 := hW9.trans (hB10.mono hW9.size); have bA10 := bA9.keep hB10; have bB10 := bB9.keep hB10; have bX10 := bX9.keep hB10; have bY10 := bY9.keep hB10; have oY10 := oY9.keep hB10; obtain ⟨-, i0, i1⟩ := id bX10; obtain ⟨-, i2, i3⟩ := id bA10))
      obtain ⟨-, j0, j1⟩ := id bY10
      obtain ⟨-, j2, j3⟩ := id bB10
      go_wp2_with fail
      go_region_held3 (fun W => W.cell? ⟨w7.heap.size, 0, none⟩ = some (.bool q) ∧ W.cell? ⟨w7.heap.size, 1, none⟩ = some (.slice a7 ys.length c7) ∧ W.cell? ⟨w.heap.size + 1, 0, none⟩ = some (.bool q) ∧ W.cell? ⟨w.heap.size + 1, 1, none⟩ = some (.slice a' ys.length cap')) (go_keep) (first | (go_at_call 18; refine (toBig_any _ _ ys _ (hy0.keep hW10).drew).mono ?_; rintro e w11 ⟨a11, c11, rfl, o11, hB11⟩; have hW11 := hW10.drew.trans (hB11.mono hW10.size); have bB11 := bB10.drew.keep hB11; have bY11 := bY10.drew.keep hB11; have oY11 := oY10.drew.keep hB11; obtain ⟨-, l0, l1⟩ := id bY11; obtain ⟨-, l2, l3⟩ := id bB11) | (go_at_call 20; refine (eqBig_same _ _ _ ys _ oY11.rd o11.rd).mono ?_; rintro e w12 ⟨rfl, hB12⟩; have hW12 := hW11.trans (hB12.mono hW11.size); obtain ⟨-, m0, m1⟩ := bY11.keep hB12; obtain ⟨-, m2, m3⟩ := bB11.keep hB12))
      go_wp2
      go_ret
      exact ⟨rfl, hW12⟩
end Go.Proofs.Ytkmbmbeglemocaa
