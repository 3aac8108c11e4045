import Derived.Test.YtfcoffllelgakaaDoorCmpR
import Derived.Test.YtfcoffllelgakaaDoorSum
import Derived.Test.YtfcoffllelgakaaDoorFit
import Derived.Test.YtfcoffllelgakaaDoorOk
import Derived.Deep.RegionHeld3
import Derived.Test.YtfcoffllelgakaaDoorFBigI
import Derived.Test.YtfcoffllelgakaaDoorMgNP
namespace Go.Proofs.YtfcoffllelgakaaDoor
open Go.RowKit
set_option linter.unusedVariables false
set_option linter.unusedSimpArgs false

set_option maxHeartbeats 1000000 in
set_option maxRecDepth 100000 in
theorem bigCmpS_any (p q : Bool) (v u : Value) (xs ys : List Int) (w : World) (hx : Rd w v xs) (hy : Rd w u ys) :
    Calls Tryd.prog 20 #[.agg #[.bool p, v], .agg #[.bool q, u]] w fun e w' => e = .returned (.int .i64 (cmpA p xs q ys)) ∧ Below w.heap.size w w' := by
  have hx' := hx
  have hy' := hy
  obtain ⟨a, cap, rfl, _, hzx, hnx, hcx⟩ := hx
  obtain ⟨a', cap', rfl, _, hzy, hny, hcy⟩ := hy
  clear hcx hcy hnx hny
  have bA := (Box.new w (.bool p) (.slice a xs.length cap) 29).alloc (Obj.cells #[.bool q, .slice a' ys.length cap'] 29)
  have bB := Box.new (w.alloc (Obj.cells #[.bool p, .slice a xs.length cap] 29)) (.bool q) (.slice a' ys.length cap') 29
  have rx := (hx'.alloc (Obj.cells #[.bool p, .slice a xs.length cap] 29)).alloc (Obj.cells #[.bool q, .slice a' ys.length cap'] 29)
  have ry := (hy'.alloc (Obj.cells #[.bool p, .slice a xs.length cap] 29)).alloc (Obj.cells #[.bool q, .slice a' ys.length cap'] 29)
  have hW := ((Below.refl w.heap.size w).alloc (Nat.le_refl _) (Obj.cells #[.bool p, .slice a xs.length cap] 29)).alloc (by simp) (Obj.cells #[.bool q, .slice a' ys.length cap'] 29)
  have fA := ((Unf.new w #[.bool p, .slice a xs.length cap] 29).keep ((Below.refl _ _).alloc (Nat.le_refl _) (Obj.cells #[.bool q, .slice a' ys.length cap'] 29)))
  have fB := (Unf.new (w.alloc (Obj.cells #[.bool p, .slice a xs.length cap] 29)) #[.bool q, .slice a' ys.length cap'] 29)
  simp only [World.size_alloc] at bB fB
  cases hoA : okB p xs with
  | false =>
    have HC : Hid (cmpA p xs q ys = 2) := by unfold cmpA; exact if_neg (by rw [hoA]; simp)
    have hokA := fun W h => bigOkS_any p (.slice a xs.length cap) xs W h
    rw [hoA] at hokA
    clear hoA hx' hy'
    go_enter Tryd.func20, Tryd.ntmps20
    go_wp2_with fail
    refine (hokA _ rx).mono ?_
    rintro e w1 ⟨rfl, hB⟩
    replace hW := hW.trans (hB.mono hW.size)
    replace bA := bA.keep hB
    replace bB := bB.keep hB
    replace fA := fA.keep hB
    replace fB := fB.keep hB
    replace rx := rx.keep hB
    replace ry := ry.keep hB
    clear hB
    obtain ⟨-, k0, k1⟩ := id bA
    obtain ⟨-, k2, k3⟩ := id bB
    go_wp2
    go_ret
    exact ⟨by rw [HC.out]; rfl, hW⟩
  | true =>
    cases hoB : okB q ys with
    | false =>
      have HC : Hid (cmpA p xs q ys = 2) := by unfold cmpA; exact if_neg (by rw [hoB]; simp)
      have hokA := fun W h => bigOkS_any p (.slice a xs.length cap) xs W h
      rw [hoA] at hokA
      have hokB := fun W h => bigOkS_any q (.slice a' ys.length cap') ys W h
      rw [hoB] at hokB
      clear hoA hoB hx' hy'
      go_enter Tryd.func20, Tryd.ntmps20
      go_wp2_with fail
      refine (hokA _ rx).mono ?_
      rintro e w1 ⟨rfl, hB⟩
      replace hW := hW.trans (hB.mono hW.size)
      replace bA := bA.keep hB
      replace bB := bB.keep hB
      replace fA := fA.keep hB
      replace fB := fB.keep hB
      replace rx := rx.keep hB
      replace ry := ry.keep hB
      clear hB
      obtain ⟨-, k0, k1⟩ := id bA
      obtain ⟨-, k2, k3⟩ := id bB
      go_wp2_with fail
      refine (hokB _ ry).mono ?_
      rintro e w2 ⟨rfl, hB⟩
      clear k0 k1 k2 k3
      replace hW := hW.trans (hB.mono hW.size)
      replace bA := bA.keep hB
      replace bB := bB.keep hB
      replace fA := fA.keep hB
      replace fB := fB.keep hB
      replace rx := rx.keep hB
      replace ry := ry.keep hB
      clear hB
      obtain ⟨-, k0, k1⟩ := id bA
      obtain ⟨-, k2, k3⟩ := id bB
      go_wp2
      go_ret
      exact ⟨by rw [HC.out]; rfl, hW⟩
    | true =>
      have HC : Hid (cmpA p xs q ys = cmpR p (val xs) q (val ys)) := by unfold cmpA; exact if_pos ⟨hoA, hoB⟩
      have hnA := okB_norm hoA
      have hnB := okB_norm hoB
      have hpA : p = true → 0 < val xs := fun e => by subst e; exact okB_pos hzx hoA
      have hpB : q = true → 0 < val ys := fun e => by subst e; exact okB_pos hzy hoB
      have hokA := fun W h => bigOkS_any p (.slice a xs.length cap) xs W h
      rw [hoA] at hokA
      have hokB := fun W h => bigOkS_any q (.slice a' ys.length cap') ys W h
      rw [hoB] at hokB
      clear hoA hoB
      have hR := cmp_of_sum p (val xs) q (val ys) hpA hpB
      rw [← HC.out] at hR
      have hM := fun W h => l1Minus_any q (.slice a' ys.length cap') ys W h
      have hS := fun W v1 h1 h2 => l1Sum_any p (nz (!q) (val ys)) (.slice a xs.length cap) v1 xs (lim (val ys)) W h1 h2 hnA.1 (lim_norm _) (by omega) (by have := lim_length_le (val_lt hzy); omega)
      rw [val_lim, sumR_nz] at hS
      generalize nz (!q) (val ys) = m at hM hS
      generalize hLy : lim (val ys) = Ly at hM hS
      have hz0 : (sumR p (val xs) (!q) (val ys)).2 = 0 ↔ (lim (sumR p (val xs) (!q) (val ys)).2).length = 0 := by rw [List.length_eq_zero_iff, lim_eq_nil]
      generalize lim (sumR p (val xs) (!q) (val ys)).2 = L at hS hz0
      generalize nz (sumR p (val xs) (!q) (val ys)).1 (sumR p (val xs) (!q) (val ys)).2 = s at hS hR
      generalize cmpA p xs q ys = r at hR ⊢
      have HR : Hid ((if L.length = 0 then (0 : Int) else if s = true then -1 else 1) = r) := by
        rw [← hR]
        show _ = _
        by_cases h : L.length = 0
        · rw [if_pos h, if_pos (hz0.mpr h)]
        · rw [if_neg h, if_neg (fun e => h (hz0.mp e))]
      clear hR hz0 hLy HC hpA hpB hnA hnB
      go_enter Tryd.func20, Tryd.ntmps20
      go_wp2_with fail
      refine (hokA _ rx).mono ?_
      rintro e w1 ⟨rfl, hB⟩
      replace hW := hW.trans (hB.mono hW.size)
      replace bA := bA.keep hB
      replace bB := bB.keep hB
      replace fA := fA.keep hB
      replace fB := fB.keep hB
      replace rx := rx.keep hB
      replace ry := ry.keep hB
      clear hB
      obtain ⟨-, k0, k1⟩ := id bA
      obtain ⟨-, k2, k3⟩ := id bB
      go_wp2_with fail
      refine (hokB _ ry).mono ?_
      rintro e w2 ⟨rfl, hB⟩
      clear k0 k1 k2 k3
      replace hW := hW.trans (hB.mono hW.size)
      replace bA := bA.keep hB
      replace bB := bB.keep hB
      replace fA := fA.keep hB
      replace fB := fB.keep hB
      replace rx := rx.keep hB
      replace ry := ry.keep hB
      clear hB
      obtain ⟨-, k0, k1⟩ := id bA
      obtain ⟨-, k2, k3⟩ := id bB
      clear hokA hokB
      have hg1 : ¬ (w2.heap.size = w.heap.size) := by have := bA.1; omega
      have hg2 : ¬ (w2.heap.size = w.heap.size + 1) := by have := bB.1; omega
      have hg3 : ¬ (w.heap.size = w2.heap.size) := by have := bA.1; omega
      have hg4 : ¬ (w.heap.size + 1 = w2.heap.size) := by have := bB.1; omega
      go_wp2_with fail
      go_region_held3 (fun W => W.cell? ⟨w.heap.size, 0, none⟩ = some (.bool p) ∧ W.cell? ⟨w.heap.size, 1, none⟩ = some (.slice a xs.length cap) ∧ W.cell? ⟨w.heap.size + 1, 0, none⟩ = some (.bool q) ∧ W.cell? ⟨w.heap.size + 1, 1, none⟩ = some (.slice a' ys.length cap')) (go_keep) (first | (go_at_call 47; refine (hM _ ry.drew).mono ?_; rintro e w3 ⟨a3, c3, rfl, hO3, hB3⟩; have bA3 := bA.drew.keep hB3; have bB3 := bB.drew.keep hB3; obtain ⟨hza, x0, x1⟩ := id bA3; obtain ⟨hzb, y0, y1⟩ := id bB3; have hm4 : ¬ (w3.heap.size = w.heap.size) := (by omega); have hm5 : ¬ (w3.heap.size = w.heap.size + 1) := (by omega); have hm6 : ¬ (w.heap.size = w3.heap.size) := (by omega); have hm7 : ¬ (w.heap.size + 1 = w3.heap.size) := (by omega); have rx3 := rx.drew.keep hB3; have hW3 := hW.drew.trans (hB3.mono (by have := hW.size; simp; omega))) | (go_at_call 47; refine (hM _ (ry.alloc (Obj.cells #[.bool false, .slice none 0 0] 29)).drew).mono ?_; rintro e w3 ⟨a3, c3, rfl, hO3, hB3⟩; have bA3 := (bA.alloc (Obj.cells #[.bool false, .slice none 0 0] 29)).drew.keep hB3; have bB3 := (bB.alloc (Obj.cells #[.bool false, .slice none 0 0] 29)).drew.keep hB3; obtain ⟨hza, x0, x1⟩ := id bA3; obtain ⟨hzb, y0, y1⟩ := id bB3; have hm4 : ¬ (w3.heap.size = w.heap.size) := (by omega); have hm5 : ¬ (w3.heap.size = w.heap.size + 1) := (by omega); have hm6 : ¬ (w.heap.size = w3.heap.size) := (by omega); have hm7 : ¬ (w.heap.size + 1 = w3.heap.size) := (by omega); have rx3 := (rx.alloc (Obj.cells #[.bool false, .slice none 0 0] 29)).drew.keep hB3; have hW3 := (hW.alloc hW.size (Obj.cells #[.bool false, .slice none 0 0] 29)).drew.trans (hB3.mono (by have := hW.size; simp; omega)); have bD3 := (Box.new w2 (.bool false) (.slice none 0 0) 29).drew.keep hB3; have fD3 := (Unf.new w2 #[.bool false, .slice none 0 0] 29).drew.keep hB3; obtain ⟨hzd, d0, d1⟩ := id bD3; obtain ⟨-, hfd⟩ := id fD3) | (go_at_call 46; refine (hS _ _ rx3 hO3.rd).mono ?_; rintro e w4 ⟨a4, c4, rfl, hO4, hB4⟩; obtain ⟨hz4, x2, x3⟩ := bA3.keep hB4; obtain ⟨hz5, y2, y3⟩ := bB3.keep hB4; have hW4 := hW3.trans (hB4.mono (by have := hW3.size; simp; omega)); have hn4 : ¬ (w4.heap.size = w.heap.size) := (by omega); have hn5 : ¬ (w4.heap.size = w.heap.size + 1) := (by omega); have hn6 : ¬ (w.heap.size = w4.heap.size) := (by omega); have hn7 : ¬ (w.heap.size + 1 = w4.heap.size) := (by omega); try (obtain ⟨hzd4, d2, d3⟩ := bD3.keep hB4; obtain ⟨-, hfd4⟩ := fD3.keep hB4)) | (go_at_call 46; refine (hS _ _ (rx3.alloc (Obj.cells #[.bool false, .slice none 0 0] 29)) (hO3.rd.alloc _)).mono ?_; rintro e w4 ⟨a4, c4, rfl, hO4, hB4⟩; obtain ⟨hz4, x2, x3⟩ := (bA3.alloc _).keep hB4; obtain ⟨hz5, y2, y3⟩ := (bB3.alloc _).keep hB4; have hW4 := (hW3.alloc hW3.size _).trans (hB4.mono (by have := hW3.size; simp; omega)); have hn4 : ¬ (w4.heap.size = w.heap.size) := (by omega); have hn5 : ¬ (w4.heap.size = w.heap.size + 1) := (by omega); have hn6 : ¬ (w.heap.size = w4.heap.size) := (by omega); have hn7 : ¬ (w.heap.size + 1 = w4.heap.size) := (by omega); have bD3 := Box.new w3 (.bool false) (.slice none 0 0) 29; have fD3 := Unf.new w3 #[.bool false, .slice none 0 0] 29; obtain ⟨hzd4, d2, d3⟩ := bD3.keep hB4; obtain ⟨-, hfd4⟩ := fD3.keep hB4))
      all_goals go_wp2
      all_goals go_ret
      all_goals refine ⟨?_, ?_⟩
      all_goals first | (rw [pick0 HR.out (by assumption)]; rfl) | (rw [pick1 HR.out (by assumption) (by assumption)]; rfl) | (rw [pick2 HR.out (by assumption) (by assumption)]; rfl) | exact hW4.alloc hW4.size _ | exact (hW4.setCell (by show w.heap.size ≤ w3.heap.size; omega) _).setCell (by show w.heap.size ≤ w3.heap.size; omega) _ | exact (hW4.setCell (by show w.heap.size ≤ w2.heap.size; have := bA.1; omega) _).setCell (by show w.heap.size ≤ w2.heap.size; have := bA.1; omega) _

set_option maxHeartbeats 1000000 in
set_option maxRecDepth 100000 in
theorem bigCmp_any (p q : Bool) (v u : Value) (xs ys : List Int) (w : World) (hx : Rd w v xs) (hy : Rd w u ys) :
    Calls Tryd.prog 49 #[.agg #[.bool p, v], .agg #[.bool q, u]] w fun e w' => e = .returned (.int .i64 (cmpA p xs q ys)) ∧ Below w.heap.size w w' := by
  have hx' := hx
  have hy' := hy
  obtain ⟨a, cap, rfl, _, hzx, hnx, hcx⟩ := hx
  obtain ⟨a', cap', rfl, _, hzy, hny, hcy⟩ := hy
  clear hcx hcy hnx hny
  have bA := (Box.new w (.bool p) (.slice a xs.length cap) 29).alloc (Obj.cells #[.bool q, .slice a' ys.length cap'] 29)
  have bB := Box.new (w.alloc (Obj.cells #[.bool p, .slice a xs.length cap] 29)) (.bool q) (.slice a' ys.length cap') 29
  have rx := (hx'.alloc (Obj.cells #[.bool p, .slice a xs.length cap] 29)).alloc (Obj.cells #[.bool q, .slice a' ys.length cap'] 29)
  have ry := (hy'.alloc (Obj.cells #[.bool p, .slice a xs.length cap] 29)).alloc (Obj.cells #[.bool q, .slice a' ys.length cap'] 29)
  have hW := ((Below.refl w.heap.size w).alloc (Nat.le_refl _) (Obj.cells #[.bool p, .slice a xs.length cap] 29)).alloc (by simp) (Obj.cells #[.bool q, .slice a' ys.length cap'] 29)
  have fA := ((Unf.new w #[.bool p, .slice a xs.length cap] 29).keep ((Below.refl _ _).alloc (Nat.le_refl _) (Obj.cells #[.bool q, .slice a' ys.length cap'] 29)))
  have fB := (Unf.new (w.alloc (Obj.cells #[.bool p, .slice a xs.length cap] 29)) #[.bool q, .slice a' ys.length cap'] 29)
  simp only [World.size_alloc] at bB fB
  cases hoA : okB p xs with
  | false =>
    have HC : Hid (cmpA p xs q ys = 2) := by unfold cmpA; exact if_neg (by rw [hoA]; simp)
    have hokA := fun W h => bigOk_any p (.slice a xs.length cap) xs W h
    rw [hoA] at hokA
    clear hoA hx' hy'
    go_enter Tryd.func49, Tryd.ntmps49
    go_wp2_with fail
    refine (hokA _ rx).mono ?_
    rintro e w1 ⟨rfl, hB⟩
    replace hW := hW.trans (hB.mono hW.size)
    replace bA := bA.keep hB
    replace bB := bB.keep hB
    replace fA := fA.keep hB
    replace fB := fB.keep hB
    replace rx := rx.keep hB
    replace ry := ry.keep hB
    clear hB
    obtain ⟨-, k0, k1⟩ := id bA
    obtain ⟨-, k2, k3⟩ := id bB
    go_wp2
    go_ret
    exact ⟨by rw [HC.out]; rfl, hW⟩
  | true =>
    cases hoB : okB q ys with
    | false =>
      have HC : Hid (cmpA p xs q ys = 2) := by unfold cmpA; exact if_neg (by rw [hoB]; simp)
      have hokA := fun W h => bigOk_any p (.slice a xs.length cap) xs W h
      rw [hoA] at hokA
      have hokB := fun W h => bigOk_any q (.slice a' ys.length cap') ys W h
      rw [hoB] at hokB
      clear hoA hoB hx' hy'
      go_enter Tryd.func49, Tryd.ntmps49
      go_wp2_with fail
      refine (hokA _ rx).mono ?_
      rintro e w1 ⟨rfl, hB⟩
      replace hW := hW.trans (hB.mono hW.size)
      replace bA := bA.keep hB
      replace bB := bB.keep hB
      replace fA := fA.keep hB
      replace fB := fB.keep hB
      replace rx := rx.keep hB
      replace ry := ry.keep hB
      clear hB
      obtain ⟨-, k0, k1⟩ := id bA
      obtain ⟨-, k2, k3⟩ := id bB
      go_wp2_with fail
      refine (hokB _ ry).mono ?_
      rintro e w2 ⟨rfl, hB⟩
      clear k0 k1 k2 k3
      replace hW := hW.trans (hB.mono hW.size)
      replace bA := bA.keep hB
      replace bB := bB.keep hB
      replace fA := fA.keep hB
      replace fB := fB.keep hB
      replace rx := rx.keep hB
      replace ry := ry.keep hB
      clear hB
      obtain ⟨-, k0, k1⟩ := id bA
      obtain ⟨-, k2, k3⟩ := id bB
      go_wp2
      go_ret
      exact ⟨by rw [HC.out]; rfl, hW⟩
    | true =>
      have HC : Hid (cmpA p xs q ys = cmpR p (val xs) q (val ys)) := by unfold cmpA; exact if_pos ⟨hoA, hoB⟩
      have hnA := okB_norm hoA
      have hnB := okB_norm hoB
      have hpA : p = true → 0 < val xs := fun e => by subst e; exact okB_pos hzx hoA
      have hpB : q = true → 0 < val ys := fun e => by subst e; exact okB_pos hzy hoB
      have hokA := fun W h => bigOk_any p (.slice a xs.length cap) xs W h
      rw [hoA] at hokA
      have hokB := fun W h => bigOk_any q (.slice a' ys.length cap') ys W h
      rw [hoB] at hokB
      clear hoA hoB
      have hCA := fun W h1 h2 => compare_any (.slice a xs.length cap) (.slice a' ys.length cap') xs ys W h1 h2 hnA.1 hnB.1
      have hCB := fun W h1 h2 => compare_any (.slice a' ys.length cap') (.slice a xs.length cap) ys xs W h1 h2 hnB.1 hnA.1
      by_cases hpq : p = q
      · subst hpq
        cases p with
        | true =>
          have HR : Hid (cmpA true xs true ys = cmpN (val ys) (val xs)) := HC.out
          generalize cmpA true xs true ys = r at HR ⊢
          generalize cmpN (val ys) (val xs) = cn at HR hCB
          clear HC hpA hpB hnA hnB hCA
          go_enter Tryd.func49, Tryd.ntmps49
          go_wp2_with fail
          refine (hokA _ rx).mono ?_
          rintro e w1 ⟨rfl, hB⟩
          replace hW := hW.trans (hB.mono hW.size)
          replace bA := bA.keep hB
          replace bB := bB.keep hB
          replace fA := fA.keep hB
          replace fB := fB.keep hB
          replace rx := rx.keep hB
          replace ry := ry.keep hB
          clear hB
          obtain ⟨-, k0, k1⟩ := id bA
          obtain ⟨-, k2, k3⟩ := id bB
          go_wp2_with fail
          refine (hokB _ ry).mono ?_
          rintro e w2 ⟨rfl, hB⟩
          clear k0 k1 k2 k3
          replace hW := hW.trans (hB.mono hW.size)
          replace bA := bA.keep hB
          replace bB := bB.keep hB
          replace fA := fA.keep hB
          replace fB := fB.keep hB
          replace rx := rx.keep hB
          replace ry := ry.keep hB
          clear hB
          obtain ⟨-, k0, k1⟩ := id bA
          obtain ⟨-, k2, k3⟩ := id bB
          clear hokA hokB
          have fa := fA.2 0
          have fb := fA.2 1
          have fc := fB.2 0
          have fd := fB.2 1
          go_wp2_with fail
          have hW9 := (((hW.setCell (p := ⟨w.heap.size, 0, none⟩) (Nat.le_refl _) (.bool true)).setCell (p := ⟨w.heap.size, 1, none⟩) (Nat.le_refl _) (.slice a' ys.length cap')).setCell (p := ⟨w.heap.size + 1, 0, none⟩) (Nat.le_succ _) (.bool true)).setCell (p := ⟨w.heap.size + 1, 1, none⟩) (Nat.le_succ _) (.slice a xs.length cap)
          refine (hCB _ (hy'.keep hW9) (hx'.keep hW9)).mono ?_
          rintro e w3 ⟨rfl, hB⟩
          go_wp2
          go_ret
          exact ⟨by rw [HR.out]; rfl, hW9.trans (hB.mono hW9.size)⟩
        | false =>
          have HR : Hid (cmpA false xs false ys = cmpN (val xs) (val ys)) := HC.out
          generalize cmpA false xs false ys = r at HR ⊢
          generalize cmpN (val xs) (val ys) = cn at HR hCA
          clear HC hpA hpB hnA hnB hCB
          go_enter Tryd.func49, Tryd.ntmps49
          go_wp2_with fail
          refine (hokA _ rx).mono ?_
          rintro e w1 ⟨rfl, hB⟩
          replace hW := hW.trans (hB.mono hW.size)
          replace bA := bA.keep hB
          replace bB := bB.keep hB
          replace fA := fA.keep hB
          replace fB := fB.keep hB
          replace rx := rx.keep hB
          replace ry := ry.keep hB
          clear hB
          obtain ⟨-, k0, k1⟩ := id bA
          obtain ⟨-, k2, k3⟩ := id bB
          go_wp2_with fail
          refine (hokB _ ry).mono ?_
          rintro e w2 ⟨rfl, hB⟩
          clear k0 k1 k2 k3
          replace hW := hW.trans (hB.mono hW.size)
          replace bA := bA.keep hB
          replace bB := bB.keep hB
          replace fA := fA.keep hB
          replace fB := fB.keep hB
          replace rx := rx.keep hB
          replace ry := ry.keep hB
          clear hB
          obtain ⟨-, k0, k1⟩ := id bA
          obtain ⟨-, k2, k3⟩ := id bB
          clear hokA hokB
          go_wp2_with fail
          refine (hCA _ rx ry).mono ?_
          rintro e w3 ⟨rfl, hB⟩
          go_wp2
          go_ret
          exact ⟨by rw [HR.out]; rfl, hW.trans (hB.mono hW.size)⟩
      · have HR : Hid (cmpA p xs q ys = if p = true then -1 else 1) := by
          show _ = _
          rw [HC.out]; unfold cmpR; rw [if_neg hpq]
        generalize cmpA p xs q ys = r at HR ⊢
        have hpqb : (p == q) = false := by cases p <;> cases q <;> simp_all
        clear HC hpA hpB hnA hnB hCA hCB hpq
        cases p with
        | true =>
          go_enter Tryd.func49, Tryd.ntmps49
          go_wp2_with fail
          refine (hokA _ rx).mono ?_
          rintro e w1 ⟨rfl, hB⟩
          replace hW := hW.trans (hB.mono hW.size)
          replace bA := bA.keep hB
          replace bB := bB.keep hB
          replace fA := fA.keep hB
          replace fB := fB.keep hB
          replace rx := rx.keep hB
          replace ry := ry.keep hB
          clear hB
          obtain ⟨-, k0, k1⟩ := id bA
          obtain ⟨-, k2, k3⟩ := id bB
          go_wp2_with fail
          refine (hokB _ ry).mono ?_
          rintro e w2 ⟨rfl, hB⟩
          clear k0 k1 k2 k3
          replace hW := hW.trans (hB.mono hW.size)
          replace bA := bA.keep hB
          replace bB := bB.keep hB
          replace fA := fA.keep hB
          replace fB := fB.keep hB
          replace rx := rx.keep hB
          replace ry := ry.keep hB
          clear hB
          obtain ⟨-, k0, k1⟩ := id bA
          obtain ⟨-, k2, k3⟩ := id bB
          clear hokA hokB
          go_wp2
          go_ret
          exact ⟨by rw [HR.out]; rfl, hW⟩
        | false =>
          go_enter Tryd.func49, Tryd.ntmps49
          go_wp2_with fail
          refine (hokA _ rx).mono ?_
          rintro e w1 ⟨rfl, hB⟩
          replace hW := hW.trans (hB.mono hW.size)
          replace bA := bA.keep hB
          replace bB := bB.keep hB
          replace fA := fA.keep hB
          replace fB := fB.keep hB
          replace rx := rx.keep hB
          replace ry := ry.keep hB
          clear hB
          obtain ⟨-, k0, k1⟩ := id bA
          obtain ⟨-, k2, k3⟩ := id bB
          go_wp2_with fail
          refine (hokB _ ry).mono ?_
          rintro e w2 ⟨rfl, hB⟩
          clear k0 k1 k2 k3
          replace hW := hW.trans (hB.mono hW.size)
          replace bA := bA.keep hB
          replace bB := bB.keep hB
          replace fA := fA.keep hB
          replace fB := fB.keep hB
          replace rx := rx.keep hB
          replace ry := ry.keep hB
          clear hB
          obtain ⟨-, k0, k1⟩ := id bA
          obtain ⟨-, k2, k3⟩ := id bB
          clear hokA hokB
          go_wp2
          go_ret
          exact ⟨by rw [HR.out]; rfl, hW⟩
end Go.Proofs.YtfcoffllelgakaaDoor

namespace Go.Proofs.YtfcoffllelgakaaDoor
open Go.RowKit
set_option linter.unusedVariables false
set_option linter.unusedSimpArgs false

/-- The order of two whole numbers, told as a number. -/
def cmpI (a b : Int) : Int := if a < b then -1 else if b < a then 1 else 0
theorem ordI_cmp (a b : Int) : ordI (some (compare a b)) = cmpI a b := by
  unfold cmpI
  rcases Int.lt_trichotomy a b with h | h | h
  · rw [Int.compare_eq_lt.2 h, if_pos h]; rfl
  · subst h; simp [ordI]
  · rw [Int.compare_eq_gt.2 h, if_neg (by omega), if_pos h]; rfl
theorem split_cmp (v : Int) (s : Bool) (u P : Nat) (hP : 0 < P) :
    cmpI (v * (P : Int)) (sgn s u) = if cmpI v (sgn s (u / P)) ≠ 0 then cmpI v (sgn s (u / P)) else cmpI (sgn s (u / P * P)) (sgn s u) := by
  have hu := Nat.div_add_mod u P
  have hr := Nat.mod_lt u hP
  rw [Nat.mul_comm] at hu
  generalize u / P = q at *
  generalize u % P = r at *
  obtain ⟨Y, hY⟩ : ∃ Y : Nat, q * P = Y := ⟨_, rfl⟩
  have hYi : (q : Int) * (P : Int) = (Y : Int) := by rw [← hY, Int.natCast_mul]
  rw [hY] at hu ⊢
  have hPi : (0 : Int) ≤ (P : Int) := by omega
  obtain ⟨X, hX⟩ : ∃ X : Int, v * (P : Int) = X := ⟨_, rfl⟩
  rw [hX]
  cases s with
  | false =>
    show cmpI X (u : Int) = if cmpI v (q : Int) ≠ 0 then cmpI v (q : Int) else cmpI (Y : Int) (u : Int)
    rcases Int.lt_trichotomy v (q : Int) with h | h | h
    · have h1 : v * (P : Int) ≤ ((q : Int) - 1) * (P : Int) := Int.mul_le_mul_of_nonneg_right (by omega) hPi
      rw [Int.sub_mul, hYi, hX, Int.one_mul] at h1
      have e : cmpI v (q : Int) = -1 := by unfold cmpI; rw [if_pos h]
      rw [e, if_pos (by decide)]
      unfold cmpI; rw [if_pos (by omega)]
    · subst h
      have e : cmpI (q : Int) (q : Int) = 0 := by unfold cmpI; rw [if_neg (by omega), if_neg (by omega)]
      rw [e, if_neg (by decide)]
      rw [show X = (Y : Int) from by rw [← hX, hYi]]
    · have h1 : ((q : Int) + 1) * (P : Int) ≤ v * (P : Int) := Int.mul_le_mul_of_nonneg_right (by omega) hPi
      rw [Int.add_mul, hYi, hX, Int.one_mul] at h1
      have e : cmpI v (q : Int) = 1 := by unfold cmpI; rw [if_neg (by omega), if_pos h]
      rw [e, if_pos (by decide)]
      unfold cmpI; rw [if_neg (by omega), if_pos (by omega)]
  | true =>
    show cmpI X (-(u : Int)) = if cmpI v (-(q : Int)) ≠ 0 then cmpI v (-(q : Int)) else cmpI (-(Y : Int)) (-(u : Int))
    rcases Int.lt_trichotomy v (-(q : Int)) with h | h | h
    · have h1 : v * (P : Int) ≤ (-(q : Int) - 1) * (P : Int) := Int.mul_le_mul_of_nonneg_right (by omega) hPi
      rw [Int.sub_mul, Int.neg_mul, hYi, hX, Int.one_mul] at h1
      have e : cmpI v (-(q : Int)) = -1 := by unfold cmpI; rw [if_pos h]
      rw [e, if_pos (by decide)]
      unfold cmpI; rw [if_pos (by omega)]
    · subst h
      have e : cmpI (-(q : Int)) (-(q : Int)) = 0 := by unfold cmpI; rw [if_neg (by omega), if_neg (by omega)]
      rw [e, if_neg (by decide)]
      rw [show X = -(Y : Int) from by rw [← hX, Int.neg_mul, hYi]]
    · have h1 : (-(q : Int) + 1) * (P : Int) ≤ v * (P : Int) := Int.mul_le_mul_of_nonneg_right (by omega) hPi
      rw [Int.add_mul, Int.neg_mul, hYi, hX, Int.one_mul] at h1
      have e : cmpI v (-(q : Int)) = 1 := by unfold cmpI; rw [if_neg (by omega), if_pos h]
      rw [e, if_pos (by decide)]
      unfold cmpI; rw [if_neg (by omega), if_pos (by omega)]
/-- What BigFloatCmp answers. -/
def bfc (p : Bool) (xs : List Int) (x : Nat) : Int :=
  if okB p xs = true ∧ isN x = false then (if isI x = true then (if fneg x = true then 1 else -1) else cmpI (sgn p (val xs) * (lowP : Int)) (sgn (fneg x) (fu x))) else 2
/-- A whole part as a float. -/
def trunc (x : Nat) : Nat := Ieee.double.nearest (fneg x) (fq x) 0
theorem integral_eq (x : Nat) (h : frung x < 9218868437227405312) : (Ieee.double.read x).integral .zero = .number (fneg x) (fq x) 0 := by
  rw [read_num x h]
  show Ieee.Datum.number (fneg x) (Ieee.Toward.zero.cut (fneg x) (fmag x <<< (fpl x).toNat) (-(fpl x)).toNat) 0 = _
  rw [cut_zero, Nat.shiftLeft_eq]
  by_cases hp : 0 ≤ fpl x
  · obtain ⟨n, hn⟩ : ∃ n : Nat, fpl x = (n : Int) := ⟨(fpl x).toNat, by omega⟩
    rw [fq_up x n hn, hn, show ((n : Int)).toNat = n from rfl, show (-(n : Int)).toNat = 0 by omega, Nat.pow_zero, Nat.div_one]
  · obtain ⟨n, hn⟩ : ∃ n : Nat, fpl x = -(n : Int) := ⟨(-fpl x).toNat, by omega⟩
    rw [fq_down x n hn, hn, show (-(n : Int)).toNat = 0 by omega, show (- -(n : Int)).toNat = n by omega, Nat.pow_zero, Nat.mul_one]
theorem log2_le {n k : Nat} (h : n < 2 ^ (k + 1)) : n.log2 ≤ k := by
  by_cases h0 : n = 0
  · subst h0; exact Nat.zero_le _
  · have h1 := Nat.log2_self_le h0
    rcases Nat.lt_or_ge k n.log2 with h2 | h2
    · exfalso
      have : (2 : Nat) ^ (k + 1) ≤ 2 ^ n.log2 := Nat.pow_le_pow_right (by decide) h2
      omega
    · exact h2
theorem fq_form (x : Nat) (h : frung x < 9218868437227405312) : ∃ M k, fq x = M * 2 ^ k ∧ M < 9007199254740992 ∧ (fq x).log2 ≤ 1023 := by
  have hm := fmag_lt x
  have hle : fpl x ≤ 971 := by
    have := fexp_le _ h
    unfold fpl; split <;> omega
  obtain ⟨K, hK⟩ : ∃ K : Nat, K = 1023 := ⟨_, rfl⟩
  rw [← hK]
  by_cases hp : 0 ≤ fpl x
  · obtain ⟨n, hn⟩ : ∃ n : Nat, fpl x = (n : Int) := ⟨(fpl x).toNat, by omega⟩
    refine ⟨fmag x, n, fq_up x n hn, hm, log2_le ?_⟩
    rw [fq_up x n hn]
    have h1 : fmag x * 2 ^ n < 9007199254740992 * 2 ^ n := Nat.mul_lt_mul_of_pos_right hm (Nat.two_pow_pos n)
    rw [← two53, ← Nat.pow_add] at h1
    exact Nat.lt_of_lt_of_le h1 (Nat.pow_le_pow_right (by decide) (by omega))
  · obtain ⟨n, hn⟩ : ∃ n : Nat, fpl x = -(n : Int) := ⟨(-fpl x).toNat, by omega⟩
    have h1 : fmag x / 2 ^ n ≤ fmag x := Nat.div_le_self _ _
    refine ⟨fq x, 0, by rw [Nat.pow_zero, Nat.mul_one], by rw [fq_down x n hn]; omega, log2_le ?_⟩
    rw [fq_down x n hn]
    have h2 : fmag x / 2 ^ n < 2 ^ 53 := by rw [two53]; omega
    exact Nat.lt_of_lt_of_le h2 (Nat.pow_le_pow_right (by decide) (by omega))
theorem trunc_facts (x : Nat) (h : frung x < 9218868437227405312) : frung (trunc x) < 9218868437227405312 ∧ fneg (trunc x) = fneg x ∧ fu (trunc x) = fq x * lowP := by
  obtain ⟨M, k, e, hM, hl⟩ := fq_form x h
  obtain ⟨h1, h2, h3, _⟩ := near_exact (fneg x) (fq x) M k e hM hl lowE rfl
  exact ⟨h1, h2, by rw [show trunc x = Ieee.double.nearest (fneg x) (fq x) 0 from rfl, h3, low_eq]⟩
theorem isN_of {x : Nat} (h : frung x < 9218868437227405312) : isN x = false := by
  unfold isN; rw [decide_eq_false (by omega)]
/-- How the whole part stands to the float. -/
theorem trunc_order (x : Nat) (h : frung x < 9218868437227405312) : ordI (Ieee.double.order (trunc x) x) = cmpI (sgn (fneg x) (fq x * lowP)) (sgn (fneg x) (fu x)) := by
  obtain ⟨h1, h2, h3⟩ := trunc_facts x h
  rw [order_fin _ _ h1 h, h2, h3, ordI_cmp]
theorem archTrunc_run (x : Nat) (w : World) (h : frung x < 9218868437227405312) : (callFunc 84 #[.float .f64 x]).run Tryd.prog w = .ok (.value (.float .f64 (trunc x))) w := by
  rw [run_callFunc_extern (e := Extern.MathFloor.toIntegral "math.archTrunc" .zero) Tryd.func84 (by kernel_rfl) (by kernel_rfl) (by kernel_rfl) (by kernel_rfl)]
  have e := read_num x h
  have e2 := integral_eq x h
  rw [e] at e2
  have e3 : FloatKind.f64.decode x = .number (fneg x) (fmag x) (fpl x) := e
  have e4 : FloatKind.f64.encode ((Ieee.Datum.number (fneg x) (fmag x) (fpl x)).integral .zero) = trunc x := by
    rw [e2]; rfl
  have e5 : (Extern.MathFloor.toIntegral "math.archTrunc" .zero #[.float .f64 x]).run Tryd.prog w = .ok (.float .f64 (trunc x)) w := by
    show Sem.run Tryd.prog (Go.Extern.MathFloor.toIntegral.match_1 (fun _ => Sem Value) (FloatKind.f64.decode x) _ _) w = _
    rw [e3, ← e4]
    rfl
  rw [e5]
  rfl
set_option maxRecDepth 100000 in
theorem trunc_any (x : Nat) (w : World) (h : frung x < 9218868437227405312) :
    Calls Tryd.prog 50 #[.float .f64 x] w fun e w' => e = .returned (.float .f64 (trunc x)) ∧ w' = w := by
  have hR := archTrunc_run x w h
  go_enter Tryd.func50, Tryd.ntmps50
  go_wp2
  go_ret
  exact ⟨rfl, rfl⟩
end Go.Proofs.YtfcoffllelgakaaDoor

namespace Go.Proofs.YtfcoffllelgakaaDoor
open Go.RowKit
set_option linter.unusedVariables false
set_option linter.unusedSimpArgs false

theorem bfc_bad {p : Bool} {xs : List Int} {x : Nat} (h : okB p xs = false) : bfc p xs x = 2 := by
  unfold bfc; rw [if_neg (fun e => by rw [h] at e; cases e.1)]
theorem bfc_nan {p : Bool} {xs : List Int} {x : Nat} (h : isN x = true) : bfc p xs x = 2 := by
  unfold bfc; rw [if_neg (fun e => by rw [h] at e; cases e.2)]
theorem bfc_inf {p : Bool} {xs : List Int} {x : Nat} (h : okB p xs = true) (hn : isN x = false) (hi : isI x = true) : bfc p xs x = if fneg x = true then 1 else -1 := by
  unfold bfc; rw [if_pos ⟨h, hn⟩, if_pos hi]
theorem bfc_fin {p : Bool} {xs : List Int} {x : Nat} (h : okB p xs = true) (hn : isN x = false) (hi : isI x = false) : bfc p xs x = cmpI (sgn p (val xs) * (lowP : Int)) (sgn (fneg x) (fu x)) := by
  unfold bfc; rw [if_pos ⟨h, hn⟩, if_neg (by rw [hi]; decide)]
end Go.Proofs.YtfcoffllelgakaaDoor

namespace Go.Proofs.YtfcoffllelgakaaDoor
open Go.RowKit
set_option linter.unusedVariables false
set_option linter.unusedSimpArgs false

theorem okB_lim (s : Bool) (n : Nat) (h : (lim n).length ≤ 128) : okB (nz s n) (lim n) = true := by
  unfold okB
  by_cases h0 : (lim n).length = 0
  · rw [if_pos h0]
    have : n = 0 := lim_eq_nil.1 (List.eq_nil_of_length_eq_zero h0)
    subst this
    unfold nz; simp
  · rw [if_neg h0, decide_eq_true h, Bool.true_and]
    have hn := lim_norm n
    rcases hn with hn | hn
    · exact absurd hn h0
    · rw [decide_eq_true hn]
theorem nz_self {p : Bool} {xs : List Int} (hz : Limbs xs) (h : okB p xs = true) : nz p (val xs) = p := by
  cases p with
  | false => rfl
  | true =>
    have := okB_pos hz h
    unfold nz; simp [this]
theorem cmpA_eq {p : Bool} {xs : List Int} (hz : Limbs xs) (h : okB p xs = true) (s : Bool) (n : Nat) (hn : (lim n).length ≤ 128) : cmpA p xs (nz s n) (lim n) = cmpI (sgn p (val xs)) (sgn s n) := by
  unfold cmpA
  rw [if_pos ⟨h, okB_lim s n hn⟩, val_lim, ← ordI_cmp, ← order_cmpR, nz_self hz h]
theorem inf_order (x : Nat) (hi : isI x = true) : ordI (Ieee.double.order 0 x) = if fneg x = true then 1 else -1 := by
  have h := of_decide_eq_true hi
  rw [order_num_inf 0 x (by decide) h]
  cases fneg x <;> rfl
theorem cmpI_b (a b : Int) : -1 ≤ cmpI a b ∧ cmpI a b ≤ 1 := by unfold cmpI; split <;> (try split) <;> omega
theorem bfc_b (p : Bool) (xs : List Int) (x : Nat) : -1 ≤ bfc p xs x ∧ bfc p xs x ≤ 2 := by
  unfold bfc
  split
  · split
    · split <;> omega
    · have := cmpI_b (sgn p (val xs) * (lowP : Int)) (sgn (fneg x) (fu x)); omega
  · omega
set_option maxHeartbeats 1000000 in
set_option maxRecDepth 100000 in
theorem bigFloatCmp_any (p : Bool) (v : Value) (xs : List Int) (x : Int) (aA : Addr) (w : World) (hx : Rd w v xs) (h0 : 0 ≤ x) (h1 : x ≤ 18446744073709551615) (hE : ErrA w aA) :
    Calls Tryd.prog 21 #[.agg #[.bool p, v], .int .u64 x] w fun e w' => e = .returned (.int .i64 (bfc p xs x.toNat)) ∧ Below w.heap.size w w' := by
  have hx' := hx
  obtain ⟨a, cap, rfl, _, hzx, hnx, hcx⟩ := hx
  clear hcx hnx
  have hF := frombits_run x
  have hN := fun W => isNan_any x.toNat W
  have hok := fun W h => bigOk_any p (.slice a xs.length cap) xs W h
  have hP := fun W h => wholePart_any x aA W h0 h1 h
  have bA := Box.new w (.bool p) (.slice a xs.length cap) 29
  have rx := hx'.alloc (Obj.cells #[.bool p, .slice a xs.length cap] 29)
  have hW := (Below.refl w.heap.size w).alloc (Nat.le_refl _) (Obj.cells #[.bool p, .slice a xs.length cap] 29)
  cases hoA : okB p xs with
  | false =>
    have HC : Hid (bfc p xs x.toNat = 2) := bfc_bad hoA
    rw [hoA] at hok
    clear hoA hx'
    go_enter Tryd.func21, Tryd.ntmps21
    go_wp2_with fail
    refine (hok _ rx).mono ?_
    rintro e w1 ⟨rfl, hB⟩
    replace hW := hW.trans (hB.mono hW.size)
    go_wp2
    go_ret
    exact ⟨by rw [HC.out]; rfl, hW⟩
  | true =>
    cases hn : isN x.toNat with
    | true =>
      have HC : Hid (bfc p xs x.toNat = 2) := bfc_nan hn
      rw [hoA] at hok
      rw [hn] at hN
      clear hoA hx' hn
      go_enter Tryd.func21, Tryd.ntmps21
      go_wp2_with fail
      refine (hok _ rx).mono ?_
      rintro e w1 ⟨rfl, hB⟩
      replace hW := hW.trans (hB.mono hW.size)
      go_wp2_with fail
      refine (hN _).mono ?_
      rintro e w2 ⟨rfl, rfl⟩
      go_wp2
      go_ret
      exact ⟨by rw [HC.out]; rfl, hW⟩
    | false =>
      cases hi : isI x.toNat with
      | true =>
        have hb : fbad x.toNat = true := by unfold fbad; rw [hi]; simp
        have hC := bfc_inf hoA hn hi
        rw [← inf_order _ hi] at hC
        have hQ := fun W => cmpF_any 0 x.toNat W (by decide) hn
        rw [← hC] at hQ
        obtain ⟨e1, e2, e3⟩ := fb_bad hb
        rw [hb, e1, e2] at hP
        simp only [if_true] at hP
        rw [hoA] at hok
        rw [hn] at hN
        obtain ⟨hR0, hR1⟩ := bfc_b p xs x.toNat
        clear hoA hx' hn hi hC e1 e2 e3 hb
        generalize bfc p xs x.toNat = R at hQ hR0 hR1 ⊢
        go_enter Tryd.func21, Tryd.ntmps21
        go_wp2_with fail
        refine (hok _ rx).mono ?_
        rintro e w1 ⟨rfl, hB⟩
        replace hW := hW.trans (hB.mono hW.size)
        go_wp2_with fail
        refine (hN _).mono ?_
        rintro e w2 ⟨rfl, rfl⟩
        go_wp2_with fail
        refine (hP _ (hE.below hW)).mono ?_
        rintro e w3 ⟨a3, c3, u3, rfl, rfl, o3, hB3⟩
        have hW3 := hW.trans (hB3.mono hW.size)
        clear hP
        go_wp2_with fail
        refine (hQ _).mono ?_
        rintro e w4 ⟨rfl, rfl⟩
        go_wp2
        go_ret
        exact ⟨rfl, hW3.alloc hW3.size _⟩
      | false =>
        have hlt := isN_lt hn hi
        have hb : fbad x.toNat = false := by unfold fbad; rw [hn, hi]; rfl
        have hC := bfc_fin hoA hn hi
        rw [split_cmp _ _ _ _ lowP_pos, show fu x.toNat / lowP = fq x.toNat from rfl, ← trunc_order _ hlt] at hC
        obtain ⟨e1, e2, e3⟩ := fb_good hb
        rw [hb, e1, e2] at hP
        simp only [Bool.false_eq_true, if_false] at hP
        have hql := fq_len hb
        have hD := fun u W h h2 => bigCmp_any p (nz (fneg x.toNat) (fq x.toNat)) (.slice a xs.length cap) u xs (lim (fq x.toNat)) W h h2
        rw [cmpA_eq hzx hoA (fneg x.toNat) (fq x.toNat) (by omega)] at hD
        have hTr := fun W => trunc_any x.toNat W hlt
        have hQ := fun W => cmpF_any (trunc x.toNat) x.toNat W (isN_of (trunc_facts _ hlt).1) hn
        obtain ⟨hR0, hR1⟩ := bfc_b p xs x.toNat
        rw [hoA] at hok
        rw [hn] at hN
        have hcb := cmpI_b (sgn p (val xs)) (sgn (fneg x.toNat) (fq x.toNat))
        clear hoA hn hi e1 e2 e3 hb hql hlt
        generalize bfc p xs x.toNat = R at hC hR0 hR1 ⊢
        generalize cmpI (sgn p (val xs)) (sgn (fneg x.toNat) (fq x.toNat)) = c1 at hC hD hcb
        generalize ordI (Ieee.double.order (trunc x.toNat) x.toNat) = c2 at hC hQ
        generalize trunc x.toNat = tr at hTr hQ
        generalize nz (fneg x.toNat) (fq x.toNat) = sg at hP hD
        generalize lim (fq x.toNat) = Q at hP hD
        by_cases hc : c1 = 0
        · subst hc
          rw [if_neg (by decide)] at hC
          subst hC
          go_enter Tryd.func21, Tryd.ntmps21
          go_wp2_with fail
          refine (hok _ rx).mono ?_
          rintro e w1 ⟨rfl, hB⟩
          replace hW := hW.trans (hB.mono hW.size)
          replace rx := rx.keep hB
          replace bA := bA.keep hB
          obtain ⟨-, k0, k1⟩ := id bA
          go_wp2_with fail
          refine (hN _).mono ?_
          rintro e w2 ⟨rfl, rfl⟩
          go_wp2_with fail
          refine (hP _ (hE.below hW)).mono ?_
          rintro e w3 ⟨a3, c3, u3, rfl, rfl, o3, hB3⟩
          have hW3 := hW.trans (hB3.mono hW.size)
          have hW4 := hW3.alloc hW3.size (Obj.cells #[.bool sg, .slice a3 Q.length c3] 29)
          have r4 := (rx.keep hB3).alloc (Obj.cells #[.bool sg, .slice a3 Q.length c3] 29)
          have o4 := o3.alloc (Obj.cells #[.bool sg, .slice a3 Q.length c3] 29)
          have b4 := (bA.keep hB3).alloc (Obj.cells #[.bool sg, .slice a3 Q.length c3] 29)
          have g4 := Box.new w3 (.bool sg) (.slice a3 Q.length c3) 29
          obtain ⟨-, m0, m1⟩ := id b4
          obtain ⟨-, n0, n1⟩ := id g4
          clear hP hok hN
          go_wp2_with fail
          refine (hD _ _ r4 o4.rd).mono ?_
          rintro e w5 ⟨rfl, hB5⟩
          have hW5 := hW4.trans (hB5.mono hW4.size)
          clear hD
          go_wp2_with fail
          refine (hTr _).mono ?_
          rintro e w6 ⟨rfl, rfl⟩
          go_wp2_with fail
          refine (hQ _).mono ?_
          rintro e w7 ⟨rfl, rfl⟩
          go_wp2
          go_ret
          exact ⟨rfl, hW5⟩
        · rw [if_pos hc] at hC
          subst hC
          have hcn : (R != 0) = true := by simpa using hc
          go_enter Tryd.func21, Tryd.ntmps21
          go_wp2_with fail
          refine (hok _ rx).mono ?_
          rintro e w1 ⟨rfl, hB⟩
          replace hW := hW.trans (hB.mono hW.size)
          replace rx := rx.keep hB
          replace bA := bA.keep hB
          obtain ⟨-, k0, k1⟩ := id bA
          go_wp2_with fail
          refine (hN _).mono ?_
          rintro e w2 ⟨rfl, rfl⟩
          go_wp2_with fail
          refine (hP _ (hE.below hW)).mono ?_
          rintro e w3 ⟨a3, c3, u3, rfl, rfl, o3, hB3⟩
          have hW3 := hW.trans (hB3.mono hW.size)
          have hW4 := hW3.alloc hW3.size (Obj.cells #[.bool sg, .slice a3 Q.length c3] 29)
          have r4 := (rx.keep hB3).alloc (Obj.cells #[.bool sg, .slice a3 Q.length c3] 29)
          have o4 := o3.alloc (Obj.cells #[.bool sg, .slice a3 Q.length c3] 29)
          have b4 := (bA.keep hB3).alloc (Obj.cells #[.bool sg, .slice a3 Q.length c3] 29)
          have g4 := Box.new w3 (.bool sg) (.slice a3 Q.length c3) 29
          obtain ⟨-, m0, m1⟩ := id b4
          obtain ⟨-, n0, n1⟩ := id g4
          clear hP hok hN
          go_wp2_with fail
          refine (hD _ _ r4 o4.rd).mono ?_
          rintro e w5 ⟨rfl, hB5⟩
          have hW5 := hW4.trans (hB5.mono hW4.size)
          clear hD
          go_wp2
          go_ret
          exact ⟨rfl, hW5⟩
end Go.Proofs.YtfcoffllelgakaaDoor
