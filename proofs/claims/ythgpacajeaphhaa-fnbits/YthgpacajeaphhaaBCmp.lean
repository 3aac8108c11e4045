import Derived.Test.YthgpacajeaphhaaCmpR
import Derived.Test.YthgpacajeaphhaaSum
import Derived.Test.YthgpacajeaphhaaFit
import Derived.Test.YthgpacajeaphhaaOk
import Derived.Deep.RegionHeld3
namespace Go.Proofs.Ythgpacajeaphhaa
open Go.RowKit
set_option linter.unusedVariables false
set_option linter.unusedSimpArgs false

set_option maxHeartbeats 1000000 in
set_option maxRecDepth 100000 in
theorem bigCmp_any (p q : Bool) (v u : Value) (xs ys : List Int) (w : World) (hx : Rd w v xs) (hy : Rd w u ys) :
    Calls Try.prog 15 #[.agg #[.bool p, v], .agg #[.bool q, u]] w fun e w' => e = .returned (.int .i64 (cmpA p xs q ys)) ∧ Below w.heap.size w w' := by
  have hx' := hx
  have hy' := hy
  obtain ⟨a, cap, rfl, _, hzx, hnx, hcx⟩ := hx
  obtain ⟨a', cap', rfl, _, hzy, hny, hcy⟩ := hy
  clear hcx hcy hnx hny
  have bA := (Box.new w (.bool p) (.slice a xs.length cap) 26).alloc (Obj.cells #[.bool q, .slice a' ys.length cap'] 26)
  have bB := Box.new (w.alloc (Obj.cells #[.bool p, .slice a xs.length cap] 26)) (.bool q) (.slice a' ys.length cap') 26
  have rx := (hx'.alloc (Obj.cells #[.bool p, .slice a xs.length cap] 26)).alloc (Obj.cells #[.bool q, .slice a' ys.length cap'] 26)
  have ry := (hy'.alloc (Obj.cells #[.bool p, .slice a xs.length cap] 26)).alloc (Obj.cells #[.bool q, .slice a' ys.length cap'] 26)
  have hW := ((Below.refl w.heap.size w).alloc (Nat.le_refl _) (Obj.cells #[.bool p, .slice a xs.length cap] 26)).alloc (by simp) (Obj.cells #[.bool q, .slice a' ys.length cap'] 26)
  have fA := ((Unf.new w #[.bool p, .slice a xs.length cap] 26).keep ((Below.refl _ _).alloc (Nat.le_refl _) (Obj.cells #[.bool q, .slice a' ys.length cap'] 26)))
  have fB := (Unf.new (w.alloc (Obj.cells #[.bool p, .slice a xs.length cap] 26)) #[.bool q, .slice a' ys.length cap'] 26)
  simp only [World.size_alloc] at bB fB
  cases hoA : okB p xs with
  | false =>
    have HC : Hid (cmpA p xs q ys = 2) := by unfold cmpA; exact if_neg (by rw [hoA]; simp)
    have hokA := fun W h => bigOk_any p (.slice a xs.length cap) xs W h
    rw [hoA] at hokA
    clear hoA hx' hy'
    go_enter Try.func15, Try.ntmps15
    go_wp2_with fail
    refine (hokA _ rx).mono ?_
    rintro e w1 ⟨rfl, hB⟩
    replace hW := hW.trans (hB.mono hW.size)
    replace bA := bA.keep hB
    replace bB := bB.keep hB
    replace fA := fA.keep hB
    replace fB := fB.keep hB
    replace rx := rx.keep hB
    replace ry := ry.keep hB
    clear hB
    obtain ⟨-, k0, k1⟩ := id bA
    obtain ⟨-, k2, k3⟩ := id bB
    go_wp2
    go_ret
    exact ⟨by rw [HC.out]; rfl, hW⟩
  | true =>
    cases hoB : okB q ys with
    | false =>
      have HC : Hid (cmpA p xs q ys = 2) := by unfold cmpA; exact if_neg (by rw [hoB]; simp)
      have hokA := fun W h => bigOk_any p (.slice a xs.length cap) xs W h
      rw [hoA] at hokA
      have hokB := fun W h => bigOk_any q (.slice a' ys.length cap') ys W h
      rw [hoB] at hokB
      clear hoA hoB hx' hy'
      go_enter Try.func15, Try.ntmps15
      go_wp2_with fail
      refine (hokA _ rx).mono ?_
      rintro e w1 ⟨rfl, hB⟩
      replace hW := hW.trans (hB.mono hW.size)
      replace bA := bA.keep hB
      replace bB := bB.keep hB
      replace fA := fA.keep hB
      replace fB := fB.keep hB
      replace rx := rx.keep hB
      replace ry := ry.keep hB
      clear hB
      obtain ⟨-, k0, k1⟩ := id bA
      obtain ⟨-, k2, k3⟩ := id bB
      go_wp2_with fail
      refine (hokB _ ry).mono ?_
      rintro e w2 ⟨rfl, hB⟩
      clear k0 k1 k2 k3
      replace hW := hW.trans (hB.mono hW.size)
      replace bA := bA.keep hB
      replace bB := bB.keep hB
      replace fA := fA.keep hB
      replace fB := fB.keep hB
      replace rx := rx.keep hB
      replace ry := ry.keep hB
      clear hB
      obtain ⟨-, k0, k1⟩ := id bA
      obtain ⟨-, k2, k3⟩ := id bB
      go_wp2
      go_ret
      exact ⟨by rw [HC.out]; rfl, hW⟩
    | true =>
      have HC : Hid (cmpA p xs q ys = cmpR p (val xs) q (val ys)) := by unfold cmpA; exact if_pos ⟨hoA, hoB⟩
      have hnA := okB_norm hoA
      have hnB := okB_norm hoB
      have hpA : p = true → 0 < val xs := fun e => by subst e; exact okB_pos hzx hoA
      have hpB : q = true → 0 < val ys := fun e => by subst e; exact okB_pos hzy hoB
      have hokA := fun W h => bigOk_any p (.slice a xs.length cap) xs W h
      rw [hoA] at hokA
      have hokB := fun W h => bigOk_any q (.slice a' ys.length cap') ys W h
      rw [hoB] at hokB
      clear hoA hoB
      have hCA := fun W h1 h2 => compare_any (.slice a xs.length cap) (.slice a' ys.length cap') xs ys W h1 h2 hnA.1 hnB.1
      have hCB := fun W h1 h2 => compare_any (.slice a' ys.length cap') (.slice a xs.length cap) ys xs W h1 h2 hnB.1 hnA.1
      by_cases hpq : p = q
      · subst hpq
        cases p with
        | true =>
          have HR : Hid (cmpA true xs true ys = cmpN (val ys) (val xs)) := HC.out
          generalize cmpA true xs true ys = r at HR ⊢
          generalize cmpN (val ys) (val xs) = cn at HR hCB
          clear HC hpA hpB hnA hnB hCA
          go_enter Try.func15, Try.ntmps15
          go_wp2_with fail
          refine (hokA _ rx).mono ?_
          rintro e w1 ⟨rfl, hB⟩
          replace hW := hW.trans (hB.mono hW.size)
          replace bA := bA.keep hB
          replace bB := bB.keep hB
          replace fA := fA.keep hB
          replace fB := fB.keep hB
          replace rx := rx.keep hB
          replace ry := ry.keep hB
          clear hB
          obtain ⟨-, k0, k1⟩ := id bA
          obtain ⟨-, k2, k3⟩ := id bB
          go_wp2_with fail
          refine (hokB _ ry).mono ?_
          rintro e w2 ⟨rfl, hB⟩
          clear k0 k1 k2 k3
          replace hW := hW.trans (hB.mono hW.size)
          replace bA := bA.keep hB
          replace bB := bB.keep hB
          replace fA := fA.keep hB
          replace fB := fB.keep hB
          replace rx := rx.keep hB
          replace ry := ry.keep hB
          clear hB
          obtain ⟨-, k0, k1⟩ := id bA
          obtain ⟨-, k2, k3⟩ := id bB
          clear hokA hokB
          have fa := fA.2 0
          have fb := fA.2 1
          have fc := fB.2 0
          have fd := fB.2 1
          go_wp2_with fail
          have hW9 := (((hW.setCell (p := ⟨w.heap.size, 0, none⟩) (Nat.le_refl _) (.bool true)).setCell (p := ⟨w.heap.size, 1, none⟩) (Nat.le_refl _) (.slice a' ys.length cap')).setCell (p := ⟨w.heap.size + 1, 0, none⟩) (Nat.le_succ _) (.bool true)).setCell (p := ⟨w.heap.size + 1, 1, none⟩) (Nat.le_succ _) (.slice a xs.length cap)
          refine (hCB _ (hy'.keep hW9) (hx'.keep hW9)).mono ?_
          rintro e w3 ⟨rfl, hB⟩
          go_wp2
          go_ret
          exact ⟨by rw [HR.out]; rfl, hW9.trans (hB.mono hW9.size)⟩
        | false =>
          have HR : Hid (cmpA false xs false ys = cmpN (val xs) (val ys)) := HC.out
          generalize cmpA false xs false ys = r at HR ⊢
          generalize cmpN (val xs) (val ys) = cn at HR hCA
          clear HC hpA hpB hnA hnB hCB
          go_enter Try.func15, Try.ntmps15
          go_wp2_with fail
          refine (hokA _ rx).mono ?_
          rintro e w1 ⟨rfl, hB⟩
          replace hW := hW.trans (hB.mono hW.size)
          replace bA := bA.keep hB
          replace bB := bB.keep hB
          replace fA := fA.keep hB
          replace fB := fB.keep hB
          replace rx := rx.keep hB
          replace ry := ry.keep hB
          clear hB
          obtain ⟨-, k0, k1⟩ := id bA
          obtain ⟨-, k2, k3⟩ := id bB
          go_wp2_with fail
          refine (hokB _ ry).mono ?_
          rintro e w2 ⟨rfl, hB⟩
          clear k0 k1 k2 k3
          replace hW := hW.trans (hB.mono hW.size)
          replace bA := bA.keep hB
          replace bB := bB.keep hB
          replace fA := fA.keep hB
          replace fB := fB.keep hB
          replace rx := rx.keep hB
          replace ry := ry.keep hB
          clear hB
          obtain ⟨-, k0, k1⟩ := id bA
          obtain ⟨-, k2, k3⟩ := id bB
          clear hokA hokB
          go_wp2_with fail
          refine (hCA _ rx ry).mono ?_
          rintro e w3 ⟨rfl, hB⟩
          go_wp2
          go_ret
          exact ⟨by rw [HR.out]; rfl, hW.trans (hB.mono hW.size)⟩
      · have HR : Hid (cmpA p xs q ys = if p = true then -1 else 1) := by
          show _ = _
          rw [HC.out]; unfold cmpR; rw [if_neg hpq]
        generalize cmpA p xs q ys = r at HR ⊢
        have hpqb : (p == q) = false := by cases p <;> cases q <;> simp_all
        clear HC hpA hpB hnA hnB hCA hCB hpq
        cases p with
        | true =>
          go_enter Try.func15, Try.ntmps15
          go_wp2_with fail
          refine (hokA _ rx).mono ?_
          rintro e w1 ⟨rfl, hB⟩
          replace hW := hW.trans (hB.mono hW.size)
          replace bA := bA.keep hB
          replace bB := bB.keep hB
          replace fA := fA.keep hB
          replace fB := fB.keep hB
          replace rx := rx.keep hB
          replace ry := ry.keep hB
          clear hB
          obtain ⟨-, k0, k1⟩ := id bA
          obtain ⟨-, k2, k3⟩ := id bB
          go_wp2_with fail
          refine (hokB _ ry).mono ?_
          rintro e w2 ⟨rfl, hB⟩
          clear k0 k1 k2 k3
          replace hW := hW.trans (hB.mono hW.size)
          replace bA := bA.keep hB
          replace bB := bB.keep hB
          replace fA := fA.keep hB
          replace fB := fB.keep hB
          replace rx := rx.keep hB
          replace ry := ry.keep hB
          clear hB
          obtain ⟨-, k0, k1⟩ := id bA
          obtain ⟨-, k2, k3⟩ := id bB
          clear hokA hokB
          go_wp2
          go_ret
          exact ⟨by rw [HR.out]; rfl, hW⟩
        | false =>
          go_enter Try.func15, Try.ntmps15
          go_wp2_with fail
          refine (hokA _ rx).mono ?_
          rintro e w1 ⟨rfl, hB⟩
          replace hW := hW.trans (hB.mono hW.size)
          replace bA := bA.keep hB
          replace bB := bB.keep hB
          replace fA := fA.keep hB
          replace fB := fB.keep hB
          replace rx := rx.keep hB
          replace ry := ry.keep hB
          clear hB
          obtain ⟨-, k0, k1⟩ := id bA
          obtain ⟨-, k2, k3⟩ := id bB
          go_wp2_with fail
          refine (hokB _ ry).mono ?_
          rintro e w2 ⟨rfl, hB⟩
          clear k0 k1 k2 k3
          replace hW := hW.trans (hB.mono hW.size)
          replace bA := bA.keep hB
          replace bB := bB.keep hB
          replace fA := fA.keep hB
          replace fB := fB.keep hB
          replace rx := rx.keep hB
          replace ry := ry.keep hB
          clear hB
          obtain ⟨-, k0, k1⟩ := id bA
          obtain ⟨-, k2, k3⟩ := id bB
          clear hokA hokB
          go_wp2
          go_ret
          exact ⟨by rw [HR.out]; rfl, hW⟩
end Go.Proofs.Ythgpacajeaphhaa
