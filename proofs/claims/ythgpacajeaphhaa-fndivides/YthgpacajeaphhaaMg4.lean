import Derived.Test.YthgpacajeaphhaaMg1
import Derived.Test.YthgpacajeaphhaaRPow
import Derived.Test.YthgpacajeaphhaaCmpR
import Derived.Test.YthgpacajeaphhaaCut
import Derived.Deep.RegionHeld3
import Derived.Test.YthgpacajeaphhaaFit
import Derived.Test.YthgpacajeaphhaaLimOne
import Derived.Deep.CutRange
namespace Go.Proofs.Ythgpacajeaphhaa
open Go.RowKit
set_option linter.unusedVariables false
set_option linter.unusedSimpArgs false

/-- The quotient toward below, and its rest, without their signs. -/
def flQ (p : Bool) (X : Nat) (t : Bool) (Y : Nat) : Nat := if p ≠ t ∧ X % Y ≠ 0 then X / Y + 1 else X / Y
def flR (p : Bool) (X : Nat) (t : Bool) (Y : Nat) : Nat := if p ≠ t ∧ X % Y ≠ 0 then Y - X % Y else X % Y

end Go.Proofs.Ythgpacajeaphhaa

namespace Go.Proofs.Ythgpacajeaphhaa
open Go.RowKit
set_option linter.unusedVariables false
set_option linter.unusedSimpArgs false

/-- Two rows that share no block. -/
def Apart (v u : Value) : Prop := (v.ownBlock = none ∨ v.ownBlock ≠ u.ownBlock) ∧ (u.ownBlock = none ∨ u.ownBlock ≠ v.ownBlock)
theorem Apart.of {v u : Value} {a b c d : Nat} (hv : ∀ k, v.ownBlock = some k → a ≤ k ∧ k < b) (hu : ∀ k, u.ownBlock = some k → c ≤ k ∧ k < d) (h : b ≤ c) : Apart v u := ⟨ob_ne hv hu (.inl h), ob_ne hu hv (.inr h)⟩
theorem Apart.nil : Apart (.slice none 0 0) (.slice none 0 0) := ⟨.inl rfl, .inl rfl⟩

set_option maxHeartbeats 1000000 in
set_option maxRecDepth 100000 in
theorem signed_gen (neg : Bool) (B n cap : Nat) (A0 : Option Addr) (zs : List Int) (N : Nat) (w : World) (hO : Own w B (.slice A0 n cap) zs) (hN : val zs = N) (hBw : B ≤ w.heap.size) :
    Calls Try.prog 31 #[.bool neg, .slice A0 n cap] w fun e w' => ∃ a c, e = .returned (.tuple #[.agg #[.bool (fitS neg N), .slice a (fitL N).length c], .int .i64 (fitC N)]) ∧ (∀ W B, Own W B (.slice A0 n cap) zs → Own W B (.slice a (fitL N).length c) (fitL N)) ∧ Below w.heap.size w w' := by
  have hT := trimmed_gen B n cap A0 zs (w.alloc (Obj.cells #[.bool false, .slice none 0 0] 26)) (hO.alloc _)
  rw [hN] at hT
  by_cases hf : (lim N).length ≤ 128
  · obtain ⟨e1, e2, e3⟩ := fit_yes hf neg
    rw [e1, e2, e3, nz_len]
    clear e1 e2 e3
    generalize lim N = L at hT hf ⊢
    go_enter Try.func31, Try.ntmps31
    go_wp2_with fail
    refine hT.mono ?_
    rintro e w1 ⟨a1, c1, rfl, hO1, rfl⟩
    clear hT
    cases neg with
    | true =>
      go_wp2
      refine bodyPost_ret (v := .tuple #[.agg #[.bool (decide (0 < (L.length : Int))), .slice a1 L.length c1], .int .i64 0]) (by simp [results, Try.results31, go_sem]) rfl ⟨a1, c1, by simp, ?_, ?_⟩
      · exact hO1
      · exact (Below.refl _ _).alloc (Nat.le_refl _) _
    | false =>
      go_wp2
      refine bodyPost_ret (v := .tuple #[.agg #[.bool false, .slice a1 L.length c1], .int .i64 0]) (by simp [results, Try.results31, go_sem]) rfl ⟨a1, c1, by simp, ?_, ?_⟩
      · exact hO1
      · exact (Below.refl _ _).alloc (Nat.le_refl _) _
  · obtain ⟨e1, e2, e3⟩ := fit_no hf neg
    rw [e1, e2, e3]
    clear e1 e2 e3
    generalize lim N = L at hT hf
    go_enter Try.func31, Try.ntmps31
    go_wp2_with fail
    refine hT.mono ?_
    rintro e w1 ⟨a1, c1, rfl, hO1, rfl⟩
    clear hT
    go_wp2
    refine bodyPost_ret (v := .tuple #[.agg #[.bool false, .slice none 0 0], .int .i64 3]) (by simp [results, Try.results31, go_sem]) rfl ⟨none, 0, by simp, ?_, ?_⟩
    · exact fun _ _ _ => Own.nil _ _
    · exact (Below.refl _ _).alloc (Nat.le_refl _) _

end Go.Proofs.Ythgpacajeaphhaa

namespace Go.Proofs.Ythgpacajeaphhaa
open Go.RowKit
set_option linter.unusedVariables false
set_option linter.unusedSimpArgs false

set_option maxHeartbeats 4000000 in
set_option maxRecDepth 100000 in
theorem dm_impl_a (p q : Bool) (v u : Value) (xs ys : List Int) (w : World) (hx : Rd w v xs) (hy : Rd w u ys) (hoA : okB p xs = false) :
    Calls Try.prog 17 #[.agg #[.bool p, v], .agg #[.bool q, u]] w fun e w' => ∃ a c a' c', e = .returned (.tuple #[.agg #[.bool false, .slice a (([] : List Int)).length c], .agg #[.bool false, .slice a' (([] : List Int)).length c'], .int .i64 1]) ∧ Own w' w.heap.size (.slice a (([] : List Int)).length c) (([] : List Int)) ∧ Own w' w.heap.size (.slice a' (([] : List Int)).length c') (([] : List Int)) ∧ Apart (.slice a (([] : List Int)).length c) (.slice a' (([] : List Int)).length c') ∧ Below w.heap.size w w' := by
  have hx' := hx
  have hy' := hy
  obtain ⟨a, cap, rfl, _, hzx, hnx, hcx⟩ := hx
  obtain ⟨a', cap', rfl, _, hzy, hny, hcy⟩ := hy
  clear hcx hcy hnx hny
  have bA := (((Box.new w (.bool p) (.slice a xs.length cap) 26).alloc (Obj.cells #[.bool q, .slice a' ys.length cap'] 26)).alloc (Obj.cells #[.bool false, .slice none 0 0] 26)).alloc (Obj.cells #[.bool false, .slice none 0 0] 26)
  have bB := ((Box.new (w.alloc (Obj.cells #[.bool p, .slice a xs.length cap] 26)) (.bool q) (.slice a' ys.length cap') 26).alloc (Obj.cells #[.bool false, .slice none 0 0] 26)).alloc (Obj.cells #[.bool false, .slice none 0 0] 26)
  have rx := (((hx'.alloc (Obj.cells #[.bool p, .slice a xs.length cap] 26)).alloc (Obj.cells #[.bool q, .slice a' ys.length cap'] 26)).alloc (Obj.cells #[.bool false, .slice none 0 0] 26)).alloc (Obj.cells #[.bool false, .slice none 0 0] 26)
  have ry := (((hy'.alloc (Obj.cells #[.bool p, .slice a xs.length cap] 26)).alloc (Obj.cells #[.bool q, .slice a' ys.length cap'] 26)).alloc (Obj.cells #[.bool false, .slice none 0 0] 26)).alloc (Obj.cells #[.bool false, .slice none 0 0] 26)
  have hW := ((((Below.refl w.heap.size w).alloc (Nat.le_refl _) (Obj.cells #[.bool p, .slice a xs.length cap] 26)).alloc (by simp) (Obj.cells #[.bool q, .slice a' ys.length cap'] 26)).alloc (by simp; omega) (Obj.cells #[.bool false, .slice none 0 0] 26)).alloc (by simp; omega) (Obj.cells #[.bool false, .slice none 0 0] 26)
  have bR := (Box.new ((w.alloc (Obj.cells #[.bool p, .slice a xs.length cap] 26)).alloc (Obj.cells #[.bool q, .slice a' ys.length cap'] 26)) (.bool false) (.slice none 0 0) 26).alloc (Obj.cells #[.bool false, .slice none 0 0] 26)
  have fR := (Unf.new ((w.alloc (Obj.cells #[.bool p, .slice a xs.length cap] 26)).alloc (Obj.cells #[.bool q, .slice a' ys.length cap'] 26)) #[.bool false, .slice none 0 0] 26).keep ((Below.refl _ _).alloc (Nat.le_refl _) (Obj.cells #[.bool false, .slice none 0 0] 26))
  have bT := Box.new (((w.alloc (Obj.cells #[.bool p, .slice a xs.length cap] 26)).alloc (Obj.cells #[.bool q, .slice a' ys.length cap'] 26)).alloc (Obj.cells #[.bool false, .slice none 0 0] 26)) (.bool false) (.slice none 0 0) 26
  have fT := Unf.new (((w.alloc (Obj.cells #[.bool p, .slice a xs.length cap] 26)).alloc (Obj.cells #[.bool q, .slice a' ys.length cap'] 26)).alloc (Obj.cells #[.bool false, .slice none 0 0] 26)) #[.bool false, .slice none 0 0] 26
  simp only [World.size_alloc] at bB bR fR bT fT
  clear hx' hy'
  have hokA := fun W h => bigOk_any p (.slice a xs.length cap) xs W h
  rw [hoA] at hokA
  clear hoA
  have d1 : ¬ (w.heap.size + 1 + 1 = w.heap.size + 1 + 1 + 1) := by omega
  have d2 : ¬ (w.heap.size + 1 + 1 + 1 = w.heap.size + 1 + 1) := by omega
  go_enter Try.func17, Try.ntmps17
  go_wp2_with fail
  refine (hokA _ rx).mono ?_
  rintro e w1 ⟨rfl, hB⟩
  clear hokA
  replace hW := hW.trans (hB.mono hW.size)
  replace bA := bA.keep hB
  replace bB := bB.keep hB
  replace rx := rx.keep hB
  replace ry := ry.keep hB
  replace bR := bR.keep hB
  replace fR := fR.keep hB
  replace bT := bT.keep hB
  replace fT := fT.keep hB
  clear hB
  obtain ⟨-, k0, k1⟩ := id bA
  obtain ⟨-, k2, k3⟩ := id bB
  obtain ⟨hzr, r0, r1⟩ := id bR
  obtain ⟨-, hfr⟩ := id fR
  obtain ⟨hzt, t0, t1⟩ := id bT
  obtain ⟨-, hft⟩ := id fT
  go_wp2
  refine bodyPost_ret (v := .tuple #[.agg #[.bool false, .slice none 0 0], .agg #[.bool false, .slice none 0 0], .int .i64 1]) (by simp [results, Try.results17, go_sem, r0, r1, hzr, t0, t1, hzt, d1, d2]) rfl ⟨none, 0, none, 0, rfl, Own.nil _ _, Own.nil _ _, Apart.nil, ?_⟩
  exact (((hW.setCell (by show w.heap.size ≤ w.heap.size + 1 + 1; omega) _).setCell (by show w.heap.size ≤ w.heap.size + 1 + 1; omega) _).setCell (by show w.heap.size ≤ w.heap.size + 1 + 1 + 1; omega) _).setCell (by show w.heap.size ≤ w.heap.size + 1 + 1 + 1; omega) _

set_option maxHeartbeats 4000000 in
set_option maxRecDepth 100000 in
theorem dm_impl_b (p q : Bool) (v u : Value) (xs ys : List Int) (w : World) (hx : Rd w v xs) (hy : Rd w u ys) (hoA : okB p xs = true) (hoB : okB q ys = false) :
    Calls Try.prog 17 #[.agg #[.bool p, v], .agg #[.bool q, u]] w fun e w' => ∃ a c a' c', e = .returned (.tuple #[.agg #[.bool false, .slice a (([] : List Int)).length c], .agg #[.bool false, .slice a' (([] : List Int)).length c'], .int .i64 1]) ∧ Own w' w.heap.size (.slice a (([] : List Int)).length c) (([] : List Int)) ∧ Own w' w.heap.size (.slice a' (([] : List Int)).length c') (([] : List Int)) ∧ Apart (.slice a (([] : List Int)).length c) (.slice a' (([] : List Int)).length c') ∧ Below w.heap.size w w' := by
  have hx' := hx
  have hy' := hy
  obtain ⟨a, cap, rfl, _, hzx, hnx, hcx⟩ := hx
  obtain ⟨a', cap', rfl, _, hzy, hny, hcy⟩ := hy
  clear hcx hcy hnx hny
  have bA := (((Box.new w (.bool p) (.slice a xs.length cap) 26).alloc (Obj.cells #[.bool q, .slice a' ys.length cap'] 26)).alloc (Obj.cells #[.bool false, .slice none 0 0] 26)).alloc (Obj.cells #[.bool false, .slice none 0 0] 26)
  have bB := ((Box.new (w.alloc (Obj.cells #[.bool p, .slice a xs.length cap] 26)) (.bool q) (.slice a' ys.length cap') 26).alloc (Obj.cells #[.bool false, .slice none 0 0] 26)).alloc (Obj.cells #[.bool false, .slice none 0 0] 26)
  have rx := (((hx'.alloc (Obj.cells #[.bool p, .slice a xs.length cap] 26)).alloc (Obj.cells #[.bool q, .slice a' ys.length cap'] 26)).alloc (Obj.cells #[.bool false, .slice none 0 0] 26)).alloc (Obj.cells #[.bool false, .slice none 0 0] 26)
  have ry := (((hy'.alloc (Obj.cells #[.bool p, .slice a xs.length cap] 26)).alloc (Obj.cells #[.bool q, .slice a' ys.length cap'] 26)).alloc (Obj.cells #[.bool false, .slice none 0 0] 26)).alloc (Obj.cells #[.bool false, .slice none 0 0] 26)
  have hW := ((((Below.refl w.heap.size w).alloc (Nat.le_refl _) (Obj.cells #[.bool p, .slice a xs.length cap] 26)).alloc (by simp) (Obj.cells #[.bool q, .slice a' ys.length cap'] 26)).alloc (by simp; omega) (Obj.cells #[.bool false, .slice none 0 0] 26)).alloc (by simp; omega) (Obj.cells #[.bool false, .slice none 0 0] 26)
  have bR := (Box.new ((w.alloc (Obj.cells #[.bool p, .slice a xs.length cap] 26)).alloc (Obj.cells #[.bool q, .slice a' ys.length cap'] 26)) (.bool false) (.slice none 0 0) 26).alloc (Obj.cells #[.bool false, .slice none 0 0] 26)
  have fR := (Unf.new ((w.alloc (Obj.cells #[.bool p, .slice a xs.length cap] 26)).alloc (Obj.cells #[.bool q, .slice a' ys.length cap'] 26)) #[.bool false, .slice none 0 0] 26).keep ((Below.refl _ _).alloc (Nat.le_refl _) (Obj.cells #[.bool false, .slice none 0 0] 26))
  have bT := Box.new (((w.alloc (Obj.cells #[.bool p, .slice a xs.length cap] 26)).alloc (Obj.cells #[.bool q, .slice a' ys.length cap'] 26)).alloc (Obj.cells #[.bool false, .slice none 0 0] 26)) (.bool false) (.slice none 0 0) 26
  have fT := Unf.new (((w.alloc (Obj.cells #[.bool p, .slice a xs.length cap] 26)).alloc (Obj.cells #[.bool q, .slice a' ys.length cap'] 26)).alloc (Obj.cells #[.bool false, .slice none 0 0] 26)) #[.bool false, .slice none 0 0] 26
  simp only [World.size_alloc] at bB bR fR bT fT
  clear hx' hy'
  have hokA := fun W h => bigOk_any p (.slice a xs.length cap) xs W h
  rw [hoA] at hokA
  have hokB := fun W h => bigOk_any q (.slice a' ys.length cap') ys W h
  rw [hoB] at hokB
  clear hoA hoB
  have d1 : ¬ (w.heap.size + 1 + 1 = w.heap.size + 1 + 1 + 1) := by omega
  have d2 : ¬ (w.heap.size + 1 + 1 + 1 = w.heap.size + 1 + 1) := by omega
  go_enter Try.func17, Try.ntmps17
  go_wp2_with fail
  refine (hokA _ rx).mono ?_
  rintro e w1 ⟨rfl, hB⟩
  clear hokA
  replace hW := hW.trans (hB.mono hW.size)
  replace bA := bA.keep hB
  replace bB := bB.keep hB
  replace rx := rx.keep hB
  replace ry := ry.keep hB
  replace bR := bR.keep hB
  replace fR := fR.keep hB
  replace bT := bT.keep hB
  replace fT := fT.keep hB
  clear hB
  obtain ⟨-, k0, k1⟩ := id bA
  obtain ⟨-, k2, k3⟩ := id bB
  obtain ⟨hzr, r0, r1⟩ := id bR
  obtain ⟨-, hfr⟩ := id fR
  obtain ⟨hzt, t0, t1⟩ := id bT
  obtain ⟨-, hft⟩ := id fT
  go_wp2_with fail
  refine (hokB _ ry).mono ?_
  rintro e w2 ⟨rfl, hB⟩
  clear hokB
  clear k0 k1 k2 k3 r0 r1 hzr hfr t0 t1 hzt hft
  replace hW := hW.trans (hB.mono hW.size)
  replace bA := bA.keep hB
  replace bB := bB.keep hB
  replace rx := rx.keep hB
  replace ry := ry.keep hB
  replace bR := bR.keep hB
  replace fR := fR.keep hB
  replace bT := bT.keep hB
  replace fT := fT.keep hB
  clear hB
  obtain ⟨-, k0, k1⟩ := id bA
  obtain ⟨-, k2, k3⟩ := id bB
  obtain ⟨hzr, r0, r1⟩ := id bR
  obtain ⟨-, hfr⟩ := id fR
  obtain ⟨hzt, t0, t1⟩ := id bT
  obtain ⟨-, hft⟩ := id fT
  go_wp2
  refine bodyPost_ret (v := .tuple #[.agg #[.bool false, .slice none 0 0], .agg #[.bool false, .slice none 0 0], .int .i64 1]) (by simp [results, Try.results17, go_sem, r0, r1, hzr, t0, t1, hzt, d1, d2]) rfl ⟨none, 0, none, 0, rfl, Own.nil _ _, Own.nil _ _, Apart.nil, ?_⟩
  exact (((hW.setCell (by show w.heap.size ≤ w.heap.size + 1 + 1; omega) _).setCell (by show w.heap.size ≤ w.heap.size + 1 + 1; omega) _).setCell (by show w.heap.size ≤ w.heap.size + 1 + 1 + 1; omega) _).setCell (by show w.heap.size ≤ w.heap.size + 1 + 1 + 1; omega) _

set_option maxHeartbeats 4000000 in
set_option maxRecDepth 100000 in
theorem dm_impl_z (p q : Bool) (v u : Value) (xs ys : List Int) (w : World) (hx : Rd w v xs) (hy : Rd w u ys) (hoA : okB p xs = true) (hoB : okB q ys = true) (h0 : ys.length = 0) :
    Calls Try.prog 17 #[.agg #[.bool p, v], .agg #[.bool q, u]] w fun e w' => ∃ a c a' c', e = .returned (.tuple #[.agg #[.bool false, .slice a (([] : List Int)).length c], .agg #[.bool false, .slice a' (([] : List Int)).length c'], .int .i64 2]) ∧ Own w' w.heap.size (.slice a (([] : List Int)).length c) (([] : List Int)) ∧ Own w' w.heap.size (.slice a' (([] : List Int)).length c') (([] : List Int)) ∧ Apart (.slice a (([] : List Int)).length c) (.slice a' (([] : List Int)).length c') ∧ Below w.heap.size w w' := by
  obtain rfl : ys = [] := List.eq_nil_of_length_eq_zero h0
  clear h0
  have hx' := hx
  have hy' := hy
  obtain ⟨a, cap, rfl, _, hzx, hnx, hcx⟩ := hx
  obtain ⟨a', cap', rfl, _, hzy, hny, hcy⟩ := hy
  clear hcx hcy hnx hny
  have bA := (((Box.new w (.bool p) (.slice a xs.length cap) 26).alloc (Obj.cells #[.bool q, .slice a' ([] : List Int).length cap'] 26)).alloc (Obj.cells #[.bool false, .slice none 0 0] 26)).alloc (Obj.cells #[.bool false, .slice none 0 0] 26)
  have bB := ((Box.new (w.alloc (Obj.cells #[.bool p, .slice a xs.length cap] 26)) (.bool q) (.slice a' ([] : List Int).length cap') 26).alloc (Obj.cells #[.bool false, .slice none 0 0] 26)).alloc (Obj.cells #[.bool false, .slice none 0 0] 26)
  have rx := (((hx'.alloc (Obj.cells #[.bool p, .slice a xs.length cap] 26)).alloc (Obj.cells #[.bool q, .slice a' ([] : List Int).length cap'] 26)).alloc (Obj.cells #[.bool false, .slice none 0 0] 26)).alloc (Obj.cells #[.bool false, .slice none 0 0] 26)
  have ry := (((hy'.alloc (Obj.cells #[.bool p, .slice a xs.length cap] 26)).alloc (Obj.cells #[.bool q, .slice a' ([] : List Int).length cap'] 26)).alloc (Obj.cells #[.bool false, .slice none 0 0] 26)).alloc (Obj.cells #[.bool false, .slice none 0 0] 26)
  have hW := ((((Below.refl w.heap.size w).alloc (Nat.le_refl _) (Obj.cells #[.bool p, .slice a xs.length cap] 26)).alloc (by simp) (Obj.cells #[.bool q, .slice a' ([] : List Int).length cap'] 26)).alloc (by simp; omega) (Obj.cells #[.bool false, .slice none 0 0] 26)).alloc (by simp; omega) (Obj.cells #[.bool false, .slice none 0 0] 26)
  have bR := (Box.new ((w.alloc (Obj.cells #[.bool p, .slice a xs.length cap] 26)).alloc (Obj.cells #[.bool q, .slice a' ([] : List Int).length cap'] 26)) (.bool false) (.slice none 0 0) 26).alloc (Obj.cells #[.bool false, .slice none 0 0] 26)
  have fR := (Unf.new ((w.alloc (Obj.cells #[.bool p, .slice a xs.length cap] 26)).alloc (Obj.cells #[.bool q, .slice a' ([] : List Int).length cap'] 26)) #[.bool false, .slice none 0 0] 26).keep ((Below.refl _ _).alloc (Nat.le_refl _) (Obj.cells #[.bool false, .slice none 0 0] 26))
  have bT := Box.new (((w.alloc (Obj.cells #[.bool p, .slice a xs.length cap] 26)).alloc (Obj.cells #[.bool q, .slice a' ([] : List Int).length cap'] 26)).alloc (Obj.cells #[.bool false, .slice none 0 0] 26)) (.bool false) (.slice none 0 0) 26
  have fT := Unf.new (((w.alloc (Obj.cells #[.bool p, .slice a xs.length cap] 26)).alloc (Obj.cells #[.bool q, .slice a' ([] : List Int).length cap'] 26)).alloc (Obj.cells #[.bool false, .slice none 0 0] 26)) #[.bool false, .slice none 0 0] 26
  simp only [World.size_alloc] at bB bR fR bT fT
  clear hx' hy'
  have hokA := fun W h => bigOk_any p (.slice a xs.length cap) xs W h
  rw [hoA] at hokA
  have hokB := fun W h => bigOk_any q (.slice a' ([] : List Int).length cap') [] W h
  rw [hoB] at hokB
  clear hoA hoB
  have d1 : ¬ (w.heap.size + 1 + 1 = w.heap.size + 1 + 1 + 1) := by omega
  have d2 : ¬ (w.heap.size + 1 + 1 + 1 = w.heap.size + 1 + 1) := by omega
  go_enter Try.func17, Try.ntmps17
  go_wp2_with fail
  refine (hokA _ rx).mono ?_
  rintro e w1 ⟨rfl, hB⟩
  clear hokA
  replace hW := hW.trans (hB.mono hW.size)
  replace bA := bA.keep hB
  replace bB := bB.keep hB
  replace rx := rx.keep hB
  replace ry := ry.keep hB
  replace bR := bR.keep hB
  replace fR := fR.keep hB
  replace bT := bT.keep hB
  replace fT := fT.keep hB
  clear hB
  obtain ⟨-, k0, k1⟩ := id bA
  obtain ⟨-, k2, k3⟩ := id bB
  obtain ⟨hzr, r0, r1⟩ := id bR
  obtain ⟨-, hfr⟩ := id fR
  obtain ⟨hzt, t0, t1⟩ := id bT
  obtain ⟨-, hft⟩ := id fT
  go_wp2_with fail
  refine (hokB _ ry).mono ?_
  rintro e w2 ⟨rfl, hB⟩
  clear hokB
  clear k0 k1 k2 k3 r0 r1 hzr hfr t0 t1 hzt hft
  replace hW := hW.trans (hB.mono hW.size)
  replace bA := bA.keep hB
  replace bB := bB.keep hB
  replace rx := rx.keep hB
  replace ry := ry.keep hB
  replace bR := bR.keep hB
  replace fR := fR.keep hB
  replace bT := bT.keep hB
  replace fT := fT.keep hB
  clear hB
  obtain ⟨-, k0, k1⟩ := id bA
  obtain ⟨-, k2, k3⟩ := id bB
  obtain ⟨hzr, r0, r1⟩ := id bR
  obtain ⟨-, hfr⟩ := id fR
  obtain ⟨hzt, t0, t1⟩ := id bT
  obtain ⟨-, hft⟩ := id fT
  go_wp2
  refine bodyPost_ret (v := .tuple #[.agg #[.bool false, .slice none 0 0], .agg #[.bool false, .slice none 0 0], .int .i64 2]) (by simp [results, Try.results17, go_sem, r0, r1, hzr, t0, t1, hzt, d1, d2]) rfl ⟨none, 0, none, 0, rfl, Own.nil _ _, Own.nil _ _, Apart.nil, ?_⟩
  exact (((hW.setCell (by show w.heap.size ≤ w.heap.size + 1 + 1; omega) _).setCell (by show w.heap.size ≤ w.heap.size + 1 + 1; omega) _).setCell (by show w.heap.size ≤ w.heap.size + 1 + 1 + 1; omega) _).setCell (by show w.heap.size ≤ w.heap.size + 1 + 1 + 1; omega) _

end Go.Proofs.Ythgpacajeaphhaa

namespace Go.Proofs.Ythgpacajeaphhaa
open Go.RowKit
set_option linter.unusedVariables false
set_option linter.unusedSimpArgs false

theorem flQ_le2 (p q : Bool) {X Y : Nat} (hY : 0 < Y) : flQ p X q Y ≤ X := by
  unfold flQ
  split
  · rename_i h
    have h1 := Nat.div_add_mod X Y
    have h2 : 0 < X % Y := Nat.pos_of_ne_zero h.2
    have h3 : Y ≠ 1 := fun e => h.2 (by rw [e, Nat.mod_one])
    have h4 : 1 * (X / Y) ≤ Y * (X / Y) := Nat.mul_le_mul_right _ hY
    rw [Nat.one_mul] at h4
    omega
  · exact Nat.div_le_self _ _
theorem flR_lt (p q : Bool) {X Y : Nat} (hY : 0 < Y) : flR p X q Y < Y := by
  have := Nat.mod_lt X hY
  unfold flR
  split
  · rename_i h
    have h2 : 0 < X % Y := Nat.pos_of_ne_zero h.2
    omega
  · exact this

end Go.Proofs.Ythgpacajeaphhaa
