import Derived.Test.YtilhagcdhdmjaaaNdI
namespace Go.Proofs.Ytilhagcdhdmjaaa
open Go.RowKit Go.Maps
set_option linter.unusedVariables false
set_option linter.unusedSimpArgs false

theorem OwnD.hi {w : World} {B : Nat} {a1 a2 : Option Addr} {n1 c1 n2 c2 : Nat} {l : Int} {d : Dt} (h : OwnD w B (.agg #[.slice a1 n1 c1, .slice a2 n2 c2, .int .i64 l]) d) : ∀ g, w.heap.size ≤ g → ∀ vs ve l', (Value.agg #[.slice a1 n1 c1, .slice a2 n2 c2, .int .i64 l]) = dv vs ve l' → vs.ownBlock ≠ some g ∧ ve.ownBlock ≠ some g := by
  intro g hg vs ve l' e
  obtain ⟨us, ue, e', h1, h2, _⟩ := h
  have e2 := e.symm.trans e'
  simp [dv] at e2
  obtain ⟨rfl, rfl, _⟩ := e2
  exact ⟨fun h => by have := h1.lt _ h; omega, fun h => by have := h2.lt _ h; omega⟩

set_option maxRecDepth 100000 in
set_option maxHeartbeats 1000000 in
theorem law_newdict (w : World) : Calls Try.prog 3 #[] w fun e w' => e = .returned (.bool true) ∧ Below w.heap.size w w' := by
  go_enter Try.func3, Try.ntmps3
  go_wp2_with fail
  refine (newS_any _).mono ?_
  rintro e w1 ⟨v0, rfl, hR0, hB1⟩
  obtain ⟨a1, n1, c1, a2, n2, c2, e0⟩ := hR0.form
  subst e0
  go_wp2_with fail
  refine (newI_any _).mono ?_
  rintro e w2 ⟨v1, rfl, hO1, hB2⟩
  have hW1 : Below w.heap.size w (w1.alloc (.cells #[.slice a1 n1 c1, .slice a2 n2 c2, .int .i64 0] 25)) := hB1.alloc hB1.size _
  have hW2 := hW1.trans (hB2.mono hW1.size)
  have b0 := (Box3.new w1 (.slice a1 n1 c1) (.slice a2 n2 c2) (.int .i64 0) 25).keep hB2
  have hR2 := (hR0.alloc (.cells #[.slice a1 n1 c1, .slice a2 n2 c2, .int .i64 0] 25)).keep hB2
  obtain ⟨a3, n3, c3, a4, n4, c4, e1⟩ := hO1.rd.form
  subst e1
  have V1 : Below w1.heap.size w1 w2 := ((Below.refl _ w1).alloc (Nat.le_refl _) _).trans (hB2.mono (by simp))
  have b0a := b0.alloc (.cells #[.slice a3 n3 c3, .slice a4 n4 c4, .int .i64 0] 25)
  have b1a := Box3.new w2 (.slice a3 n3 c3) (.slice a4 n4 c4) (.int .i64 0) 25
  have V2 : Below w1.heap.size w1 (w2.alloc (.cells #[.slice a3 n3 c3, .slice a4 n4 c4, .int .i64 0] 25)) := V1.alloc V1.size _
  have X2 := hW2.alloc hW2.size (.cells #[.slice a3 n3 c3, .slice a4 n4 c4, .int .i64 0] 25)
  have O2 := hO1.keep ((Below.refl _ w2).alloc (Nat.le_refl _) (.cells #[.slice a3 n3 c3, .slice a4 n4 c4, .int .i64 0] 25))
  have hz12 : w1.heap.size + 1 ≤ w2.heap.size := by have := hB2.size; simpa using this
  have lo2 := hO1.hi
  simp only [World.size_alloc] at O2
  obtain ⟨-, k0, k1, k2⟩ := id b0a
  go_wp2_with fail
  refine (eqD_any _ _ _ _ _ O2.rd (hR0.keep V2)).mono ?_
  rw [decide_eq_true rfl]
  rintro e w3 ⟨rfl, hB3⟩
  have b0b := b0a.keep hB3
  have b1b := b1a.keep hB3
  have V3 := V2.trans (hB3.mono V2.size)
  have X3 := X2.trans (hB3.mono X2.size)
  have O3 := O2.keep hB3
  have hz3 : w2.heap.size + 1 ≤ w3.heap.size := by have := hB3.size; simpa using this
  clear b0a b1a V2 X2 O2 hB3 k0 k1 k2 b0 hO1 hB2
  obtain ⟨-, k0, k1, k2⟩ := id b0b
  obtain ⟨-, l0, l1, l2⟩ := id b1b
  go_wp2_with fail
  refine (markD_any (w1.heap.size + 1) _ _ 1 _ O3 (by omega) (by rw [tab8]; simp) (by omega)).mono ?_
  rintro e w4 ⟨rfl, O4, hB4, hk4⟩
  have b0c := b0b.keepB (hB4.block w1.heap.size (by omega)) hB4.size
  have b1c := b1b.keepB (hk4 w2.heap.size (by omega) (lo2 _ (Nat.le_refl _))) hB4.size
  have V4 := V3.trans (hB4.mono (Nat.le_succ _))
  have X4 : Below w.heap.size w w4 := X3.trans (hB4.mono (by have := hB1.size; omega))
  have hz4 := hB4.size
  clear b0b b1b V3 X3 O3 hB4 hk4 k0 k1 k2 l0 l1 l2
  obtain ⟨-, k0, k1, k2⟩ := id b0c
  obtain ⟨-, l0, l1, l2⟩ := id b1c
  go_wp2_with fail
  refine (heldD_any _ _ 1 _ O4.rd (by omega) (by rw [tab8]; simp)).mono ?_
  rintro e w5 ⟨rfl, hB5⟩
  have b0d := b0c.keep hB5
  have b1d := b1c.keep hB5
  have V5 := V4.trans (hB5.mono V4.size)
  have X5 := X4.trans (hB5.mono X4.size)
  have O5 := O4.keep hB5
  clear b0c b1c V4 X4 O4 k0 k1 k2 l0 l1 l2
  obtain ⟨-, k0, k1, k2⟩ := id b0d
  obtain ⟨-, l0, l1, l2⟩ := id b1d
  have hkk : ¬ ((1 : Int) + ((tabOf 8 []).length : Int) + 4 * (([] : List En).length : Int)) < 0 := by omega
  go_wp2_with fail
  refine (newI_any _).mono ?_
  rintro e w6 ⟨v2, rfl, hO6, hB6⟩
  obtain ⟨a5, n5, c5, a6, n6, c6, e2⟩ := hO6.rd.form
  subst e2
  have b0e := (b0d.keep hB6).alloc (.cells #[.slice a5 n5 c5, .slice a6 n6 c6, .int .i64 0] 25)
  have b1e := (b1d.keep hB6).alloc (.cells #[.slice a5 n5 c5, .slice a6 n6 c6, .int .i64 0] 25)
  have V6 := V5.trans (hB6.mono V5.size)
  have X6 := X5.trans (hB6.mono X5.size)
  have V6' := V6.alloc V6.size (.cells #[.slice a5 n5 c5, .slice a6 n6 c6, .int .i64 0] 25)
  have X6' := X6.alloc X6.size (.cells #[.slice a5 n5 c5, .slice a6 n6 c6, .int .i64 0] 25)
  have O6 := (O5.keep hB6).keep ((Below.refl _ w6).alloc (Nat.le_refl _) (.cells #[.slice a5 n5 c5, .slice a6 n6 c6, .int .i64 0] 25))
  have P6 := hO6.keep ((Below.refl _ w6).alloc (Nat.le_refl _) (.cells #[.slice a5 n5 c5, .slice a6 n6 c6, .int .i64 0] 25))
  clear b0d b1d V5 X5 O5 V6 X6 hO6 hB6 hB5 k0 k1 k2 l0 l1 l2
  obtain ⟨-, k0, k1, k2⟩ := id b0e
  obtain ⟨-, l0, l1, l2⟩ := id b1e
  go_wp2_with fail
  refine (eqD_any _ _ _ _ _ P6.rd (hR0.keep V6')).mono ?_
  rw [decide_eq_true rfl]
  rintro e w7 ⟨rfl, hB7⟩
  have b1f := b1e.keep hB7
  have X7 := X6'.trans (hB7.mono X6'.size)
  have O7 := O6.keep hB7
  clear b0e b1e V6' X6' O6 P6 hB7 k0 k1 k2 l0 l1 l2
  obtain ⟨-, l0, l1, l2⟩ := id b1f
  go_wp2_with fail
  refine (heldD_any _ _ 1 _ O7.rd (by omega) (by rw [tab8]; simp)).mono ?_
  rintro e w8 ⟨rfl, hB8⟩
  go_wp2
  go_ret
  exact ⟨rfl, X7.trans (hB8.mono X7.size)⟩
end Go.Proofs.Ytilhagcdhdmjaaa
