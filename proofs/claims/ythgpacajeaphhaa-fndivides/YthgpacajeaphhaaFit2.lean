import Derived.Test.YthgpacajeaphhaaFit
namespace Go.Proofs.Ythgpacajeaphhaa
open Go.RowKit
set_option linter.unusedVariables false
set_option linter.unusedSimpArgs false

/-- Two rows that share no block. -/
def Apart (v u : Value) : Prop := (v.ownBlock = none ∨ v.ownBlock ≠ u.ownBlock) ∧ (u.ownBlock = none ∨ u.ownBlock ≠ v.ownBlock)
theorem Apart.of {v u : Value} {a b c d : Nat} (hv : ∀ k, v.ownBlock = some k → a ≤ k ∧ k < b) (hu : ∀ k, u.ownBlock = some k → c ≤ k ∧ k < d) (h : b ≤ c) : Apart v u := ⟨ob_ne hv hu (.inl h), ob_ne hu hv (.inr h)⟩
theorem Apart.nil : Apart (.slice none 0 0) (.slice none 0 0) := ⟨.inl rfl, .inl rfl⟩

set_option maxHeartbeats 1000000 in
set_option maxRecDepth 100000 in
theorem signed_gen (neg : Bool) (B n cap : Nat) (A0 : Option Addr) (zs : List Int) (N : Nat) (w : World) (hO : Own w B (.slice A0 n cap) zs) (hN : val zs = N) (hBw : B ≤ w.heap.size) :
    Calls Try.prog 31 #[.bool neg, .slice A0 n cap] w fun e w' => ∃ a c, e = .returned (.tuple #[.agg #[.bool (fitS neg N), .slice a (fitL N).length c], .int .i64 (fitC N)]) ∧ (∀ W B, Own W B (.slice A0 n cap) zs → Own W B (.slice a (fitL N).length c) (fitL N)) ∧ Below w.heap.size w w' := by
  have hT := trimmed_gen B n cap A0 zs (w.alloc (Obj.cells #[.bool false, .slice none 0 0] 26)) (hO.alloc _)
  rw [hN] at hT
  by_cases hf : (lim N).length ≤ 128
  · obtain ⟨e1, e2, e3⟩ := fit_yes hf neg
    rw [e1, e2, e3, nz_len]
    clear e1 e2 e3
    generalize lim N = L at hT hf ⊢
    go_enter Try.func31, Try.ntmps31
    go_wp2_with fail
    refine hT.mono ?_
    rintro e w1 ⟨a1, c1, rfl, hO1, rfl⟩
    clear hT
    cases neg with
    | true =>
      go_wp2
      refine bodyPost_ret (v := .tuple #[.agg #[.bool (decide (0 < (L.length : Int))), .slice a1 L.length c1], .int .i64 0]) (by simp [results, Try.results31, go_sem]) rfl ⟨a1, c1, by simp, ?_, ?_⟩
      · exact hO1
      · exact (Below.refl _ _).alloc (Nat.le_refl _) _
    | false =>
      go_wp2
      refine bodyPost_ret (v := .tuple #[.agg #[.bool false, .slice a1 L.length c1], .int .i64 0]) (by simp [results, Try.results31, go_sem]) rfl ⟨a1, c1, by simp, ?_, ?_⟩
      · exact hO1
      · exact (Below.refl _ _).alloc (Nat.le_refl _) _
  · obtain ⟨e1, e2, e3⟩ := fit_no hf neg
    rw [e1, e2, e3]
    clear e1 e2 e3
    generalize lim N = L at hT hf
    go_enter Try.func31, Try.ntmps31
    go_wp2_with fail
    refine hT.mono ?_
    rintro e w1 ⟨a1, c1, rfl, hO1, rfl⟩
    clear hT
    go_wp2
    refine bodyPost_ret (v := .tuple #[.agg #[.bool false, .slice none 0 0], .int .i64 3]) (by simp [results, Try.results31, go_sem]) rfl ⟨none, 0, by simp, ?_, ?_⟩
    · exact fun _ _ _ => Own.nil _ _
    · exact (Below.refl _ _).alloc (Nat.le_refl _) _

end Go.Proofs.Ythgpacajeaphhaa
