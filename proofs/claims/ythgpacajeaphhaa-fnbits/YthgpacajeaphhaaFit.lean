import Derived.Test.YthgpacajeaphhaaOf
namespace Go.Proofs.Ythgpacajeaphhaa
open Go.RowKit
set_option linter.unusedVariables false
set_option linter.unusedSimpArgs false

/-- What is answered of a result: its limbs, its code, its sign; nothing where it is too large. -/
def fitL (n : Nat) : List Int := if (lim n).length ≤ 128 then lim n else []
def fitC (n : Nat) : Int := if (lim n).length ≤ 128 then 0 else 3
def fitS (neg : Bool) (n : Nat) : Bool := if (lim n).length ≤ 128 then nz neg n else false
theorem fit_yes {n : Nat} (h : (lim n).length ≤ 128) (neg : Bool) : fitL n = lim n ∧ fitC n = 0 ∧ fitS neg n = nz neg n := ⟨if_pos h, if_pos h, if_pos h⟩
theorem fit_no {n : Nat} (h : ¬ (lim n).length ≤ 128) (neg : Bool) : fitL n = [] ∧ fitC n = 3 ∧ fitS neg n = false := ⟨if_neg h, if_neg h, if_neg h⟩

set_option maxHeartbeats 1000000 in
set_option maxRecDepth 100000 in
theorem signed_any (neg : Bool) (B n cap : Nat) (a : Option Addr) (zs : List Int) (N : Nat) (w : World) (hO : Own w B (.slice a n cap) zs) (hN : val zs = N) (hBw : B ≤ w.heap.size) :
    Calls Try.prog 31 #[.bool neg, .slice a n cap] w fun e w' => ∃ a c, e = .returned (.tuple #[.agg #[.bool (fitS neg N), .slice a (fitL N).length c], .int .i64 (fitC N)]) ∧ Own w' B (.slice a (fitL N).length c) (fitL N) ∧ Below w.heap.size w w' := by
  have hT := trimmed_gen B n cap a zs (w.alloc (Obj.cells #[.bool false, .slice none 0 0] 26)) (hO.alloc _)
  rw [hN] at hT
  by_cases hf : (lim N).length ≤ 128
  · obtain ⟨e1, e2, e3⟩ := fit_yes hf neg
    rw [e1, e2, e3, nz_len]
    clear e1 e2 e3
    generalize lim N = L at hT hf ⊢
    go_enter Try.func31, Try.ntmps31
    go_wp2_with fail
    refine hT.mono ?_
    rintro e w1 ⟨a1, c1, rfl, hO1, rfl⟩
    clear hT
    cases neg with
    | true =>
      go_wp2
      refine bodyPost_ret (v := .tuple #[.agg #[.bool (decide (0 < (L.length : Int))), .slice a1 L.length c1], .int .i64 0]) (by simp [results, Try.results31, go_sem]) rfl ⟨a1, c1, by simp, ?_, ?_⟩
      · exact hO1 _ _ (hO.alloc _)
      · exact (Below.refl _ _).alloc (Nat.le_refl _) _
    | false =>
      go_wp2
      refine bodyPost_ret (v := .tuple #[.agg #[.bool false, .slice a1 L.length c1], .int .i64 0]) (by simp [results, Try.results31, go_sem]) rfl ⟨a1, c1, by simp, ?_, ?_⟩
      · exact hO1 _ _ (hO.alloc _)
      · exact (Below.refl _ _).alloc (Nat.le_refl _) _
  · obtain ⟨e1, e2, e3⟩ := fit_no hf neg
    rw [e1, e2, e3]
    clear e1 e2 e3
    generalize lim N = L at hT hf
    go_enter Try.func31, Try.ntmps31
    go_wp2_with fail
    refine hT.mono ?_
    rintro e w1 ⟨a1, c1, rfl, hO1, rfl⟩
    clear hT
    go_wp2
    refine bodyPost_ret (v := .tuple #[.agg #[.bool false, .slice none 0 0], .int .i64 3]) (by simp [results, Try.results31, go_sem]) rfl ⟨none, 0, by simp, ?_, ?_⟩
    · exact Own.nil _ _
    · exact (Below.refl _ _).alloc (Nat.le_refl _) _

set_option maxHeartbeats 1000000 in
set_option maxRecDepth 100000 in
theorem l1Fit_any (neg : Bool) (B n cap : Nat) (a : Option Addr) (N : Nat) (w : World) (hO : Own w B (.slice a n cap) (lim N)) (hBw : B ≤ w.heap.size) :
    Calls Try.prog 42 #[.agg #[.bool (nz neg N), .slice a n cap]] w fun e w' => ∃ a c, e = .returned (.tuple #[.agg #[.bool (fitS neg N), .slice a (fitL N).length c], .int .i64 (fitC N)]) ∧ Own w' B (.slice a (fitL N).length c) (fitL N) ∧ Below w.heap.size w w' := by
  have hn : n = (lim N).length := by
    obtain ⟨a2, c2, h⟩ := hO.form
    simp at h; exact h.2.1
  subst hn
  by_cases hf : (lim N).length ≤ 128
  · obtain ⟨e1, e2, e3⟩ := fit_yes hf neg
    rw [e1, e2, e3]
    clear e1 e2 e3
    generalize nz neg N = s
    generalize lim N = L at hO hf ⊢
    go_enter Try.func42, Try.ntmps42
    go_wp2
    refine bodyPost_ret (v := .tuple #[.agg #[.bool s, .slice a L.length cap], .int .i64 0]) (by simp [results, Try.results42, go_sem]) rfl ⟨a, cap, by simp, ?_, ?_⟩
    · exact (hO.alloc _).alloc _
    · exact ((Below.refl _ _).alloc (Nat.le_refl _) _).alloc (by simp) _
  · obtain ⟨e1, e2, e3⟩ := fit_no hf neg
    rw [e1, e2, e3]
    clear e1 e2 e3
    generalize nz neg N = s
    generalize lim N = L at hO hf
    go_enter Try.func42, Try.ntmps42
    go_wp2
    refine bodyPost_ret (v := .tuple #[.agg #[.bool false, .slice none 0 0], .int .i64 3]) (by simp [results, Try.results42, go_sem]) rfl ⟨none, 0, by simp, ?_, ?_⟩
    · exact Own.nil _ _
    · exact ((Below.refl _ _).alloc (Nat.le_refl _) _).alloc (by simp) _

set_option maxRecDepth 100000 in
theorem l1Minus_any (neg : Bool) (v : Value) (zs : List Int) (w : World) (hr : Rd w v zs) :
    Calls Try.prog 59 #[.agg #[.bool neg, v]] w fun e w' => ∃ a c, e = .returned (.agg #[.bool (nz (!neg) (val zs)), .slice a (lim (val zs)).length c]) ∧ Own w' w.heap.size (.slice a (lim (val zs)).length c) (lim (val zs)) ∧ Below w.heap.size w w' := by
  have hG := l1Big_any (!neg) v zs ((w.alloc (Obj.cells #[.bool neg, v] 26)).alloc (Obj.cells #[.bool false, .slice none 0 0] 26)) ((hr.alloc _).alloc _)
  have bR := Box.new (w.alloc (Obj.cells #[.bool neg, v] 26)) (.bool false) (.slice none 0 0) 26
  have fR := Unf.new (w.alloc (Obj.cells #[.bool neg, v] 26)) #[.bool false, .slice none 0 0] 26
  simp only [World.size_alloc] at bR fR
  generalize nz (!neg) (val zs) = s at hG ⊢
  generalize lim (val zs) = L at hG ⊢
  obtain ⟨a, cap, rfl, hl, hz, hn0, hc⟩ := hr
  clear hc
  go_enter Try.func59, Try.ntmps59
  go_wp2_with fail
  refine hG.mono ?_
  rintro e w1 ⟨a1, c1, rfl, hO, hB⟩
  clear hG
  obtain ⟨hz1, p0, p1⟩ := bR.keep hB
  obtain ⟨_, hf1⟩ := fR.keep hB
  go_wp2
  refine bodyPost_ret (v := .agg #[.bool s, .slice a1 L.length c1]) (by simp [results, Try.results59, go_sem, p0, p1, hz1]) rfl ⟨a1, c1, by simp, ?_, ?_⟩
  · exact (((hO.setBelow (by simp) _).setBelow (by simp) _)).mono (by simp; omega)
  · exact ((below_of_alloc (below_of_alloc hB)).setCell (by simp) _).setCell (by simp) _
end Go.Proofs.Ythgpacajeaphhaa
