import Derived.Test.YtfcoffllelgakaaDoorOf
namespace Go.Proofs.YtfcoffllelgakaaDoor
open Go.RowKit
set_option linter.unusedVariables false
set_option linter.unusedSimpArgs false

/-- What is answered of a result: its limbs, its code, its sign; nothing where it is too large. -/
def fitL (n : Nat) : List Int := if (lim n).length ≤ 128 then lim n else []
def fitC (n : Nat) : Int := if (lim n).length ≤ 128 then 0 else 3
def fitS (neg : Bool) (n : Nat) : Bool := if (lim n).length ≤ 128 then nz neg n else false
theorem fit_yes {n : Nat} (h : (lim n).length ≤ 128) (neg : Bool) : fitL n = lim n ∧ fitC n = 0 ∧ fitS neg n = nz neg n := ⟨if_pos h, if_pos h, if_pos h⟩
theorem fit_no {n : Nat} (h : ¬ (lim n).length ≤ 128) (neg : Bool) : fitL n = [] ∧ fitC n = 3 ∧ fitS neg n = false := ⟨if_neg h, if_neg h, if_neg h⟩

set_option maxHeartbeats 1000000 in
set_option maxRecDepth 100000 in
theorem signed_any (neg : Bool) (B n cap : Nat) (a : Option Addr) (zs : List Int) (N : Nat) (w : World) (hO : Own w B (.slice a n cap) zs) (hN : val zs = N) (hBw : B ≤ w.heap.size) :
    Calls Tryd.prog 79 #[.bool neg, .slice a n cap] w fun e w' => ∃ a c, e = .returned (.tuple #[.agg #[.bool (fitS neg N), .slice a (fitL N).length c], .int .i64 (fitC N)]) ∧ Own w' B (.slice a (fitL N).length c) (fitL N) ∧ Below w.heap.size w w' := by
  have hT := trimmed_gen B n cap a zs (w.alloc (Obj.cells #[.bool false, .slice none 0 0] 29)) (hO.alloc _)
  rw [hN] at hT
  by_cases hf : (lim N).length ≤ 128
  · obtain ⟨e1, e2, e3⟩ := fit_yes hf neg
    rw [e1, e2, e3, nz_len]
    clear e1 e2 e3
    generalize lim N = L at hT hf ⊢
    go_enter Tryd.func79, Tryd.ntmps79
    go_wp2_with fail
    refine hT.mono ?_
    rintro e w1 ⟨a1, c1, rfl, hO1, rfl⟩
    clear hT
    cases neg with
    | true =>
      go_wp2
      refine bodyPost_ret (v := .tuple #[.agg #[.bool (decide (0 < (L.length : Int))), .slice a1 L.length c1], .int .i64 0]) (by simp [results, Tryd.results79, go_sem]) rfl ⟨a1, c1, by simp, ?_, ?_⟩
      · exact hO1 _ _ (hO.alloc _)
      · exact (Below.refl _ _).alloc (Nat.le_refl _) _
    | false =>
      go_wp2
      refine bodyPost_ret (v := .tuple #[.agg #[.bool false, .slice a1 L.length c1], .int .i64 0]) (by simp [results, Tryd.results79, go_sem]) rfl ⟨a1, c1, by simp, ?_, ?_⟩
      · exact hO1 _ _ (hO.alloc _)
      · exact (Below.refl _ _).alloc (Nat.le_refl _) _
  · obtain ⟨e1, e2, e3⟩ := fit_no hf neg
    rw [e1, e2, e3]
    clear e1 e2 e3
    generalize lim N = L at hT hf
    go_enter Tryd.func79, Tryd.ntmps79
    go_wp2_with fail
    refine hT.mono ?_
    rintro e w1 ⟨a1, c1, rfl, hO1, rfl⟩
    clear hT
    go_wp2
    refine bodyPost_ret (v := .tuple #[.agg #[.bool false, .slice none 0 0], .int .i64 3]) (by simp [results, Tryd.results79, go_sem]) rfl ⟨none, 0, by simp, ?_, ?_⟩
    · exact Own.nil _ _
    · exact (Below.refl _ _).alloc (Nat.le_refl _) _

set_option maxRecDepth 100000 in
theorem l1Minus_any (neg : Bool) (v : Value) (zs : List Int) (w : World) (hr : Rd w v zs) :
    Calls Tryd.prog 47 #[.agg #[.bool neg, v]] w fun e w' => ∃ a c, e = .returned (.agg #[.bool (nz (!neg) (val zs)), .slice a (lim (val zs)).length c]) ∧ Own w' w.heap.size (.slice a (lim (val zs)).length c) (lim (val zs)) ∧ Below w.heap.size w w' := by
  have hG := l1Big_any (!neg) v zs ((w.alloc (Obj.cells #[.bool neg, v] 29)).alloc (Obj.cells #[.bool false, .slice none 0 0] 29)) ((hr.alloc _).alloc _)
  have bR := Box.new (w.alloc (Obj.cells #[.bool neg, v] 29)) (.bool false) (.slice none 0 0) 29
  have fR := Unf.new (w.alloc (Obj.cells #[.bool neg, v] 29)) #[.bool false, .slice none 0 0] 29
  simp only [World.size_alloc] at bR fR
  generalize nz (!neg) (val zs) = s at hG ⊢
  generalize lim (val zs) = L at hG ⊢
  obtain ⟨a, cap, rfl, hl, hz, hn0, hc⟩ := hr
  clear hc
  go_enter Tryd.func47, Tryd.ntmps47
  go_wp2_with fail
  refine hG.mono ?_
  rintro e w1 ⟨a1, c1, rfl, hO, hB⟩
  clear hG
  obtain ⟨hz1, p0, p1⟩ := bR.keep hB
  obtain ⟨_, hf1⟩ := fR.keep hB
  go_wp2
  refine bodyPost_ret (v := .agg #[.bool s, .slice a1 L.length c1]) (by simp [results, Tryd.results47, go_sem, p0, p1, hz1]) rfl ⟨a1, c1, by simp, ?_, ?_⟩
  · exact (((hO.setBelow (by simp) _).setBelow (by simp) _)).mono (by simp; omega)
  · exact ((below_of_alloc (below_of_alloc hB)).setCell (by simp) _).setCell (by simp) _
end Go.Proofs.YtfcoffllelgakaaDoor
