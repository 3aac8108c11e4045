import Derived.Test.YtfpadeamhoeonaaDoorOf
namespace Go.Proofs.YtfpadeamhoeonaaDoor
open Go.RowKit
set_option linter.unusedVariables false
set_option linter.unusedSimpArgs false

/-- What is answered of a result: its limbs, its code, its sign; nothing where it is too large. -/
def fitL (n : Nat) : List Int := if (lim n).length ≤ 128 then lim n else []
def fitC (n : Nat) : Int := if (lim n).length ≤ 128 then 0 else 3
def fitS (neg : Bool) (n : Nat) : Bool := if (lim n).length ≤ 128 then nz neg n else false
theorem fit_yes {n : Nat} (h : (lim n).length ≤ 128) (neg : Bool) : fitL n = lim n ∧ fitC n = 0 ∧ fitS neg n = nz neg n := ⟨if_pos h, if_pos h, if_pos h⟩
theorem fit_no {n : Nat} (h : ¬ (lim n).length ≤ 128) (neg : Bool) : fitL n = [] ∧ fitC n = 3 ∧ fitS neg n = false := ⟨if_neg h, if_neg h, if_neg h⟩

set_option maxRecDepth 100000 in
theorem l1Minus_any (neg : Bool) (v : Value) (zs : List Int) (w : World) (hr : Rd w v zs) :
    Calls Tryd.prog 62 #[.agg #[.bool neg, v]] w fun e w' => ∃ a c, e = .returned (.agg #[.bool (nz (!neg) (val zs)), .slice a (lim (val zs)).length c]) ∧ Own w' w.heap.size (.slice a (lim (val zs)).length c) (lim (val zs)) ∧ Below w.heap.size w w' := by
  have hG := l1Big_any (!neg) v zs ((w.alloc (Obj.cells #[.bool neg, v] 53)).alloc (Obj.cells #[.bool false, .slice none 0 0] 53)) ((hr.alloc _).alloc _)
  have bR := Box.new (w.alloc (Obj.cells #[.bool neg, v] 53)) (.bool false) (.slice none 0 0) 53
  have fR := Unf.new (w.alloc (Obj.cells #[.bool neg, v] 53)) #[.bool false, .slice none 0 0] 53
  simp only [World.size_alloc] at bR fR
  generalize nz (!neg) (val zs) = s at hG ⊢
  generalize lim (val zs) = L at hG ⊢
  obtain ⟨a, cap, rfl, hl, hz, hn0, hc⟩ := hr
  clear hc
  go_enter Tryd.func62, Tryd.ntmps62
  go_wp2_with fail
  refine hG.mono ?_
  rintro e w1 ⟨a1, c1, rfl, hO, hB⟩
  clear hG
  obtain ⟨hz1, p0, p1⟩ := bR.keep hB
  obtain ⟨_, hf1⟩ := fR.keep hB
  go_wp2
  refine bodyPost_ret (v := .agg #[.bool s, .slice a1 L.length c1]) (by simp [results, Tryd.results62, go_sem, p0, p1, hz1]) rfl ⟨a1, c1, by simp, ?_, ?_⟩
  · exact (((hO.setBelow (by simp) _).setBelow (by simp) _)).mono (by simp; omega)
  · exact ((below_of_alloc (below_of_alloc hB)).setCell (by simp) _).setCell (by simp) _
end Go.Proofs.YtfpadeamhoeonaaDoor
