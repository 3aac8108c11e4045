import Derived.Test.YtfbibbjiomfncaaFrmC
namespace Go.Proofs.Ytfbibbjiomfncaa
open Go.ChangeShapes Go.WideShapes Go.ChangeAt Go.RowKit Go.Joins
set_option linter.unusedVariables false
set_option linter.unusedSimpArgs false

set_option maxRecDepth 100000 in
/-- A list of attributes that came in by itself, opened. -/
theorem open_attrlist {H : Type} {enc : TypeId × Value → H} {W : World} {base : Nat} {v : Value} {d : DataW H} {p : List MemPlace} (hv : Value.okWide Try.prog W .any base 39 v)
    (h : DataW.Trod enc Try.prog W 0 (fun _ => true) true 39 v d p) :
    ∃ (a : Option Addr) (c : Nat) (es : List At), v = .slice a es.length c ∧ Ub W (.slice a es.length c) es.length (RdA W (.slice a es.length c) es) := by
  obtain ⟨a0, len0, cap0, rfl⟩ := okWide_slice Try.underlying39 hv
  obtain ⟨fuel, hf⟩ := h
  have hf' : DataW.trod enc Try.prog W 0 (fun _ => true) true fuel 39 [.slice a0 len0 cap0] = some (d, p) := hf
  obtain ⟨es, hU⟩ := open_attrs hf'
  obtain ⟨⟨a, c, e⟩, _⟩ := id hU
  rw [e] at hU ⊢
  exact ⟨a, c, es, rfl, hU⟩
end Go.Proofs.Ytfbibbjiomfncaa
