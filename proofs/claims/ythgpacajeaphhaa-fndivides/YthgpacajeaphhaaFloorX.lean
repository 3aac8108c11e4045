import Derived.Test.YthgpacajeaphhaaCut
namespace Go.Proofs.Ythgpacajeaphhaa
open Go.RowKit
theorem Unf.set {w : World} {b : Nat} (h : Unf w b) (a : Addr) (u : Value) : Unf (w.setCell a u) b := ⟨by simpa [World.setCell] using h.1, fun o => (World.frozen?_setCell _ _ _ _).trans (h.2 o)⟩
theorem Box.setOther {w : World} {b c : Nat} {x y : Value} (h : Box w b x y) (hne : ¬ b = c) (o : Nat) (u : Value) : Box (w.setCell ⟨c, o, none⟩ u) b x y := h.but (gb_set w c o u) (fun e => hne (by simpa using e))
end Go.Proofs.Ythgpacajeaphhaa
