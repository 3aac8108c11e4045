import Derived.Test.YtahcpgldpbejiaaGreatDoorFrameS
import Derived.Test.YtahcpgldpbejiaaGreatDoorMfc
import Derived.Stop.LaidTwo
import Derived.LaidSub
import Derived.OpenVars
namespace Go.Proofs.YtahcpgldpbejiaaGreatDoor
open Go.ChangeShapes Go.WideShapes Go.ChangeAt Go.RowKit

/-- The name of an error's type, as the rows have it. -/
def nmE : String := match (Rows.laid_loop_example_g00009_impl_errArgs (H := Unit)) with
  | .iface n _ => n
  | _ => ""
theorem cellsE : Tryz.prog.cellsOf 191 = 1 := by kernel_rfl
theorem cellsS : Tryz.prog.cellsOf 9 = 1 := by kernel_rfl
theorem allE : ((List.range Tryz.prog.types.size).all fun u => Tryz.prog.typeName? 3 u != some nmE || u == 189) = true := by kernel_rfl
set_option maxRecDepth 100000 in
theorem rowE (u : TypeId) (h : Tryz.prog.typeName? 3 u = some nmE) : u = 189 := by
  have hs : ∀ x : String, x = nmE → ((List.range Tryz.prog.types.size).all fun u => Tryz.prog.typeName? 3 u != some x || u == 189) = true ∧ (Tryz.prog.typeName? 3 u = some x) := fun x hx => by rw [hx]; exact ⟨allE, h⟩
  refine typeName_ptr_named (P := Tryz.prog) (nm := "errors.errorString") (tp := 189) ?_ (by kernel_rfl) (by decide) u ?_
  · exact (hs _ (by decide)).1
  · exact (hs _ (by decide)).2
/-- Three sentinels, told two by two. -/
theorem errs_of {W : World} {n0 n1 n2 : String} {t0 t1 t2 : List UInt8} {r1 r2 r3 : List (String × DataW Unit)}
    (h1 : laidMet Tryz.prog ((n0, .iface nmE (.ptr (.agg [.lit (.string t0)]))) :: (n1, .iface nmE (.ptr (.agg [.lit (.string t1)]))) :: r1) W)
    (h2 : laidMet Tryz.prog ((n0, .iface nmE (.ptr (.agg [.lit (.string t0)]))) :: (n2, .iface nmE (.ptr (.agg [.lit (.string t2)]))) :: r2) W)
    (h3 : laidMet Tryz.prog ((n1, .iface nmE (.ptr (.agg [.lit (.string t1)]))) :: (n2, .iface nmE (.ptr (.agg [.lit (.string t2)]))) :: r3) W)
    (g0 : Tryz.prog.globalNamed n0 = some 0) (g1 : Tryz.prog.globalNamed n1 = some 1) (g2 : Tryz.prog.globalNamed n2 = some 2)
    (y0 : (Tryz.prog.globals[0]?).map (·.type) = some 54) (y1 : (Tryz.prog.globals[1]?).map (·.type) = some 54) (y2 : (Tryz.prog.globals[2]?).map (·.type) = some 54) :
    ∃ aA aZ aL, Errs W aA aZ aL := by
  obtain ⟨a0, a1, s0, s1, c0, c1, u0, u1, v0, v1, _, _, _, _, _, _, ne01, b0, b1⟩ := laid_sentinels2 h1 g0 y0 g1 y1 Tryz.underlying54 rowE Tryz.underlying189 Tryz.underlying191 rfl rfl Tryz.underlying9 cellsE cellsS
  obtain ⟨a0', a2, _, _, _, c2, _, u2, v0', v2, _, _, _, _, _, _, ne02, _, b2⟩ := laid_sentinels2 h2 g0 y0 g2 y2 Tryz.underlying54 rowE Tryz.underlying189 Tryz.underlying191 rfl rfl Tryz.underlying9 cellsE cellsS
  obtain ⟨a1', a2', _, _, _, _, _, _, v1', v2', _, _, _, _, _, _, ne12, _, _⟩ := laid_sentinels2 h3 g1 y1 g2 y2 Tryz.underlying54 rowE Tryz.underlying189 Tryz.underlying191 rfl rfl Tryz.underlying9 cellsE cellsS
  obtain rfl : a0 = a0' := by rw [v0] at v0'; simpa using v0'
  obtain rfl : a1 = a1' := by rw [v1] at v1'; simpa using v1'
  obtain rfl : a2 = a2' := by rw [v2] at v2'; simpa using v2'
  exact ⟨a0, a1, a2, ⟨World.var?_cell g0 v0 0, World.var?_cell g1 v1 0, World.var?_cell g2 v2 0⟩, ⟨⟨_, _, b0⟩, ⟨_, _, b1⟩, ⟨_, _, b2⟩⟩, ne01, ne02, ne12⟩
theorem laidOutE : laidOutB Tryz.prog = true := by kernel_rfl
theorem vars3 {H : Type} {enc : TypeId × Value → H} {P : Program} {w : World} {sp : Nat → Bool} {n0 n1 n2 : String} {gs : List (DataW H)} {ps : List MemPlace} (h : DataW.TrodVars enc P w sp [n0, n1, n2] gs ps) : ∃ a b c, gs = [a, b, c] := by
  cases gs with
  | nil => exact h.elim
  | cons a l =>
    obtain ⟨_, _, _, _, _, _, _, _, _, _, h, _⟩ := h
    cases l with
    | nil => exact h.elim
    | cons b l =>
      obtain ⟨_, _, _, _, _, _, _, _, _, _, h, _⟩ := h
      cases l with
      | nil => exact h.elim
      | cons c l =>
        obtain ⟨_, _, _, _, _, _, _, _, _, _, h, _⟩ := h
        cases l with
        | nil => exact ⟨a, b, c, rfl⟩
        | cons d l => exact h.elim
/-- The name at a place of a list. -/
def nameAt (l : List (String × DataW Unit)) (i : Nat) : String := ((l.drop i).head?.map (·.1)).getD nmE
end Go.Proofs.YtahcpgldpbejiaaGreatDoor
