import Derived.Test.YtbeakdpbginebaaDoorFrameS
import Derived.Test.YtbeakdpbginebaaDoorSvL
import Derived.Test.YtbeakdpbginebaaDoorLaidSw
import Derived.Stop.LaidTwo
import Derived.LaidSub
namespace Go.Proofs.YtbeakdpbginebaaDoor
open Go.ChangeShapes Go.WideShapes Go.ChangeAt Go.RowKit

/-- The name of an error's type, as the rows have it. -/
def nmS : String := match (Rows.laid_strconv_ErrSyntax (H := Unit)) with
  | .iface n _ => n
  | _ => ""
def nameAt (l : List (String × DataW Unit)) (i : Nat) : String := ((l.drop i).head?.map (·.1)).getD nmS
theorem cellsE : Tryd.prog.cellsOf 93 = 1 := by kernel_rfl
theorem cellsS : Tryd.prog.cellsOf 9 = 1 := by kernel_rfl
theorem allE : ((List.range Tryd.prog.types.size).all fun u => Tryd.prog.typeName? 3 u != some nmS || u == 91) = true := by kernel_rfl
set_option maxRecDepth 100000 in
theorem rowS (u : TypeId) (h : Tryd.prog.typeName? 3 u = some nmS) : u = 91 := by
  have hs : ∀ x : String, x = nmS → ((List.range Tryd.prog.types.size).all fun u => Tryd.prog.typeName? 3 u != some x || u == 91) = true ∧ (Tryd.prog.typeName? 3 u = some x) := fun x hx => by rw [hx]; exact ⟨allE, h⟩
  refine typeName_ptr_named (P := Tryd.prog) (nm := "errors.errorString") (tp := 91) ?_ (by kernel_rfl) (by decide) u ?_
  · exact (hs _ (by decide)).1
  · exact (hs _ (by decide)).2
theorem errS_of {W : World} {n0 n1 : String} {t0 t1 : List UInt8} {r1 : List (String × DataW Unit)} {g0 g1 : Nat}
    (h1 : laidMet Tryd.prog ((n0, .iface nmS (.ptr (.agg [.lit (.string t0)]))) :: (n1, .iface nmS (.ptr (.agg [.lit (.string t1)]))) :: r1) W)
    (e0 : Tryd.prog.globalNamed n0 = some g0) (e1 : Tryd.prog.globalNamed n1 = some g1) (eg : g1 = Tryd.laysToE_ren.g 15)
    (y0 : (Tryd.prog.globals[g0]?).map (·.type) = some 43) (y1 : (Tryd.prog.globals[g1]?).map (·.type) = some 43) : ErrS W := by
  obtain ⟨a0, a1, s0, s1, c0, c1, u0, u1, v0, v1, _⟩ := laid_sentinels2 h1 e0 y0 e1 y1 Tryd.underlying43 rowS Tryd.underlying91 Tryd.underlying93 rfl rfl Tryd.underlying9 cellsE cellsS
  have h := World.var?_cell e1 v1 0
  rw [eg] at h
  exact ⟨_, h, .inr ⟨_, _, rfl⟩⟩
theorem errS_laid {W : World} (h : laidMetH Tryd.prog Rows.fnExactStrValueRow.laid W) : ErrS W := by
  rw [MakeChecks.laidMetH_plain _ _ _ (by kernel_rfl)] at h
  have h1 := laidMet.filter (fun x => x.1 == nameAt Rows.fnExactStrValueRow.laid 4 || x.1 == nameAt Rows.fnExactStrValueRow.laid 5) h
  rw [show Rows.fnExactStrValueRow.laid.filter (fun x => x.1 == nameAt Rows.fnExactStrValueRow.laid 4 || x.1 == nameAt Rows.fnExactStrValueRow.laid 5) = ((Rows.fnExactStrValueRow.laid.drop 4).take 1 ++ (Rows.fnExactStrValueRow.laid.drop 5).take 1) by kernel_rfl] at h1
  exact errS_of (r1 := []) (g0 := 4) (g1 := 3) h1 (by kernel_rfl) (by kernel_rfl) (by kernel_rfl) (by kernel_rfl) (by kernel_rfl)
theorem maxK_shaped {W : World} (h : W.ShapedOpen Tryd.prog) : MaxK W := (show Go.Proofs.LaysM.n145 Tryd.prog Tryd.laysCutM_ren from Tryd.laysCutM).s1_3 W h
end Go.Proofs.YtbeakdpbginebaaDoor
