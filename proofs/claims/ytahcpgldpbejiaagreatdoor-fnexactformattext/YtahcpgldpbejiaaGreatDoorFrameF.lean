import Derived.Test.YtahcpgldpbejiaaGreatDoorFrameE
import Derived.Test.YtahcpgldpbejiaaGreatDoorFmM
namespace Go.Proofs.YtahcpgldpbejiaaGreatDoor
open Go.ChangeShapes Go.WideShapes Go.ChangeAt Go.RowKit

theorem errF_of {W : World} {n0 n1 : String} {t0 t1 : List UInt8} {r1 : List (String × DataW Unit)} {g0 g1 : Nat}
    (h1 : laidMet Tryz.prog ((n0, .iface nmE (.ptr (.agg [.lit (.string t0)]))) :: (n1, .iface nmE (.ptr (.agg [.lit (.string t1)]))) :: r1) W)
    (e0 : Tryz.prog.globalNamed n0 = some g0) (e1 : Tryz.prog.globalNamed n1 = some g1) (eg : g1 = Tryz.laysAtoi_ren.g 15)
    (y0 : (Tryz.prog.globals[g0]?).map (·.type) = some 54) (y1 : (Tryz.prog.globals[g1]?).map (·.type) = some 54) : ErrF W := by
  obtain ⟨a0, a1, s0, s1, c0, c1, u0, u1, v0, v1, _⟩ := laid_sentinels2 h1 e0 y0 e1 y1 Tryz.underlying54 rowE Tryz.underlying189 Tryz.underlying191 rfl rfl Tryz.underlying9 cellsE cellsS
  have h := World.var?_cell e1 v1 0
  rw [eg] at h
  exact ⟨_, h, .inr ⟨_, _, rfl⟩⟩
theorem errF_laid {W : World} (h : laidMetH Tryz.prog Rows.fnExactFormatTextRow.laid W) : ErrF W := by
  rw [MakeChecks.laidMetH_plain _ _ _ (by kernel_rfl)] at h
  have h1 := laidMet.filter (fun x => x.1 == nameAt Rows.fnExactFormatTextRow.laid 4 || x.1 == nameAt Rows.fnExactFormatTextRow.laid 5) h
  rw [show Rows.fnExactFormatTextRow.laid.filter (fun x => x.1 == nameAt Rows.fnExactFormatTextRow.laid 4 || x.1 == nameAt Rows.fnExactFormatTextRow.laid 5) = ((Rows.fnExactFormatTextRow.laid.drop 4).take 1 ++ (Rows.fnExactFormatTextRow.laid.drop 5).take 1) by kernel_rfl] at h1
  exact errF_of (r1 := []) (g0 := 7) (g1 := 6) h1 (by kernel_rfl) (by kernel_rfl) (by kernel_rfl) (by kernel_rfl) (by kernel_rfl)
end Go.Proofs.YtahcpgldpbejiaaGreatDoor
