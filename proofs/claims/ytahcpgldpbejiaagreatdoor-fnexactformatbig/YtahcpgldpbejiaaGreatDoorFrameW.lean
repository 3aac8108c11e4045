import Derived.Test.YtahcpgldpbejiaaGreatDoorFrameE
import Derived.Stop.LaidErr
import Derived.Test.YtahcpgldpbejiaaGreatDoorZBase
import Derived.Test.YtahcpgldpbejiaaGreatDoorFmD
import Derived.ProofKit
import Derived.OpenShut
import Derived.ShutString
import Derived.ChangeOld
import Derived.Below
import Derived.Lib.SmallJoins
namespace Go.Proofs.YtahcpgldpbejiaaGreatDoor
open Go.ChangeShapes Go.WideShapes Go.ChangeAt Go.RowKit Go.Joins
open Go.ChangeMaps (open_string shut_string)
set_option linter.unusedVariables false
set_option linter.unusedSimpArgs false

theorem Tryz.cells27 : Tryz.prog.cellsOf 27 = 2 := by kernel_rfl
theorem Tryz.cells72 : Tryz.prog.cellsOf 72 = 1 := by kernel_rfl
theorem rowBig : 27 < Tryz.prog.types.size := of_decide_eq_true (by kernel_rfl)
theorem readBig : Tryz.prog.readableRec 27 = true := by kernel_rfl

theorem bounds_u64 {n : Int} (h : (Lit.int .u64 n).wf = true) : 0 ≤ n ∧ n ≤ 18446744073709551615 := by
  simp [Lit.wf, IntKind.min, IntKind.max, IntKind.signed, IntKind.bits] at h
  omega

theorem u32_bounds {n : Int} (h : (Lit.int .u32 n).wf = true) : 0 ≤ n ∧ n < 4294967296 := by
  simp [Lit.wf, IntKind.min, IntKind.max, IntKind.signed, IntKind.bits] at h
  omega

set_option maxRecDepth 100000 in
/-- A number that came in, opened: its sign; its limbs. -/
theorem open_big {H : Type} {enc : TypeId × Value → H} {W : World} {base : Nat} {v : Value} {d : DataW H} {p : List MemPlace} (hv : Value.okWide Tryz.prog W .any base 27 v)
    (h : DataW.Trod enc Tryz.prog W 0 (fun _ => true) true 27 v d p) :
    ∃ neg a cap zs, v = .agg #[.bool neg, .slice a (List.length zs) cap] ∧ zs.length ≤ 9223372036854775807 ∧ (zs.length ≤ 1048576 → Z.Rd W (.slice a zs.length cap) zs) := by
  have hlt : ∀ x ∈ p, x.block < W.heap.size := by obtain ⟨m, hm⟩ := h; exact DataW.trod_lt m _ _ _ hm
  obtain ⟨c0, c1, y0, y1, m, rfl, rfl, rfl, hy0, hy1⟩ := open_agg2 Tryz.underlying27 (by kernel_rfl) Tryz.cells27 hv h
  obtain ⟨neg, e0, rfl⟩ := DataW.trod_bool Tryz.underlying4 hy0
  simp at e0
  subst e0
  rcases open_ints Tryz.underlying25 Tryz.underlying72 Tryz.cells72 hy1 with ⟨hcs, hx⟩ | ⟨x, l, c, zs, hcs, _, hl, hm, hz, hx, hcell, hwz⟩
  · simp at hcs
    subst hcs
    exact ⟨neg, none, 0, [], rfl, by simp, fun _ => ⟨none, 0, rfl, by simp, Z.Limbs.nil, ⟨Nat.le_refl _, fun _ => rfl⟩, fun h => by simp at h⟩⟩
  · simp at hcs
    subst hcs
    have hz' : zs.length = c := by simpa using hz
    have hlen : (zs.take l).length = l := by simp; omega
    unfold maxLen at hm
    refine ⟨neg, some x, c, zs.take l, by rw [hlen], by omega, fun hb => ⟨some x, c, rfl, by omega, fun z hz => u32_bounds (hwz z (List.mem_of_mem_take hz)), ⟨by omega, fun h => by (cases h)⟩, fun h0 => ?_⟩⟩
    obtain ⟨b, off, spot⟩ := x
    have hc0 := hcell 0 (by omega)
    have hspot : spot = none := by simpa [Addr.add] using World.cell?_spot hc0
    subst hspot
    have hb : b < W.heap.size := by
      have : (MemPlace.cell b off) ∈ y1.2 := by rw [hx]; simp [MemPlace.row, Addr.add]; omega
      exact hlt (MemPlace.cell b off) (by simpa using this)
    refine ⟨b, off, rfl, hb, fun k hk => ?_⟩
    have hk' : k < l := by omega
    have := hcell k (by omega)
    have e : (⟨b, off, none⟩ : Addr).add k = ⟨b, off + k, none⟩ := by unfold Addr.add; split <;> simp_all
    rw [e] at this
    rw [this]
    simp [List.getD, List.getElem?_take, hk']

theorem errF_of {W : World} {n0 n1 : String} {t0 t1 : List UInt8} {r1 : List (String × DataW Unit)} {g0 g1 : Nat}
    (h1 : laidMet Tryz.prog ((n0, .iface nmE (.ptr (.agg [.lit (.string t0)]))) :: (n1, .iface nmE (.ptr (.agg [.lit (.string t1)]))) :: r1) W)
    (e0 : Tryz.prog.globalNamed n0 = some g0) (e1 : Tryz.prog.globalNamed n1 = some g1) (eg : g1 = Tryz.laysAtoi_ren.g 15)
    (y0 : (Tryz.prog.globals[g0]?).map (·.type) = some 54) (y1 : (Tryz.prog.globals[g1]?).map (·.type) = some 54) : ErrF W := by
  obtain ⟨a0, a1, s0, s1, c0, c1, u0, u1, v0, v1, _⟩ := laid_sentinels2 h1 e0 y0 e1 y1 Tryz.underlying54 rowE Tryz.underlying189 Tryz.underlying191 rfl rfl Tryz.underlying9 cellsE cellsS
  have h := World.var?_cell e1 v1 0
  rw [eg] at h
  exact ⟨_, h, .inr ⟨_, _, rfl⟩⟩
end Go.Proofs.YtahcpgldpbejiaaGreatDoor
