import Derived.Test.YtfcoffllelgakaaDoorFrameE
import Derived.Stop.LaidErr
import Derived.Test.YtfcoffllelgakaaDoorBase
import Derived.ProofKit
import Derived.OpenShut
import Derived.ShutString
import Derived.ChangeOld
import Derived.Below
import Derived.Lib.SmallJoins
namespace Go.Proofs.YtfcoffllelgakaaDoor
open Go.ChangeShapes Go.WideShapes Go.ChangeAt Go.RowKit Go.Joins
open Go.ChangeMaps (open_string shut_string)
set_option linter.unusedVariables false
set_option linter.unusedSimpArgs false

theorem Tryd.cells24 : Tryd.prog.cellsOf 24 = 2 := by kernel_rfl
theorem Tryd.cells48 : Tryd.prog.cellsOf 48 = 1 := by kernel_rfl
theorem rowBig : 24 < Tryd.prog.types.size := of_decide_eq_true (by kernel_rfl)
theorem readBig : Tryd.prog.readableRec 24 = true := by kernel_rfl

theorem bounds_u64 {n : Int} (h : (Lit.int .u64 n).wf = true) : 0 ≤ n ∧ n ≤ 18446744073709551615 := by
  simp [Lit.wf, IntKind.min, IntKind.max, IntKind.signed, IntKind.bits] at h
  omega

theorem u32_bounds {n : Int} (h : (Lit.int .u32 n).wf = true) : 0 ≤ n ∧ n < 4294967296 := by
  simp [Lit.wf, IntKind.min, IntKind.max, IntKind.signed, IntKind.bits] at h
  omega

set_option maxRecDepth 100000 in
/-- A number that came in, opened: its sign; its limbs. -/
theorem open_big {H : Type} {enc : TypeId × Value → H} {W : World} {base : Nat} {v : Value} {d : DataW H} {p : List MemPlace} (hv : Value.okWide Tryd.prog W .any base 24 v)
    (h : DataW.Trod enc Tryd.prog W 0 (fun _ => true) true 24 v d p) :
    ∃ neg a cap zs, v = .agg #[.bool neg, .slice a (List.length zs) cap] ∧ zs.length ≤ 9223372036854775807 ∧ (zs.length ≤ 1048576 → Rd W (.slice a zs.length cap) zs) := by
  have hlt : ∀ x ∈ p, x.block < W.heap.size := by obtain ⟨m, hm⟩ := h; exact DataW.trod_lt m _ _ _ hm
  obtain ⟨c0, c1, y0, y1, m, rfl, rfl, rfl, hy0, hy1⟩ := open_agg2 Tryd.underlying24 (by kernel_rfl) Tryd.cells24 hv h
  obtain ⟨neg, e0, rfl⟩ := DataW.trod_bool Tryd.underlying4 hy0
  simp at e0
  subst e0
  rcases open_ints Tryd.underlying22 Tryd.underlying48 Tryd.cells48 hy1 with ⟨hcs, hx⟩ | ⟨x, l, c, zs, hcs, _, hl, hm, hz, hx, hcell, hwz⟩
  · simp at hcs
    subst hcs
    exact ⟨neg, none, 0, [], rfl, by simp, fun _ => ⟨none, 0, rfl, by simp, Limbs.nil, ⟨Nat.le_refl _, fun _ => rfl⟩, fun h => by simp at h⟩⟩
  · simp at hcs
    subst hcs
    have hz' : zs.length = c := by simpa using hz
    have hlen : (zs.take l).length = l := by simp; omega
    unfold maxLen at hm
    refine ⟨neg, some x, c, zs.take l, by rw [hlen], by omega, fun hb => ⟨some x, c, rfl, by omega, fun z hz => u32_bounds (hwz z (List.mem_of_mem_take hz)), ⟨by omega, fun h => by (cases h)⟩, fun h0 => ?_⟩⟩
    obtain ⟨b, off, spot⟩ := x
    have hc0 := hcell 0 (by omega)
    have hspot : spot = none := by simpa [Addr.add] using World.cell?_spot hc0
    subst hspot
    have hb : b < W.heap.size := by
      have : (MemPlace.cell b off) ∈ y1.2 := by rw [hx]; simp [MemPlace.row, Addr.add]; omega
      exact hlt (MemPlace.cell b off) (by simpa using this)
    refine ⟨b, off, rfl, hb, fun k hk => ?_⟩
    have hk' : k < l := by omega
    have := hcell k (by omega)
    have e : (⟨b, off, none⟩ : Addr).add k = ⟨b, off + k, none⟩ := by unfold Addr.add; split <;> simp_all
    rw [e] at this
    rw [this]
    simp [List.getD, List.getElem?_take, hk']

theorem vars1 {H : Type} {enc : TypeId × Value → H} {P : Program} {w : World} {sp : Nat → Bool} {n0 : String} {gs : List (DataW H)} {ps : List MemPlace} (h : DataW.TrodVars enc P w sp [n0] gs ps) : ∃ a, gs = [a] := by
  cases gs with
  | nil => exact h.elim
  | cons a l =>
    obtain ⟨_, _, _, _, _, _, _, _, _, _, h, _⟩ := h
    cases l with
    | nil => exact ⟨a, rfl⟩
    | cons b l => exact h.elim
/-- The one sentinel at the head of 'laid'. -/
theorem errA_of {W : World} {n0 : String} {t0 : List UInt8} {r : List (String × DataW Unit)}
    (h1 : laidMet Tryd.prog ((n0, .iface nmE (.ptr (.agg [.lit (.string t0)]))) :: r) W)
    (g0 : Tryd.prog.globalNamed n0 = some 0) (y0 : (Tryd.prog.globals[0]?).map (·.type) = some 53) :
    ∃ aA, W.cell? ⟨0, 0, none⟩ = some (errAt aA) := by
  obtain ⟨a0, s0, v0, _⟩ := laid_sentinel h1 g0 y0 Tryd.underlying53 rowE Tryd.underlying135 Tryd.underlying159 rfl rfl Tryd.underlying9 cellsE cellsS
  exact ⟨a0, World.var?_cell g0 v0 0⟩
end Go.Proofs.YtfcoffllelgakaaDoor
