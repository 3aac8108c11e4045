import Derived.Test.YtjnalkeopehlbaaRows
import Derived.Test.YtjnalkeopehlbaaHelpZ
import Derived.ProofKit
import Derived.OpenShut
import Derived.ShutString
import Derived.ChangeOld
import Derived.Below
import Derived.Lib.SmallJoins
import Derived.Deep.Slices
namespace Go.Proofs.Ytjnalkeopehlbaa
open Go.ChangeShapes Go.WideShapes Go.ChangeAt Go.RowKit Go.Joins
set_option linter.unusedVariables false
set_option linter.unusedSimpArgs false

theorem own : ownKnob Try.prog.godebug = none := by kernel_rfl
theorem laidOut : laidOutB Try.prog = true := by kernel_rfl
theorem bounds_i64 {n : Int} (h : (Lit.int .i64 n).wf = true) : -9223372036854775808 ≤ n ∧ n ≤ 9223372036854775807 := by
  simp [Lit.wf, IntKind.min, IntKind.max, IntKind.signed, IntKind.bits] at h
  omega
theorem cellsI : Try.prog.cellsOf 2 = 1 := by kernel_rfl
theorem rowKs : 23 < Try.prog.types.size := of_decide_eq_true (by kernel_rfl)
theorem readKs : Try.prog.readableRec 23 = true := by kernel_rfl

set_option maxRecDepth 100000 in
/-- A list of integers that came in, opened. -/
theorem open_i64s {H : Type} {enc : TypeId × Value → H} {W : World} {fuel : Nat} {v : Value} {x : DataW H × List MemPlace} (h : DataW.trod enc Try.prog W 0 (fun _ => true) true fuel 23 [v] = some x) :
    ∃ (zs : List Int), (∃ a cap, v = .slice a zs.length cap) ∧ zs.length ≤ 9223372036854775807 ∧ (zs.length ≤ 1048576 → Rd W v zs) := by
  rcases open_ints Try.underlying23 Try.underlying2 cellsI h with ⟨hcs, hx⟩ | ⟨x, l, c, zs, hcs, _, hl, hm, hz, hx, hcell, hwz⟩
  · simp at hcs
    subst hcs
    exact ⟨[], ⟨_, _, rfl⟩, by simp, fun _ => ⟨none, 0, rfl, by simp, Limbs.nil, ⟨Nat.le_refl _, fun _ => rfl⟩, fun h => by simp at h⟩⟩
  · simp at hcs
    subst hcs
    have hz' : zs.length = c := by simpa using hz
    have hlen : (zs.take l).length = l := by simp; omega
    unfold maxLen at hm
    refine ⟨zs.take l, ⟨some x, c, by rw [hlen]⟩, by omega, fun hb => ⟨some x, c, by rw [hlen], by omega, fun z hz => ?_, ⟨by omega, fun h => by (cases h)⟩, fun h0 => ?_⟩⟩
    · have := bounds_i64 (hwz z (List.mem_of_mem_take hz)); omega
    obtain ⟨b, off, spot⟩ := x
    have hc0 := hcell 0 (by omega)
    have hspot : spot = none := by simpa [Addr.add] using World.cell?_spot hc0
    subst hspot
    have hb : b < W.heap.size := by
      have := World.block_lt_of_cell? W _ hc0
      simpa [Addr.add] using this
    refine ⟨b, off, rfl, hb, fun k hk => ?_⟩
    have hk' : k < l := by omega
    have := hcell k (by omega)
    have e : (⟨b, off, none⟩ : Addr).add k = ⟨b, off + k, none⟩ := by unfold Addr.add; split <;> simp_all
    rw [e] at this
    rw [this]
    simp [List.getD, List.getElem?_take, hk']

set_option maxRecDepth 100000 in
/-- A list of numbers that came in. -/
theorem open_keys {H : Type} {enc : TypeId × Value → H} {W : World} {base : Nat} {v : Value} {d : DataW H} {p : List MemPlace} (hv : Value.okWide Try.prog W .any base 23 v)
    (h : DataW.Trod enc Try.prog W 0 (fun _ => true) true 23 v d p) :
    ∃ (a : Option Addr) (cap : Nat) (zs : List Int), v = .slice a zs.length cap ∧ zs.length ≤ 9223372036854775807 ∧ (zs.length ≤ 1048576 → Rd W (.slice a zs.length cap) zs) := by
  obtain ⟨a0, len, cap, rfl⟩ := okWide_slice Try.underlying23 hv
  obtain ⟨fuel, hf⟩ := h
  obtain ⟨zs, ⟨a, c, e⟩, h1, h2⟩ := open_i64s hf
  refine ⟨a, c, zs, e, h1, fun h3 => ?_⟩
  have := h2 h3
  rw [e] at this
  exact this
end Go.Proofs.Ytjnalkeopehlbaa
