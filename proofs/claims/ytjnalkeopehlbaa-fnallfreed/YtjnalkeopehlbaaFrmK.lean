import Derived.Test.YtjnalkeopehlbaaFrmS
import Derived.Test.YtjnalkeopehlbaaDrwZ
import Derived.ChangeSlices
import Derived.Deep.Slices
namespace Go.Proofs.Ytjnalkeopehlbaa
open Go.ChangeShapes Go.WideShapes Go.ChangeAt Go.RowKit Go.Joins
set_option linter.unusedVariables false
set_option linter.unusedSimpArgs false

theorem cellsY : Try.prog.cellsOf 5 = 1 := by kernel_rfl
theorem rowY : 40 < Try.prog.types.size := of_decide_eq_true (by kernel_rfl)
theorem readY : Try.prog.readableRec 40 = true := by kernel_rfl
theorem u8_bounds {n : Int} (h : (Lit.int .u8 n).wf = true) : 0 ≤ n ∧ n < 256 := by
  simp [Lit.wf, IntKind.min, IntKind.max, IntKind.signed, IntKind.bits] at h
  omega
set_option maxRecDepth 100000 in
/-- Bytes that came in, opened. -/
theorem open_byt {H : Type} {enc : TypeId × Value → H} {W : World} {base : Nat} {v : Value} {d : DataW H} {p : List MemPlace} (hv : Value.okWide Try.prog W .any base 40 v)
    (h : DataW.Trod enc Try.prog W 0 (fun _ => true) true 40 v d p) :
    ∃ (a : Option Addr) (cap : Nat) (zs : List Int), v = .slice a zs.length cap ∧ zs.length ≤ 9223372036854775807 ∧ (zs.length ≤ 1048576 → Src W a zs.length cap zs) := by
  have hlt : ∀ x ∈ p, x.block < W.heap.size := by obtain ⟨m, hm⟩ := h; exact DataW.trod_lt m _ _ _ hm
  obtain ⟨a0, len, cap, rfl⟩ := okWide_slice Try.underlying40 hv
  obtain ⟨fuel, hf⟩ := h
  rcases open_ints Try.underlying40 Try.underlying5 cellsY hf with ⟨hcs, hx⟩ | ⟨x, l, c, ss, hcs, _, hl, hm, hz, hx, hcell, hwz⟩
  · have hcs' : [Value.slice a0 len cap] = [Value.slice none 0 0] := hcs
    simp only [List.cons.injEq, Value.slice.injEq, and_true] at hcs'
    obtain ⟨rfl, rfl, rfl⟩ := hcs'
    exact ⟨none, 0, [], rfl, by simp, fun _ => ⟨by simp, fun k => by simp, fun h => by simp at h⟩⟩
  · have hcs' : [Value.slice a0 len cap] = [Value.slice (some x) l c] := hcs
    simp only [List.cons.injEq, Value.slice.injEq, and_true] at hcs'
    obtain ⟨rfl, rfl, rfl⟩ := hcs'
    have hz' : ss.length = cap := by simpa using hz
    have hlen : (ss.take len).length = len := by simp; omega
    unfold maxLen at hm
    refine ⟨some x, cap, ss.take len, by rw [hlen], by omega, fun hb => ⟨by omega, fun k => ?_, fun h0 => ?_⟩⟩
    · by_cases hk : k < (ss.take len).length
      · have : (ss.take len).getD k 0 = (ss.take len)[k] := by rw [List.getD, List.getElem?_eq_getElem hk]; rfl
        rw [this]
        exact u8_bounds (hwz _ (List.mem_of_mem_take (List.getElem_mem hk)))
      · have : (ss.take len).getD k 0 = 0 := by rw [List.getD, List.getElem?_eq_none (by omega)]; rfl
        rw [this]; omega
    obtain ⟨b, off, spot⟩ := x
    have hc0 := hcell 0 (by omega)
    have hspot : spot = none := by simpa [Addr.add] using World.cell?_spot hc0
    subst hspot
    have hb : b < W.heap.size := by
      have : (MemPlace.cell b off) ∈ p := by
        have hp : p = MemPlace.row ⟨b, off, none⟩ ss.length := by simpa using congrArg Prod.snd hx
        rw [hp]; simp [MemPlace.row, Addr.add]; omega
      exact hlt (MemPlace.cell b off) this
    refine ⟨b, off, rfl, hb, fun k hk => ?_⟩
    have hk' : k < len := by omega
    have := hcell k (by omega)
    have e : (⟨b, off, none⟩ : Addr).add k = ⟨b, off + k, none⟩ := by unfold Addr.add; split <;> simp_all
    rw [e] at this
    rw [this]
    simp [List.getD, List.getElem?_take, hk']
end Go.Proofs.Ytjnalkeopehlbaa
