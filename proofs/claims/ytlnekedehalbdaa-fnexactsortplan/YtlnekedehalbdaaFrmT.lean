import Derived.Test.YtlnekedehalbdaaFrmS
import Derived.Test.YtlnekedehalbdaaSrS
namespace Go.Proofs.Ytlnekedehalbdaa
open Go.ChangeShapes Go.WideShapes Go.ChangeAt Go.RowKit Go.Joins
set_option linter.unusedVariables false
set_option linter.unusedSimpArgs false

theorem cellsBo : Try.prog.cellsOf 4 = 1 := by kernel_rfl
theorem rowBs : 29 < Try.prog.types.size := of_decide_eq_true (by kernel_rfl)
theorem readBs : Try.prog.readableRec 29 = true := by kernel_rfl
set_option maxRecDepth 100000 in
/-- A list of truths that came in, opened. -/
theorem open_bools {H : Type} {enc : TypeId × Value → H} {W : World} {base : Nat} {v : Value} {d : DataW H} {p : List MemPlace} (hv : Value.okWide Try.prog W .any base 29 v)
    (h : DataW.Trod enc Try.prog W 0 (fun _ => true) true 29 v d p) :
    ∃ (a : Option Addr) (cap : Nat) (bs : List Bool), v = .slice a bs.length cap ∧ bs.length ≤ 9223372036854775807 ∧ (bs.length ≤ 1048576 → RdG shB W (.slice a bs.length cap) bs) := by
  obtain ⟨a0, len0, cap0, rfl⟩ := okWide_slice Try.underlying29 hv
  obtain ⟨fuel, hf⟩ := h
  have hf' : DataW.trod enc Try.prog W 0 (fun _ => true) true fuel 29 [.slice a0 len0 cap0] = some (d, p) := hf
  rcases Deep.open_slice Try.underlying29 hf' with ⟨hcs, -⟩ | ⟨a, len, cap, m, n, D, Pl, hcs, _, hl, hm, hmm, -, hx⟩
  · simp at hcs
    obtain ⟨rfl, rfl, rfl⟩ := hcs
    exact ⟨none, 0, [], rfl, by simp, fun _ => ⟨none, 0, rfl, by simp, by simp, ⟨Nat.le_refl _, fun _ => rfl⟩, fun h => by simp at h⟩⟩
  · simp at hcs
    obtain ⟨rfl, rfl, rfl⟩ := hcs
    simp at hmm
    subst hmm
    have each : ∀ i, i < m → ∃ b : Bool, W.cell? (a.add i) = some (.bool b) := by
      intro i hi
      obtain ⟨cs', h1, h2⟩ := hx i hi
      rw [cellsBo] at h1
      obtain ⟨_, hlen, hcell⟩ := World.cells?_some h1
      obtain ⟨b, hb, -⟩ := DataW.trod_bool Try.underlying4 h2
      subst hb
      have q0 := hcell 0 (by simp)
      rw [Deep.add_add] at q0
      exact ⟨b, by simpa using q0⟩
    obtain ⟨q, hq⟩ := Deep.choose_lt each
    unfold maxLen at hm
    refine ⟨some a, m, (List.range len0).map q, by simp, by simp; omega, fun hb => ?_⟩
    refine ⟨some a, m, by simp, by simp at hb ⊢; omega, fun e he => trivial, ⟨by simpa using hl, fun h => by cases h⟩, fun h0 => ?_⟩
    simp at h0
    obtain ⟨b, off, spot⟩ := a
    have hc0 := hq 0 (by omega)
    have hspot : spot = none := by simpa [Addr.add] using World.cell?_spot hc0
    subst hspot
    have ad : ∀ j, (⟨b, off, none⟩ : Addr).add j = ⟨b, off + j, none⟩ := fun j => by unfold Addr.add; split <;> simp_all
    have hbb : b < W.heap.size := by
      rw [ad] at hc0; exact World.block_lt_of_cell? W _ hc0
    refine ⟨b, off, rfl, hbb, fun k hk j hj => ?_⟩
    have hk' : k < len0 := by simpa using hk
    have r0 := hq k (by omega)
    rw [ad] at r0
    have : j = 0 := by have : j < 1 := hj; omega
    subst this
    simp only [List.getElem_map, List.getElem_range]
    simpa [shB] using r0
end Go.Proofs.Ytlnekedehalbdaa
