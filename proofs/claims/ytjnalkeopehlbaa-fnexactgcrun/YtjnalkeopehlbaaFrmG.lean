import Derived.Test.YtjnalkeopehlbaaFrmS
import Derived.Test.YtjnalkeopehlbaaGrO
namespace Go.Proofs.Ytjnalkeopehlbaa
open Go.ChangeShapes Go.WideShapes Go.ChangeAt Go.RowKit Go.Joins
set_option linter.unusedVariables false
set_option linter.unusedSimpArgs false

theorem cellsLG : Try.prog.cellsOf 54 = 3 := by kernel_rfl
theorem rowGs : 22 < Try.prog.types.size := of_decide_eq_true (by kernel_rfl)
theorem readGs : Try.prog.readableRec 22 = true := by kernel_rfl
instance : Inhabited Gp := ⟨⟨0, 0, 0⟩⟩

set_option maxRecDepth 100000 in
/-- A list of entries that came in, opened. -/
theorem open_gops0 {H : Type} {enc : TypeId × Value → H} {W : World} {fuel : Nat} {v : Value} {x : DataW H × List MemPlace} (h : DataW.trod enc Try.prog W 0 (fun _ => true) true fuel 22 [v] = some x) :
    ∃ (a : Option Addr) (cap : Nat) (es : List Gp), v = .slice a es.length cap ∧ es.length ≤ 9223372036854775807 ∧ (es.length ≤ 1048576 → RdGo W (.slice a es.length cap) es) := by
  rcases Deep.open_slice Try.underlying22 h with ⟨hcs, -⟩ | ⟨a, len, cap, m, n, D, Pl, hcs, _, hl, hm, hmm, -, hx⟩
  · simp at hcs
    subst hcs
    exact ⟨none, 0, [], rfl, by simp, fun _ => ⟨none, 0, rfl, by simp, by simp, ⟨Nat.le_refl _, fun _ => rfl⟩, fun h => by simp at h⟩⟩
  · simp at hcs
    subst hcs
    simp at hmm
    subst hmm
    have each : ∀ i, i < m → ∃ e : Gp, shGo.ok e ∧ W.cell? (a.add (i * 3)) = some (.int .i64 e.c) ∧ W.cell? (a.add (i * 3 + 1)) = some (.int .i64 e.a) ∧ W.cell? (a.add (i * 3 + 2)) = some (.int .i64 e.b) := by
      intro i hi
      obtain ⟨cs', h1, h2⟩ := hx i hi
      rw [cellsLG] at h1
      obtain ⟨_, hlen, hcell⟩ := World.cells?_some h1
      obtain ⟨xs, k, hk, hxy, _, hxl, hf⟩ := DataW.trod_struct Try.underlying54 h2
      match xs, hxl, cs', hlen with
      | [y0, y1, y2], _, [v0, v1, v2], _ =>
        have g0 := hf 0 _ rfl
        have g1 := hf 1 _ rfl
        have g2 := hf 2 _ rfl
        simp [cellsI] at g0 g1 g2
        obtain ⟨n0, e0, -, w0⟩ := DataW.trod_int Try.underlying2 g0
        obtain ⟨n1, e1, -, w1⟩ := DataW.trod_int Try.underlying2 g1
        obtain ⟨n2, e2, -, w2⟩ := DataW.trod_int Try.underlying2 g2
        simp at e0 e1 e2
        subst e0 e1 e2
        have q0 := hcell 0 (by omega)
        have q1 := hcell 1 (by omega)
        have q2 := hcell 2 (by omega)
        rw [Deep.add_add] at q0 q1 q2
        have b0 := bounds_i64 w0
        have b1 := bounds_i64 w1
        have b2 := bounds_i64 w2
        exact ⟨⟨n0, n1, n2⟩, ⟨⟨b0.1, by show n0 < _; omega⟩, ⟨b1.1, by show n1 < _; omega⟩, ⟨b2.1, by show n2 < _; omega⟩⟩, by simpa using q0, by simpa using q1, by simpa using q2⟩
    obtain ⟨q, hq⟩ := Deep.choose_lt each
    unfold maxLen at hm
    refine ⟨some a, m, (List.range len).map q, by simp, by simp; omega, fun hb => ?_⟩
    refine ⟨some a, m, by simp, by simp at hb ⊢; omega, fun e he => ?_, ⟨by simpa using hl, fun h => by cases h⟩, fun h0 => ?_⟩
    · simp at he
      obtain ⟨i, hi, rfl⟩ := he
      exact (hq i (by omega)).1
    · simp at h0
      obtain ⟨b, off, spot⟩ := a
      have hc0 := (hq 0 (by omega)).2.1
      have hspot : spot = none := by simpa [Addr.add] using World.cell?_spot hc0
      subst hspot
      have ad : ∀ j, (⟨b, off, none⟩ : Addr).add j = ⟨b, off + j, none⟩ := fun j => by unfold Addr.add; split <;> simp_all
      have hbb : b < W.heap.size := by
        rw [ad] at hc0; exact World.block_lt_of_cell? W _ hc0
      refine ⟨b, off, rfl, hbb, fun k hk j hj => ?_⟩
      have hk' : k < len := by simpa using hk
      obtain ⟨-, r0, r1, r2⟩ := hq k (by omega)
      rw [ad] at r0 r1 r2
      have hj4 : j < 3 := hj
      have : j = 0 ∨ j = 1 ∨ j = 2 := by omega
      simp only [List.getElem_map, List.getElem_range]
      show W.cell? ⟨b, off + k * 3 + j, none⟩ = (shGo.cs (q k))[j]?
      rcases this with rfl | rfl | rfl
      · exact r0
      · exact r1
      · exact r2


set_option maxRecDepth 100000 in
/-- A list of operations that came in. -/
theorem open_gops {H : Type} {enc : TypeId × Value → H} {W : World} {base : Nat} {v : Value} {d : DataW H} {p : List MemPlace} (hv : Value.okWide Try.prog W .any base 22 v)
    (h : DataW.Trod enc Try.prog W 0 (fun _ => true) true 22 v d p) :
    ∃ (a : Option Addr) (cap : Nat) (es : List Gp), v = .slice a es.length cap ∧ es.length ≤ 9223372036854775807 ∧ (es.length ≤ 1048576 → RdGo W (.slice a es.length cap) es) := by
  obtain ⟨a0, len, cap, rfl⟩ := okWide_slice Try.underlying22 hv
  obtain ⟨fuel, hf⟩ := h
  exact open_gops0 hf
end Go.Proofs.Ytjnalkeopehlbaa
