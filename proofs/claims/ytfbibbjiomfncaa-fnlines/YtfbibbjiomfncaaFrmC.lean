import Derived.Test.YtfbibbjiomfncaaRows
import Derived.Test.YtfbibbjiomfncaaClZ
import Derived.ProofKit
import Derived.OpenShut
import Derived.ShutString
import Derived.ChangeOld
import Derived.Below
import Derived.Lib.SmallJoins
import Derived.Deep.Slices
namespace Go.Proofs.Ytfbibbjiomfncaa
open Go.ChangeShapes Go.WideShapes Go.ChangeAt Go.RowKit Go.Joins
set_option linter.unusedVariables false
set_option linter.unusedSimpArgs false

theorem own : ownKnob Try.prog.godebug = none := by kernel_rfl
theorem laidOut : laidOutB Try.prog = true := by kernel_rfl
theorem bounds_i64 {n : Int} (h : (Lit.int .i64 n).wf = true) : -9223372036854775808 ≤ n ∧ n ≤ 9223372036854775807 := by
  simp [Lit.wf, IntKind.min, IntKind.max, IntKind.signed, IntKind.bits] at h
  omega
theorem cellsI : Try.prog.cellsOf 2 = 1 := by kernel_rfl
theorem cellsStr : Try.prog.cellsOf 9 = 1 := by kernel_rfl
theorem cellsLA : Try.prog.cellsOf 71 = 3 := by kernel_rfl
theorem cellsLC : Try.prog.cellsOf 61 = 2 := by kernel_rfl
theorem cellsIS : Try.prog.cellsOf 51 = 1 := by kernel_rfl
theorem cellsAS : Try.prog.cellsOf 39 = 1 := by kernel_rfl
theorem rowCs : 22 < Try.prog.types.size := of_decide_eq_true (by kernel_rfl)
theorem readCs : Try.prog.readableRec 22 = true := by kernel_rfl
theorem rowAs : 39 < Try.prog.types.size := of_decide_eq_true (by kernel_rfl)
theorem readAs : Try.prog.readableRec 39 = true := by kernel_rfl
instance : Inhabited At := ⟨⟨⟨#[]⟩, 0, 0⟩⟩

set_option maxRecDepth 100000 in
/-- A list of attributes that came in, opened. -/
theorem open_attrs {H : Type} {enc : TypeId × Value → H} {W : World} {fuel : Nat} {v : Value} {x : DataW H × List MemPlace} (h : DataW.trod enc Try.prog W 0 (fun _ => true) true fuel 39 [v] = some x) :
    ∃ (es : List At), Ub W v es.length (RdA W v es) := by
  rcases Deep.open_slice Try.underlying39 h with ⟨hcs, -⟩ | ⟨a, len, cap, m, n, D, Pl, hcs, _, hl, hm, hmm, -, hx⟩
  · simp at hcs
    subst hcs
    exact ⟨[], ⟨_, _, rfl⟩, by simp, fun _ => ⟨none, 0, rfl, by simp, by simp, ⟨Nat.le_refl _, fun _ => rfl⟩, fun h => by simp at h⟩⟩
  · simp at hcs
    subst hcs
    simp at hmm
    subst hmm
    have each : ∀ i, i < m → ∃ e : At, shA.ok e ∧ W.cell? (a.add (i * 3)) = some (.string e.n) ∧ W.cell? (a.add (i * 3 + 1)) = some (.int .i64 e.k) ∧ W.cell? (a.add (i * 3 + 2)) = some (.int .i64 e.v) := by
      intro i hi
      obtain ⟨cs', h1, h2⟩ := hx i hi
      rw [cellsLA] at h1
      obtain ⟨_, hlen, hcell⟩ := World.cells?_some h1
      obtain ⟨xs, k, hk, hxy, _, hxl, hf⟩ := DataW.trod_struct Try.underlying71 h2
      match xs, hxl, cs', hlen with
      | [y0, y1, y2], _, [v0, v1, v2], _ =>
        have g0 := hf 0 _ rfl
        have g1 := hf 1 _ rfl
        have g2 := hf 2 _ rfl
        simp [cellsI, cellsStr] at g0 g1 g2
        obtain ⟨n0, e0, -, w0⟩ := DataW.trod_string Try.underlying9 g0
        obtain ⟨n1, e1, -, w1⟩ := DataW.trod_int Try.underlying2 g1
        obtain ⟨n2, e2, -, w2⟩ := DataW.trod_int Try.underlying2 g2
        simp at e0 e1 e2
        subst e0 e1 e2
        have q0 := hcell 0 (by omega)
        have q1 := hcell 1 (by omega)
        have q2 := hcell 2 (by omega)
        rw [Deep.add_add] at q0 q1 q2
        have b1 := bounds_i64 w1
        have b2 := bounds_i64 w2
        exact ⟨⟨n0, n1, n2⟩, ⟨w0, ⟨b1.1, by show n1 < _; omega⟩, ⟨b2.1, by show n2 < _; omega⟩⟩, by simpa using q0, by simpa using q1, by simpa using q2⟩
    obtain ⟨q, hq⟩ := Deep.choose_lt each
    unfold maxLen at hm
    refine ⟨(List.range len).map q, ⟨some a, m, by simp⟩, by simp; omega, fun hb => ?_⟩
    refine ⟨some a, m, by simp, by simp at hb ⊢; omega, fun e he => ?_, ⟨by simpa using hl, fun h => by cases h⟩, fun h0 => ?_⟩
    · simp at he
      obtain ⟨i, hi, rfl⟩ := he
      exact (hq i (by omega)).1
    · simp at h0
      obtain ⟨b, off, spot⟩ := a
      have hc0 := (hq 0 (by omega)).2.1
      have hspot : spot = none := by simpa [Addr.add] using World.cell?_spot hc0
      subst hspot
      have ad : ∀ j, (⟨b, off, none⟩ : Addr).add j = ⟨b, off + j, none⟩ := fun j => by unfold Addr.add; split <;> simp_all
      have hbb : b < W.heap.size := by
        rw [ad] at hc0; exact World.block_lt_of_cell? W _ hc0
      refine ⟨b, off, rfl, hbb, fun k hk j hj => ?_⟩
      have hk' : k < len := by simpa using hk
      obtain ⟨-, r0, r1, r2⟩ := hq k (by omega)
      rw [ad] at r0 r1 r2
      have hj4 : j < 3 := hj
      have : j = 0 ∨ j = 1 ∨ j = 2 := by omega
      simp only [List.getElem_map, List.getElem_range]
      show W.cell? ⟨b, off + k * 3 + j, none⟩ = (At.cs (q k))[j]?
      rcases this with rfl | rfl | rfl
      · exact r0
      · exact r1
      · exact r2

set_option maxRecDepth 100000 in
/-- A list of integers that came in, opened. -/
theorem open_i64s {H : Type} {enc : TypeId × Value → H} {W : World} {fuel : Nat} {v : Value} {x : DataW H × List MemPlace} (h : DataW.trod enc Try.prog W 0 (fun _ => true) true fuel 51 [v] = some x) :
    ∃ (zs : List Int), Ub W v zs.length (Rd W v zs) := by
  rcases open_ints Try.underlying51 Try.underlying2 cellsI h with ⟨hcs, hx⟩ | ⟨x, l, c, zs, hcs, _, hl, hm, hz, hx, hcell, hwz⟩
  · simp at hcs
    subst hcs
    exact ⟨[], ⟨_, _, rfl⟩, by simp, fun _ => ⟨none, 0, rfl, by simp, Limbs.nil, ⟨Nat.le_refl _, fun _ => rfl⟩, fun h => by simp at h⟩⟩
  · simp at hcs
    subst hcs
    have hz' : zs.length = c := by simpa using hz
    have hlen : (zs.take l).length = l := by simp; omega
    unfold maxLen at hm
    refine ⟨zs.take l, ⟨some x, c, by rw [hlen]⟩, by omega, fun hb => ⟨some x, c, by rw [hlen], by omega, fun z hz => ?_, ⟨by omega, fun h => by (cases h)⟩, fun h0 => ?_⟩⟩
    · have := bounds_i64 (hwz z (List.mem_of_mem_take hz)); omega
    obtain ⟨b, off, spot⟩ := x
    have hc0 := hcell 0 (by omega)
    have hspot : spot = none := by simpa [Addr.add] using World.cell?_spot hc0
    subst hspot
    have hb : b < W.heap.size := by
      have := World.block_lt_of_cell? W _ hc0
      simpa [Addr.add] using this
    refine ⟨b, off, rfl, hb, fun k hk => ?_⟩
    have hk' : k < l := by omega
    have := hcell k (by omega)
    have e : (⟨b, off, none⟩ : Addr).add k = ⟨b, off + k, none⟩ := by unfold Addr.add; split <;> simp_all
    rw [e] at this
    rw [this]
    simp [List.getD, List.getElem?_take, hk']

instance : Inhabited (Sp × Cl) := ⟨⟨⟨none, 0, 0, none, 0, 0⟩, ⟨[], []⟩⟩⟩
set_option maxRecDepth 100000 in
/-- A list of classes that came in, opened. -/
theorem open_classes {H : Type} {enc : TypeId × Value → H} {W : World} {base : Nat} {v : Value} {d : DataW H} {p : List MemPlace} (hv : Value.okWide Try.prog W .any base 22 v)
    (h : DataW.Trod enc Try.prog W 0 (fun _ => true) true 22 v d p) :
    ∃ (a : Option Addr) (c : Nat) (cs : List Cl), v = .slice a cs.length c ∧ UbC W (.slice a cs.length c) cs := by
  obtain ⟨a0, len0, cap0, rfl⟩ := okWide_slice Try.underlying22 hv
  obtain ⟨fuel, hf⟩ := h
  have hf' : DataW.trod enc Try.prog W 0 (fun _ => true) true fuel 22 [.slice a0 len0 cap0] = some (d, p) := hf
  rcases Deep.open_slice Try.underlying22 hf' with ⟨hcs, -⟩ | ⟨a, len, cap, m, n, D, Pl, hcs, _, hl, hm, hmm, -, hx⟩
  · simp at hcs
    obtain ⟨rfl, rfl, rfl⟩ := hcs
    exact ⟨none, 0, [], rfl, ⟨_, _, rfl⟩, by simp, fun _ => ⟨[], ⟨none, 0, rfl, by simp, by simp, ⟨Nat.le_refl _, fun _ => rfl⟩, fun h => by simp at h⟩, rfl, fun k h => by simp at h⟩⟩
  · simp at hcs
    obtain ⟨rfl, rfl, rfl⟩ := hcs
    simp at hmm
    subst hmm
    have each : ∀ i, i < m → ∃ e : Sp × Cl, UbK W e.1 e.2 ∧ W.cell? (a.add (i * 2)) = some e.1.s1 ∧ W.cell? (a.add (i * 2 + 1)) = some e.1.s2 := by
      intro i hi
      obtain ⟨cs', h1, h2⟩ := hx i hi
      rw [cellsLC] at h1
      obtain ⟨_, hlen, hcell⟩ := World.cells?_some h1
      obtain ⟨xs, k, hk, hxy, _, hxl, hf⟩ := DataW.trod_struct Try.underlying61 h2
      match xs, hxl, cs', hlen with
      | [y0, y1], _, [v0, v1], _ =>
        have g0 := hf 0 _ rfl
        have g1 := hf 1 _ rfl
        simp [cellsIS, cellsAS] at g0 g1
        obtain ⟨zs, u0⟩ := open_i64s g0
        obtain ⟨es, u1⟩ := open_attrs g1
        obtain ⟨⟨a1, c1, rfl⟩, l1, r1⟩ := u0
        obtain ⟨⟨a2, c2, rfl⟩, l2, r2⟩ := u1
        have q0 := hcell 0 (by omega)
        have q1 := hcell 1 (by omega)
        rw [Deep.add_add] at q0 q1
        exact ⟨⟨⟨a1, zs.length, c1, a2, es.length, c2⟩, ⟨zs, es⟩⟩, ⟨⟨⟨_, _, rfl⟩, l1, r1⟩, ⟨⟨_, _, rfl⟩, l2, r2⟩⟩, by simpa [Sp.s1] using q0, by simpa [Sp.s2] using q1⟩
    obtain ⟨q, hq⟩ := Deep.choose_lt each
    unfold maxLen at hm
    refine ⟨some a, m, (List.range len0).map fun i => (q i).2, by simp, ⟨_, _, rfl⟩, by simp; omega, fun hb => ⟨(List.range len0).map fun i => (q i).1, ?_, by simp, fun k h h' => ?_⟩⟩
    · refine ⟨some a, m, by simp, by simp at hb ⊢; omega, fun e he => trivial, ⟨by simpa using hl, fun h => by cases h⟩, fun h0 => ?_⟩
      simp at h0
      obtain ⟨b, off, spot⟩ := a
      have hc0 := (hq 0 (by omega)).2.1
      have hspot : spot = none := by simpa [Addr.add] using World.cell?_spot hc0
      subst hspot
      have ad : ∀ j, (⟨b, off, none⟩ : Addr).add j = ⟨b, off + j, none⟩ := fun j => by unfold Addr.add; split <;> simp_all
      have hbb : b < W.heap.size := by
        rw [ad] at hc0; exact World.block_lt_of_cell? W _ hc0
      refine ⟨b, off, rfl, hbb, fun k hk j hj => ?_⟩
      have hk' : k < len0 := by simpa using hk
      obtain ⟨-, r0, r1⟩ := hq k (by omega)
      rw [ad] at r0 r1
      have hj4 : j < 2 := hj
      have : j = 0 ∨ j = 1 := by omega
      simp only [List.getElem_map, List.getElem_range]
      show W.cell? ⟨b, off + k * 2 + j, none⟩ = [(q k).1.s1, (q k).1.s2][j]?
      rcases this with rfl | rfl
      · exact r0
      · exact r1
    · have hk' : k < len0 := by simpa using h
      simp only [List.getElem_map, List.getElem_range]
      exact (hq k (by omega)).1
end Go.Proofs.Ytfbibbjiomfncaa
