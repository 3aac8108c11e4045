import Derived.Test.YtnpjlmnhailipaaFrmZ
import Derived.Deep.Slices
namespace Go.Proofs.Ytnpjlmnhailipaa
open Go.ChangeShapes Go.WideShapes Go.ChangeAt Go.RowKit Go.Joins
set_option linter.unusedVariables false
set_option linter.unusedSimpArgs false

theorem cellsI : Try.prog.cellsOf 2 = 1 := by kernel_rfl
theorem cellsU : Try.prog.cellsOf 37 = 1 := by kernel_rfl
theorem cellsB : Try.prog.cellsOf 4 = 1 := by kernel_rfl
theorem cellsL : Try.prog.cellsOf 101 = 4 := by kernel_rfl
theorem cellsD : Try.prog.cellsOf 32 = 3 := by kernel_rfl
theorem rowD : 32 < Try.prog.types.size := of_decide_eq_true (by kernel_rfl)
theorem readD : Try.prog.readableRec 32 = true := by kernel_rfl
instance : Inhabited En := ⟨⟨0, 0, 0, false⟩⟩

set_option maxRecDepth 100000 in
/-- A list of entries that came in, opened. -/
theorem open_ens {H : Type} {enc : TypeId × Value → H} {W : World} {fuel : Nat} {v : Value} {x : DataW H × List MemPlace} (h : DataW.trod enc Try.prog W 0 (fun _ => true) true fuel 30 [v] = some x) :
    ∃ (a : Option Addr) (cap : Nat) (es : List En), v = .slice a es.length cap ∧ es.length ≤ 9223372036854775807 ∧ (es.length ≤ 1048576 → RdE W (.slice a es.length cap) es) := by
  rcases Deep.open_slice Try.underlying30 h with ⟨hcs, -⟩ | ⟨a, len, cap, m, n, D, Pl, hcs, _, hl, hm, hmm, -, hx⟩
  · simp at hcs
    subst hcs
    exact ⟨none, 0, [], rfl, by simp, fun _ => ⟨none, 0, rfl, by simp, by simp, ⟨Nat.le_refl _, fun _ => rfl⟩, fun h => by simp at h⟩⟩
  · simp at hcs
    subst hcs
    simp at hmm
    subst hmm
    have each : ∀ i, i < m → ∃ e : En, shE.ok e ∧ W.cell? (a.add (i * 4)) = some (.int .u64 e.h) ∧ W.cell? (a.add (i * 4 + 1)) = some (.int .i64 e.k) ∧ W.cell? (a.add (i * 4 + 2)) = some (.int .i64 e.v) ∧ W.cell? (a.add (i * 4 + 3)) = some (.bool e.g) := by
      intro i hi
      obtain ⟨cs', h1, h2⟩ := hx i hi
      rw [cellsL] at h1
      obtain ⟨_, hlen, hcell⟩ := World.cells?_some h1
      obtain ⟨xs, k, hk, hxy, _, hxl, hf⟩ := DataW.trod_struct Try.underlying101 h2
      match xs, hxl, cs', hlen with
      | [y0, y1, y2, y3], _, [v0, v1, v2, v3], _ =>
        have g0 := hf 0 _ rfl
        have g1 := hf 1 _ rfl
        have g2 := hf 2 _ rfl
        have g3 := hf 3 _ rfl
        simp [cellsI, cellsU, cellsB] at g0 g1 g2 g3
        obtain ⟨n0, e0, -, w0⟩ := DataW.trod_int Try.underlying37 g0
        obtain ⟨n1, e1, -, w1⟩ := DataW.trod_int Try.underlying2 g1
        obtain ⟨n2, e2, -, w2⟩ := DataW.trod_int Try.underlying2 g2
        obtain ⟨n3, e3, -⟩ := DataW.trod_bool Try.underlying4 g3
        simp at e0 e1 e2 e3
        subst e0 e1 e2 e3
        have q0 := hcell 0 (by omega)
        have q1 := hcell 1 (by omega)
        have q2 := hcell 2 (by omega)
        have q3 := hcell 3 (by omega)
        rw [Deep.add_add] at q0 q1 q2 q3
        have b0 := bounds_u64 w0
        have b1 := bounds_i64 w1
        have b2 := bounds_i64 w2
        exact ⟨⟨n0, n1, n2, n3⟩, ⟨⟨b0.1, by show n0 < _; omega⟩, ⟨b1.1, by show n1 < _; omega⟩, ⟨b2.1, by show n2 < _; omega⟩⟩, by simpa using q0, by simpa using q1, by simpa using q2, by simpa using q3⟩
    obtain ⟨q, hq⟩ := Deep.choose_lt each
    unfold maxLen at hm
    refine ⟨some a, m, (List.range len).map q, by simp, by simp; omega, fun hb => ?_⟩
    refine ⟨some a, m, by simp, by simp at hb ⊢; omega, fun e he => ?_, ⟨by simpa using hl, fun h => by cases h⟩, fun h0 => ?_⟩
    · simp at he
      obtain ⟨i, hi, rfl⟩ := he
      exact (hq i (by omega)).1
    · simp at h0
      obtain ⟨b, off, spot⟩ := a
      have hc0 := (hq 0 (by omega)).2.1
      have hspot : spot = none := by simpa [Addr.add] using World.cell?_spot hc0
      subst hspot
      have ad : ∀ j, (⟨b, off, none⟩ : Addr).add j = ⟨b, off + j, none⟩ := fun j => by unfold Addr.add; split <;> simp_all
      have hbb : b < W.heap.size := by
        rw [ad] at hc0; exact World.block_lt_of_cell? W _ hc0
      refine ⟨b, off, rfl, hbb, fun k hk j hj => ?_⟩
      have hk' : k < len := by simpa using hk
      obtain ⟨-, r0, r1, r2, r3⟩ := hq k (by omega)
      rw [ad] at r0 r1 r2 r3
      have hj4 : j < 4 := hj
      have : j = 0 ∨ j = 1 ∨ j = 2 ∨ j = 3 := by omega
      simp only [List.getElem_map, List.getElem_range]
      show W.cell? ⟨b, off + k * 4 + j, none⟩ = (En.cs (q k))[j]?
      rcases this with rfl | rfl | rfl | rfl
      · exact r0
      · exact r1
      · exact r2
      · exact r3

set_option maxRecDepth 100000 in
/-- A dict that came in, opened. -/
theorem open_dict {H : Type} {enc : TypeId × Value → H} {W : World} {base : Nat} {v : Value} {d : DataW H} {p : List MemPlace} (hv : Value.okWide Try.prog W .any base 32 v)
    (h : DataW.Trod enc Try.prog W 0 (fun _ => true) true 32 v d p) :
    ∃ (a1 a2 : Option Addr) (c1 c2 : Nat) (ds : List Int) (de : List En) (l : Int), v = .agg #[.slice a1 ds.length c1, .slice a2 de.length c2, .int .i64 l] ∧ ds.length ≤ 9223372036854775807 ∧ de.length ≤ 9223372036854775807 ∧
      (ds.length + de.length ≤ 1048576 → Rd W (.slice a1 ds.length c1) ds ∧ RdE W (.slice a2 de.length c2) de) ∧ (-9223372036854775808 ≤ l ∧ l ≤ 9223372036854775807) := by
  have hlt : ∀ x ∈ p, x.block < W.heap.size := by obtain ⟨m, hm⟩ := h; exact DataW.trod_lt m _ _ _ hm
  obtain ⟨v0, v1, v2, y0, y1, y2, m, rfl, rfl, rfl, hy0, hy1, hy2⟩ := open_agg3 Try.underlying32 (by kernel_rfl) cellsD hv h
  obtain ⟨l, el, -, wl⟩ := DataW.trod_int Try.underlying2 hy2
  simp at el
  subst el
  obtain ⟨a2, c2, de, rfl, hl2, hr2⟩ := open_ens hy1
  obtain ⟨a1, c1, ds, rfl, hl1, hr1⟩ : ∃ (a : Option Addr) (cap : Nat) (zs : List Int), v0 = .slice a zs.length cap ∧ zs.length ≤ 9223372036854775807 ∧ (zs.length ≤ 1048576 → Rd W (.slice a zs.length cap) zs) := by
    rcases open_ints Try.underlying22 Try.underlying2 cellsI hy0 with ⟨hcs, hx⟩ | ⟨x, l, c, zs, hcs, _, hl, hm, hz, hx, hcell, hwz⟩
    · simp at hcs
      subst hcs
      exact ⟨none, 0, [], rfl, by simp, fun _ => ⟨none, 0, rfl, by simp, Limbs.nil, ⟨Nat.le_refl _, fun _ => rfl⟩, fun h => by simp at h⟩⟩
    · simp at hcs
      subst hcs
      have hz' : zs.length = c := by simpa using hz
      have hlen : (zs.take l).length = l := by simp; omega
      unfold maxLen at hm
      refine ⟨some x, c, zs.take l, by rw [hlen], by omega, fun hb => ⟨some x, c, rfl, by omega, fun z hz => ?_, ⟨by omega, fun h => by (cases h)⟩, fun h0 => ?_⟩⟩
      · have := bounds_i64 (hwz z (List.mem_of_mem_take hz)); omega
      obtain ⟨b, off, spot⟩ := x
      have hc0 := hcell 0 (by omega)
      have hspot : spot = none := by simpa [Addr.add] using World.cell?_spot hc0
      subst hspot
      have hb : b < W.heap.size := by
        have := World.block_lt_of_cell? W _ hc0
        simpa [Addr.add] using this
      refine ⟨b, off, rfl, hb, fun k hk => ?_⟩
      have hk' : k < l := by omega
      have := hcell k (by omega)
      have e : (⟨b, off, none⟩ : Addr).add k = ⟨b, off + k, none⟩ := by unfold Addr.add; split <;> simp_all
      rw [e] at this
      rw [this]
      simp [List.getD, List.getElem?_take, hk']
  exact ⟨a1, a2, c1, c2, ds, de, l, rfl, hl1, hl2, fun hs => ⟨hr1 (by omega), hr2 (by omega)⟩, bounds_i64 wl⟩
end Go.Proofs.Ytnpjlmnhailipaa
