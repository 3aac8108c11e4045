import Derived.Test.YtfbibbjiomfncaaMrD
import Derived.Lib.Overlaps
import Derived.Lib.AppendZerosOnto
import Derived.Laws.IdiomCopy
namespace Go.Proofs.Ytfbibbjiomfncaa
open Go.RowKit Go.Maps
set_option linter.unusedVariables false
set_option linter.unusedSimpArgs false

theorem heap_setCells_raw (g : Nat) (T : TypeId) : ∀ (vs : List Value) (o : Nat) (w : World) (cur : Array Value), w.heap[g]? = some (.cells cur T (0, 0)) → ∃ cur', (w.setCells g o vs).heap[g]? = some (.cells cur' T (0, 0)) ∧ cur'.size = cur.size
  | [], o, w, cur, h => ⟨cur, h, rfl⟩
  | v :: r, o, w, cur, h => by
    obtain ⟨c', h1, h2⟩ := heap_setCells_raw g T r (o + 1) _ _ (heap_setCell_same w g o cur T v h)
    exact ⟨c', h1, by simpa using h2⟩
/-- What lies in a block of ours, told by its cells. -/
theorem Own.of_cells {w : World} {B g n cap : Nat} {cur : Array Value} {zs : List Int} (hB : B ≤ g) (hh : w.heap[g]? = some (.cells cur 2 (0, 0))) (hs : cur.size = cap) (hc : n ≤ cap) (hm : cap ≤ maxLen) (hn : n = zs.length) (hl : zs.length ≤ 16777216) (hz : Limbs zs)
    (hcell : ∀ k (hk : k < zs.length), w.cell? ⟨g, k, none⟩ = some (.int .i64 zs[k])) : Own w B (.slice (some ⟨g, 0, none⟩) n cap) zs := by
  subst hn
  refine ⟨⟨by simp, .inr ⟨g, cap, cur, rfl, hB, hh, hc, hm, by omega, ?_⟩⟩, hl, hz⟩
  apply List.ext_getElem?
  intro j
  rw [Nat.mul_one, List.getElem?_take]
  by_cases hj : j < zs.length
  · have := hcell j hj
    simp only [World.cell?, hh] at this
    simp only [hj, if_true, List.getElem?_map]
    rw [Array.getElem?_toList, List.getElem?_eq_getElem hj]
    simpa using this
  · simp only [hj, if_false]
    rw [List.getElem?_eq_none (by simp; omega)]
theorem Own.raw {w : World} {B g n cap : Nat} {zs : List Int} (h : Own w B (.slice (some ⟨g, 0, none⟩) n cap) zs) : ∃ cur, w.heap[g]? = some (.cells cur 2 (0, 0)) ∧ cur.size = cap ∧ cap ≤ maxLen ∧ B ≤ g ∧ n = zs.length ∧ n ≤ cap := by
  obtain ⟨⟨h1, h2⟩, _⟩ := h
  rcases h2 with ⟨e, _⟩ | ⟨g', cap', cur, e, hg, hh, hc, hm, hs, ht⟩
  · cases e
  · simp only [Value.slice.injEq, Option.some.injEq, Addr.mk.injEq, and_true] at e
    obtain ⟨rfl, e2, rfl⟩ := e
    exact ⟨cur, hh, by omega, hm, hg, e2, by omega⟩

set_option maxRecDepth 100000 in
set_option maxHeartbeats 4000000 in
/-- There is room: in place. -/
theorem insert_room (B g cap : Nat) (xs : List Int) (x : Int) (vb : Nat) (w : World) (hO : Own w B (.slice (some ⟨g, 0, none⟩) xs.length cap) xs) (h0 : 0 < xs.length) (hc : xs.length < cap) (hl : xs.length ≤ 1000) (hx : -9223372036854775808 ≤ x ∧ x < 9223372036854775808)
    (hvb : vb ≠ g) (hvh : w.heap[vb]? = some (.cells #[.int .i64 x] 2 (0, 0))) :
    Calls Try.prog 75 #[.slice (some ⟨g, 0, none⟩) xs.length cap, .int .i64 0, .slice (some ⟨vb, 0, none⟩) 1 1] w fun e w' => e = .returned (.slice (some ⟨g, 0, none⟩) (xs.length + 1) cap) ∧ w' = (w.drew.setCells g 1 (xs.map (Value.int .i64))).setCells g 0 [.int .i64 x] := by
  obtain ⟨cur, hh, hcs, hm, hBg, -, -⟩ := hO.raw
  have hcapm : cap ≤ 9223372036854775807 := by unfold maxLen at hm; omega
  have hcl := fun k hk => hO.cell k hk
  have hfz : ∀ j, w.frozen? ⟨g, j, none⟩ = false := fun j => hO.frozen j
  have hsp : ∀ j, j < cap → (w.cell? ⟨g, j, none⟩).isSome = true := fun j hj => by
    have hj' : j < cur.size := by omega
    simp [World.cell?, hh, hj']
  have hvc : w.cell? ⟨vb, 0, none⟩ = some (.int .i64 x) := by simp [World.cell?, hvh]
  have hsa : w.shape? vb = some (2, 1) := by simp [World.shape?, hvh]
  have hsb : w.shape? g = some (2, cap) := by simp [World.shape?, hh, hcs]
  have hfa : w.frozen? ⟨vb, 0, none⟩ = false := by simp [World.frozen?, hvh]
  have hfe : w.frozen? ⟨vb, 1, none⟩ = false := by simp [World.frozen?, hvh]
  have hsz : (Try.prog.info? 2).map (·.size) = some 1 := by
    obtain ⟨i0, hi0, h0, h1, h2⟩ := info_parts Try.info2
    rw [hi0]; simp [h1]
  have hov : ∀ lb cb, (callFunc 83 #[.slice (some ⟨vb, 0, none⟩) 1 1, .slice (some ⟨g, 1, none⟩) lb cb]).run Try.prog w = .ok (.value (.bool false)) w := fun lb cb => by
    rw [run_callFunc_extern Try.func83 (by kernel_rfl) (by kernel_rfl) (by kernel_rfl) (e := Extern.SlicesOverlaps.overlaps #[51, 51] #[4]) (by kernel_rfl),
      Lib.run_overlaps_apart w 51 4 2 Try.underlying51 1 (by intro w; kernel_rfl) ⟨vb, 0, none⟩ ⟨g, 1, none⟩ 1 1 lb cb hvb 2 2 1 cap hsa hsb (by omega) hfa hfe]
    rfl
  have hcp1 : ∀ ty, (Builtin.copy_ #[51, 51] ty #[.slice (some ⟨g, 1, none⟩) xs.length (cap - 1), .slice (some ⟨g, 0, none⟩) (xs.length + 1) cap]).run Try.prog w.drew = .ok (goInt xs.length) (w.drew.setCells g 1 (xs.map (Value.int .i64))) := fun ty => by
    have := run_copy_cells (P := Try.prog) w.drew 51 51 ty 2 g 1 xs.length (cap - 1) ⟨g, 0, none⟩ (xs.length + 1) cap (xs.map (Value.int .i64)) Try.underlying51 hsz (by simp [Nat.min_def])
      (fun j v hj => by
        have hj' : j < xs.length := by
          rcases Nat.lt_or_ge j xs.length with h | h
          · exact h
          · rw [List.getElem?_eq_none (by simpa using h)] at hj; cases hj
        rw [Addr.add_lit, Nat.zero_add]
        have := hcl j hj'
        simp [hj', List.getD] at hj this
        rw [← hj]; exact this)
      (fun j hj => hsp _ (by simp at hj; omega)) (fun j hj => hfz _) (fun v hv => by simp at hv; obtain ⟨y, _, rfl⟩ := hv; rfl)
    simpa using this
  obtain ⟨W1, hW1⟩ : ∃ W1, W1 = w.drew.setCells g 1 (xs.map (Value.int .i64)) := ⟨_, rfl⟩
  have hc0 : (W1.cell? ⟨g, 0, none⟩).isSome = true := by
    rw [hW1, World.cell?_setCells_out _ _ _ _ _ (fun _ _ => .inl (Nat.zero_lt_one))]
    exact hsp 0 (by omega)
  have hcv : W1.cell? ⟨vb, 0, none⟩ = some (.int .i64 x) := by
    rw [hW1, World.cell?_setCells_out _ _ _ _ _ (fun h _ => absurd h hvb)]
    exact hvc
  have hf1 : W1.frozen? ⟨g, 0, none⟩ = false := by rw [hW1, World.frozen?_setCells]; exact hfz 0
  have hcp2 : ∀ ty, (Builtin.copy_ #[51, 51] ty #[.slice (some ⟨g, 0, none⟩) (xs.length + 1) cap, .slice (some ⟨vb, 0, none⟩) 1 1]).run Try.prog W1 = .ok (goInt 1) (W1.setCells g 0 [.int .i64 x]) := fun ty => by
    have := run_copy_cells (P := Try.prog) W1 51 51 ty 2 g 0 (xs.length + 1) cap ⟨vb, 0, none⟩ 1 1 [.int .i64 x] Try.underlying51 hsz (by simp [Nat.min_def])
      (fun j v hj => by
        cases j with
        | zero => simp at hj; subst hj; simpa [Addr.add] using hcv
        | succ j => simp at hj)
      (fun j hj => by simp at hj; subst hj; exact hc0) (fun j hj => by simp at hj; subst hj; exact hf1) (fun v hv => by simp at hv; subst hv; rfl)
    simpa using this
  rw [← hW1] at hcp1 ⊢
  have HW : Hid _ := hW1
  obtain ⟨n, hn⟩ : ∃ n, xs.length = n := ⟨_, rfl⟩
  rw [hn] at hcp1 hcp2 h0 hc hl ⊢
  clear hW1 hsp hcl hfz hsa hsb hfa hfe hvc hcv hc0 hf1 hn hh hvh hO
  have hi1 : ((n : Int) == 0) = false := by rw [beq_eq_false_iff_ne]; omega
  have hi1' : ((0 : Int) == n) = false := by rw [beq_eq_false_iff_ne]; omega
  have hi2 : ¬ ((cap : Int) < (n : Int) + 1) := by omega
  have hi3 : (n : Int) + 1 ≤ (cap : Int) := by omega
  have hi4 : ¬ cap = 1 := by omega
  have hi5 : ¬ 1 = cap := by omega
  have hw1 : IntKind.i64.wrap ((n : Int) + 1) = (n : Int) + 1 := by rw [IntKind.wrap_i64]; omega
  go_enter Try.func75, Try.ntmps75
  go_wp2_with (simp only [hov])
  go_region
  go_wp2
  go_ret
  exact ⟨rfl, rfl⟩
end Go.Proofs.Ytfbibbjiomfncaa
