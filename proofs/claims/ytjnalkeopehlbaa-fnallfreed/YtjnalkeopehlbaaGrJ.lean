import Derived.Test.YtjnalkeopehlbaaGrH
namespace Go.Proofs.Ytjnalkeopehlbaa
open Go.RowKit Go.Maps
set_option linter.unusedVariables false
set_option linter.unusedSimpArgs false

/-- The rows behind a hold. -/
def ordH (ord : Nat → List Nat) (mp : Nat → List (Nat × Int)) (tb : Nat → Nat) (i j : Nat) : Nat → List Nat := if cntM (mp i) (tb j) = 0 then (fun k => if k = i then ord i ++ [j] else ord k) else ord
/-- The maps behind a hold. -/
def mpH (mp : Nat → List (Nat × Int)) (tb : Nat → Nat) (i j : Nat) : Nat → List (Nat × Int) := fun k => if k = i then setM (mp i) (tb j) (cntM (mp i) (tb j) + 1) else mp k
/-- The count in the map, and the count in the thing. -/
theorem TS.tail {W : World} {B n1 : Nat} {tb mb : Nat → Nat} {cnt : Nat → Int} {rw : Nat → Value} {ord : Nat → List Nat} {mp : Nat → List (Nat × Int)} (h : TS W B n1 tb mb cnt rw ord mp) (i j : Nat) (hi : i < n1) (hj : j < n1) (C : Int) (hC : cntM (mp i) (tb j) = C) (hB : B ≤ W.heap.size) :
    W.cell? ⟨tb i, 6, none⟩ = some (.map (some (mb i))) ∧ (Instr.lookup 76 (.map (some (mb i))) (.pointer (some ⟨tb j, 0, none⟩)) false).run Try.prog W = .ok (.int .i64 C) W ∧
    ∃ W3, (Instr.mapUpdate 76 (.map (some (mb i))) (.pointer (some ⟨tb j, 0, none⟩)) (.int .i64 (C + 1))).run Try.prog W = .ok () W3 ∧ W3.cell? ⟨tb j, 2, none⟩ = some (.int .i64 (cnt j)) ∧ W3.frozen? ⟨tb j, 2, none⟩ = false ∧
      TS (W3.setCell ⟨tb j, 2, none⟩ (.int .i64 (cnt j + 1))) B n1 tb mb (fun k => if k = j then cnt j + 1 else cnt k) rw ord (mpH mp tb i j) ∧ Below B W (W3.setCell ⟨tb j, 2, none⟩ (.int .i64 (cnt j + 1))) ∧ ∀ b, b < W.heap.size → b ≠ tb j → b ≠ mb i → (W3.setCell ⟨tb j, 2, none⟩ (.int .i64 (cnt j + 1))).heap[b]? = W.heap[b]? := by
  have hL := (h.map i hi).get (tb j) (h.pl j hj) (h.plk i hi)
  obtain ⟨W3, hU, hP3, hg3⟩ := (h.map i hi).put (tb j) (h.pl j hj) (h.plk i hi) (C + 1)
  have h3 := h.mapped i j hi hj (C + 1) hP3 hg3
  have b3 : Below B W W3 := gb_to hg3 (fun q hq => by have e := Option.some.inj hq; have := (h.low i hi).2; omega) hB
  refine ⟨cell_obj (h.obj i hi) rfl, by rw [← hC]; exact hL, W3, hU, cell_obj (h3.obj j hj) rfl, frozen_obj (h3.obj j hj), ?_, b3.setCell (h.low j hj).1 _, fun b hb h1 h2 => (Below.heap_setCell _ _ _ _ h1).trans (hg3.block b hb (fun e => h2 (Option.some.inj e)))⟩
  have h4 := h3.count j hj (cnt j + 1)
  unfold mpH
  rw [hC]
  exact h4
/-- The world behind 'append' of a row, before the row is stored. -/
theorem TS.app {w w' : World} {B n1 : Nat} {tb mb : Nat → Nat} {cnt : Nat → Int} {rw : Nat → Value} {ord : Nat → List Nat} {mp : Nat → List (Nat × Int)} (h : TS w B n1 tb mb cnt rw ord mp) (i : Nat) (hi : i < n1) (hg : w.grownBy w' (rw i).ownBlock) :
    w'.cell? ⟨tb i, 7, none⟩ = some (rw i) ∧ w'.frozen? ⟨tb i, 7, none⟩ = false ∧ w'.cell? ⟨tb i, 6, none⟩ = some (.map (some (mb i))) := by
  have hw := (hg.block (tb i) (h.lt i hi).1 (fun e => h.tr i i hi hi e.symm)).trans (h.obj i hi)
  exact ⟨cell_obj hw rfl, frozen_obj hw, cell_obj hw rfl⟩
theorem TS.stored {w wA w' : World} {B n1 : Nat} {tb mb : Nat → Nat} {cnt : Nat → Int} {rw : Nat → Value} {ord : Nat → List Nat} {mp : Nat → List (Nat × Int)} (h : TS wA B n1 tb mb cnt rw ord mp) (i j : Nat) (hi : i < n1) (hj : j < n1) (hA : Below B w wA) (C : Int) (hC : cntM (mp i) (tb j) = C) (hBA : B ≤ wA.heap.size) (b' c' : Nat) (o4 : OwnG shT 56 w' B (.slice (some ⟨b', 0, none⟩) (((ord i).map tb).length + [tb j].length) c') ((ord i).map tb ++ [tb j])) (hg : wA.grownBy w' (rw i).ownBlock) (hl : (rw i).ownBlock = some b' ∨ b' = wA.heap.size) :
    w'.cell? ⟨tb i, 7, none⟩ = some (rw i) ∧ w'.frozen? ⟨tb i, 7, none⟩ = false ∧ w'.cell? ⟨tb i, 6, none⟩ = some (.map (some (mb i))) ∧ Below B w (w'.setCell ⟨tb i, 7, none⟩ (.slice (some ⟨b', 0, none⟩) ((ord i).length + 1) c')) ∧
    TS (w'.setCell ⟨tb i, 7, none⟩ (.slice (some ⟨b', 0, none⟩) ((ord i).length + 1) c')) B n1 tb mb cnt (fun k => if k = i then .slice (some ⟨b', 0, none⟩) ((ord i).length + 1) c' else rw k) (fun k => if k = i then ord i ++ [j] else ord k) mp ∧ ∀ b, b < wA.heap.size → b ≠ tb i → (rw i).ownBlock ≠ some b → (w'.setCell ⟨tb i, 7, none⟩ (.slice (some ⟨b', 0, none⟩) ((ord i).length + 1) c')).heap[b]? = wA.heap[b]? := by
  obtain ⟨d7, f7, d6⟩ := h.app i hi hg
  have hTL := h.longer i j hi hj b' _ c' (by rw [List.map_append]; exact o4) hg hl
  have b4 := hA.trans (gb_to (B := B) hg (fun q hq => ((h.row i hi).lt q hq).1) hBA)
  have e : ((ord i).map tb).length + [tb j].length = (ord i).length + 1 := by simp
  rw [e] at hTL
  exact ⟨d7, f7, d6, b4.setCell (h.low i hi).1 _, hTL, fun b hb h1 h2 => (Below.heap_setCell _ _ _ _ h1).trans (hg.block b hb (fun e => h2 e.symm))⟩
set_option maxRecDepth 100000 in
set_option maxHeartbeats 1500000 in
theorem hold_any (B n1 i j : Nat) (tb mb : Nat → Nat) (cnt : Nat → Int) (rw : Nat → Value) (ord : Nat → List Nat) (mp : Nat → List (Nat × Int)) (w : World) (h : TS w B n1 tb mb cnt rw ord mp) (hi : i < n1) (hj : j < n1) (hc : 0 ≤ cntM (mp i) (tb j) ∧ cntM (mp i) (tb j) ≤ 16777216) (hcn : 0 ≤ cnt j ∧ cnt j ≤ 16777216) (hol : (ord i).length + 1 ≤ 16777216) (hB : B ≤ w.heap.size) :
    Calls Try.prog 30 #[.pointer (some ⟨tb i, 0, none⟩), .pointer (some ⟨tb j, 0, none⟩)] w fun e w' => e = .returned (.tuple #[]) ∧ ∃ rw', TS w' B n1 tb mb (fun k => if k = j then cnt j + 1 else cnt k) rw' (ordH ord mp tb i j) (mpH mp tb i j) ∧ Below B w w' ∧ ∀ b, b < w.heap.size → b ≠ tb i → b ≠ tb j → b ≠ mb i → (rw i).ownBlock ≠ some b → w'.heap[b]? = w.heap[b]? := by
  obtain ⟨C, hC⟩ : ∃ C, cntM (mp i) (tb j) = C := ⟨_, rfl⟩
  rw [hC] at hc
  have hw1 : IntKind.i64.wrap (C + 1) = C + 1 := by simp [IntKind.wrap, IntKind.bits, IntKind.signed]; omega
  have hw2 : IntKind.i64.wrap (cnt j + 1) = cnt j + 1 := by simp [IntKind.wrap, IntKind.bits, IntKind.signed]; omega
  go_enter Try.func30, Try.ntmps30
  by_cases e0 : C = 0
  · have c7 : w.cell? ⟨tb i, 7, none⟩ = some (rw i) := cell_obj (h.obj i hi) rfl
    obtain ⟨c6, hL, -⟩ := h.tail i j hi hj C hC hB
    have al : Below w.heap.size w (w.alloc (.cells #[.pointer (some ⟨tb j, 0, none⟩)] 56)) := (Below.refl _ _).alloc (Nat.le_refl _) _
    have hTA := h.keep al
    have HTA : Hid _ := hTA
    have oR := hTA.row i hi
    have cA : (w.alloc (.cells #[.pointer (some ⟨tb j, 0, none⟩)] 56)).cell? ⟨w.heap.size, 0, none⟩ = some (.pointer (some ⟨tb j, 0, none⟩)) := by rw [World.cell?_alloc_at _ _ _ _ rfl]; rfl
    have hcc : ∀ k (h : k < [tb j].length), (w.alloc (.cells #[.pointer (some ⟨tb j, 0, none⟩)] 56)).cell? ⟨w.heap.size, k, none⟩ = some (pk [tb j][k]) := fun k hk => by
      obtain rfl : k = 0 := by simpa using hk
      exact cA
    have HCC : Hid _ := hcc
    have hml : ((ord i).map tb).length = (ord i).length := by simp
    have hsA := al.size
    have bA : Below B w _ := al.mono hB
    have hlo := (h.low i hi).1
    clear hcc hTA h
    rw [e0] at hL hw1
    go_wp2_with (at_builtin; refine wpList_append_T rfl (.tmp 15) (.tmp 17) 55 rfl Try.underlying55 B (rw i) ((ord i).map tb) [tb j] rfl oR w.heap.size 1 rfl Nat.zero_lt_one HCC.out (by rw [hml]; exact hol) (by omega) ?_; intro b' c' w' oF4 hg4 hl4 hz4; obtain ⟨d7, f7, d6, b5, hTL, q5⟩ := HTA.out.stored i j hi hj bA C hC (by omega) b' c' oF4 hg4 hl4; obtain ⟨g6, gL, W3, gU, g2, gf, hT3, b6, q6⟩ := hTL.tail i j hi hj C hC (Nat.le_trans hB b5.size); rw [e0] at gL gU; rw [Int.zero_add] at gU)
    go_end0
    have eo : ordH ord mp tb i j = fun k => if k = i then ord i ++ [j] else ord k := by unfold ordH; rw [hC, if_pos e0]
    rw [eo]
    exact ⟨rfl, _, hT3, b5.trans b6, fun b hb n1 n2 n3 n4 => ((q6 b (Nat.lt_of_lt_of_le hb b5.size) n2 n3).trans (q5 b (by omega) n1 n4)).trans ((MapKept.heap_alloc w _).2 b hb)⟩
  · obtain ⟨g6, gL, W3, gU, g2, gf, hT3, b6, q6⟩ := h.tail i j hi hj C hC hB
    have eo : ordH ord mp tb i j = ord := by unfold ordH; rw [hC, if_neg e0]
    have HT3 : Hid _ := hT3
    clear h hT3
    go_wp2
    go_end0
    rw [eo]
    exact ⟨rfl, _, HT3.out, b6, fun b hb n1 n2 n3 n4 => q6 b hb n2 n3⟩
end Go.Proofs.Ytjnalkeopehlbaa
