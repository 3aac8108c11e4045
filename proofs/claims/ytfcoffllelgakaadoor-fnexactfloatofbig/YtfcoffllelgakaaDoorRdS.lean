import Derived.Test.YtfcoffllelgakaaDoorTrim
import Derived.Test.YtfcoffllelgakaaDoorMgRN
namespace Go.Proofs.YtfcoffllelgakaaDoor
open Go.RowKit
set_option linter.unusedVariables false
set_option linter.unusedSimpArgs false

theorem lim53 : lim (2 ^ 53) = [0, 2097152] := by
  rw [lim_pos (by decide), lim_pos (by decide)]
  rw [show (2 ^ 53 / 4294967296 / 4294967296 : Nat) = 0 from by decide, lim_zero]
  rfl
theorem lim52 : lim (2 ^ 52) = [0, 1048576] := by
  rw [lim_pos (by decide), lim_pos (by decide)]
  rw [show (2 ^ 52 / 4294967296 / 4294967296 : Nat) = 0 from by decide, lim_zero]
  rfl
set_option maxHeartbeats 1000000 in
set_option maxRecDepth 100000 in
theorem shr53_any (v : Value) (w : World) (hx : Rd w v [0, 2097152]) :
    Calls Tryd.prog 58 #[v, .int .i64 1] w fun e w' => ∃ a c, e = .returned (.slice a (lim (2 ^ 52)).length c) ∧ Own w' w.heap.size (.slice a (lim (2 ^ 52)).length c) (lim (2 ^ 52)) ∧ Below w.heap.size w w' := by
  obtain ⟨a, cap, rfl, _, hzx, hnx, hcx⟩ := hx
  obtain ⟨b, off, rfl, hb, hcell⟩ := hcx (by simp)
  have c0 : w.cell? ⟨b, off, none⟩ = some (.int .u32 0) := hcell 0 (by simp)
  have c1 : w.cell? ⟨b, off + 1, none⟩ = some (.int .u32 2097152) := hcell 1 (by simp)
  have hT := fun W v (hr : Rd W v [0, 1048576]) => trimS_any v [0, 1048576] W hr
  rw [show val [0, 1048576] = 2 ^ 52 from by decide] at hT
  generalize lim (2 ^ 52) = L at hT ⊢
  clear hcx hcell hzx hnx
  show Calls Tryd.prog 58 #[.slice (some ⟨b, off, none⟩) 2 cap, .int .i64 1] w _
  go_enter Tryd.func58, Tryd.ntmps58
  go_wp2
  go_loopw [5, 8, 9] (fun o i _ wr => ∃ (k : Nat) (ao : Option Addr) (co : Nat), k ≤ 2 ∧ i = .int .i64 k ∧ o = .slice ao ([0, 1048576].take k : List Int).length co ∧ Own wr w.heap.size (.slice ao ([0, 1048576].take k : List Int).length co) ([0, 1048576].take k) ∧ Below w.heap.size w wr)
    (fun _ i _ _ => 2 - (intOf i).toNat)
  case atStart => exact ⟨0, _, _, by omega, rfl, rfl, Own.empty w, (Below.refl _ _).alloc (Nat.le_refl _) _⟩
  case round =>
    obtain ⟨k, ao, co, hk, rfl, rfl, hOw, hBr⟩ := hrel
    have d0 := (hBr.cell (p := ⟨b, off, none⟩) hb).trans c0
    have d1 := (hBr.cell (p := ⟨b, off + 1, none⟩) hb).trans c1
    rcases (by omega : k = 0 ∨ k = 1 ∨ k = 2) with rfl | rfl | rfl
    · go_wp2_with (at_builtin; refine wpList_append_rd rfl _ _ 22 rfl Tryd.underlying22 w.heap.size _ _ [] [0] rfl rfl (hOw.alloc _) (Rd.one wr wr.heap.size rfl 48 (by omega) (by omega)) (by simp) (by have := hBr.size; simp; omega) ?_; intro a1 c1' w1 hO1 hB1)
      have hB2 := (hBr.alloc hBr.size (Obj.cells #[.int .u32 0] 48)).trans hB1
      go_roundw
      case rel => exact ⟨1, a1, c1', by omega, rfl, rfl, hO1, hB2⟩
      case measure => simp [intOf]
    · go_wp2_with (at_builtin; refine wpList_append_rd rfl _ _ 22 rfl Tryd.underlying22 w.heap.size _ _ [0] [1048576] rfl rfl (hOw.alloc _) (Rd.one wr wr.heap.size rfl 48 (by omega) (by omega)) (by simp) (by have := hBr.size; simp; omega) ?_; intro a1 c1' w1 hO1 hB1)
      have hB2 := (hBr.alloc hBr.size (Obj.cells #[.int .u32 1048576] 48)).trans hB1
      go_roundw
      case rel => exact ⟨2, a1, c1', by omega, rfl, rfl, hO1, hB2⟩
      case measure => simp [intOf]
    · go_wp2_with fail
      refine (hT _ _ hOw.rd).mono ?_
      rintro e w2 ⟨a2, c2, rfl, hO2, hB2⟩
      go_wp2
      go_ret
      exact ⟨a2, c2, rfl, hO2.mono hBr.size, hBr.trans (hB2.mono hBr.size)⟩
end Go.Proofs.YtfcoffllelgakaaDoor
