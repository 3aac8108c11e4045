import Derived.Test.YtfoofbcfcekleaaGreatDoorQtH
import Derived.Deep.WholeRow
namespace Go.Proofs.YtfoofbcfcekleaaGreatDoor
open Go.RowKit Go.Lib
set_option linter.unusedVariables false
set_option linter.unusedSimpArgs false

def TOc (W : World) (src : ByteArray) : Prop := Calls Tryz.prog 12 #[.string src] W fun e w' => e = .returned (.bool true) ∧ Below W.heap.size W w'
def HSc (src : ByteArray) : Prop := ∀ W, Calls Tryz.prog 13 #[.string src, .string ⟨#[13]⟩] W fun e w' => e = .returned (.bool false) ∧ w' = W
def SCc (w : World) (src T : ByteArray) (LN : Nat) : Prop := ∀ W sb, Sc W sb src 0 (.slice none 0 0) → Below w.heap.size w W → Calls Tryz.prog 19 #[.pointer (some ⟨sb, 0, none⟩)] W fun e w' => e = .returned (.agg #[.int .i64 0, .int .i64 0]) ∧ (∃ ta' tc', Ts w' (W.heap.size + 1) sb src (LN + 2) 3 ta' tc' [⟨5, T, 1⟩, ⟨8, ⟨#[]⟩, 1⟩, ⟨11, ⟨#[]⟩, 1⟩]) ∧ Below sb W w'
theorem all_set {a : Array Value} {p : Value → Bool} {i : Nat} {v : Value} (h : a.all p = true) (hv : p v = true) : (a.setIfInBounds i v).all p = true := by
  rw [Array.all_eq_true_iff_forall_mem] at h ⊢
  intro x hx
  rcases Array.mem_or_eq_of_mem_setIfInBounds hx with k | k
  · exact h x k
  · rw [k]; exact hv
theorem zero_sz : Tryz.zeroCells58.size = 167 := by kernel_rfl
theorem zero_all : Tryz.zeroCells58.all (·.oneCell') = true := by kernel_rfl
theorem zero_at : Tryz.zeroCells58[1]? = some (.int .i64 0) ∧ Tryz.zeroCells58[3]? = some (.slice none 0 0) ∧ Tryz.zeroCells58[124]? = some (.int .i64 0) ∧ Tryz.zeroCells58[125]? = some (.int .i64 0) ∧ Tryz.zeroCells58[166]? = some (.int .i64 0) := ⟨by kernel_rfl, by kernel_rfl, by kernel_rfl, by kernel_rfl, by kernel_rfl⟩
theorem new_scan (W : World) (src : ByteArray) : (storeCells ⟨W.heap.size, 0, none⟩ ((Tryz.zeroCells58.toList.set 0 (.string src)).set 2 (.int .i64 1))).run Tryz.prog (W.alloc (.cells Tryz.zeroCells58 58)) = .ok () (W.alloc (.cells ((Tryz.zeroCells58.setIfInBounds 0 (.string src)).setIfInBounds 2 (.int .i64 1)) 58)) := by
  have hi : (Tryz.prog.info? 58).map (·.size) = some 167 := by kernel_rfl
  have h := run_storeCells_new (P := Tryz.prog) W 58 Tryz.zeroCells58 ((Tryz.zeroCells58.setIfInBounds 0 (.string src)).setIfInBounds 2 (.int .i64 1)) (by rw [Array.size_setIfInBounds, Array.size_setIfInBounds, zero_sz]; exact hi) (by rw [Array.size_setIfInBounds, Array.size_setIfInBounds]) (all_set (all_set zero_all rfl) rfl)
  rw [Array.toList_setIfInBounds, Array.toList_setIfInBounds] at h
  exact h
theorem new_sc (W : World) (src : ByteArray) : Sc (W.alloc (.cells ((Tryz.zeroCells58.setIfInBounds 0 (.string src)).setIfInBounds 2 (.int .i64 1)) 58)) W.heap.size src 0 (.slice none 0 0) := by
  obtain ⟨z1, z3, z4, z5, z6⟩ := zero_at
  have hz := zero_sz
  exact ⟨_, (MapKept.heap_alloc W _).1, by rw [Array.size_setIfInBounds, Array.size_setIfInBounds, hz], set_oth (set_it (by omega)) (by decide), set_oth (set_oth z1 (by decide)) (by decide), set_it (by rw [Array.size_setIfInBounds]; omega), set_oth (set_oth z3 (by decide)) (by decide), set_oth (set_oth z4 (by decide)) (by decide), set_oth (set_oth z5 (by decide)) (by decide), set_oth (set_oth z6 (by decide)) (by decide)⟩
set_option maxHeartbeats 4000000 in
set_option maxRecDepth 100000 in
theorem Tokens_any (src T : ByteArray) (LN : Nat) (w : World) (hTO : TOc (w.alloc (.cells #[.int .i64 0, .int .i64 0] 29)) src) (hHS : HSc src) (hSC : SCc w src T LN) :
    Calls Tryz.prog 8 #[.string src] w fun e w' => ∃ ta tc B, e = .returned (.tuple #[.slice ta 3 tc, .agg #[.int .i64 0, .int .i64 0]]) ∧ w.heap.size ≤ B ∧ OwnG shTk 33 w' B (.slice ta 3 tc) [⟨5, T, 1⟩, ⟨8, ⟨#[]⟩, 1⟩, ⟨11, ⟨#[]⟩, 1⟩] ∧ Below w.heap.size w w' := by
  have al : Below w.heap.size w (w.alloc (.cells #[.int .i64 0, .int .i64 0] 29)) := (Below.refl _ _).alloc (Nat.le_refl _) _
  have hfx : (w.alloc (.cells #[.int .i64 0, .int .i64 0] 29)).heap[w.heap.size]? = some (.cells #[.int .i64 0, .int .i64 0] 29 (0, 0)) := (MapKept.heap_alloc w _).1
  have hsa : (w.alloc (.cells #[.int .i64 0, .int .i64 0] 29)).heap.size = w.heap.size + 1 := by simp
  go_enter Tryz.func8, Tryz.ntmps8
  go_wp2_with fail
  refine hTO.mono ?_
  rintro e W1 ⟨rfl, k1⟩
  go_wp2_with fail
  refine (hHS _).mono ?_
  rintro e W2 ⟨rfl, rfl⟩
  go_wp2_with fail
  rw [new_scan]
  go_wp2_with fail
  have s3 := new_sc W2 src
  have k3 : Below W2.heap.size W2 (W2.alloc (.cells ((Tryz.zeroCells58.setIfInBounds 0 (.string src)).setIfInBounds 2 (.int .i64 1)) 58)) := (Below.refl _ _).alloc (Nat.le_refl _) _
  generalize (W2.alloc (.cells ((Tryz.zeroCells58.setIfInBounds 0 (.string src)).setIfInBounds 2 (.int .i64 1)) 58)) = V at s3 k3 ⊢
  have hs2 := k1.size
  have b2 : Below w.heap.size w W2 := al.trans (k1.mono al.size)
  have b3 : Below w.heap.size w V := b2.trans (k3.mono b2.size)
  refine (hSC V _ s3 b3).mono ?_
  rintro e W4 ⟨rfl, ⟨ta, tc, t4⟩, k4⟩
  have b4 : Below w.heap.size w W4 := b3.trans (k4.mono b2.size)
  have hf4 : W4.heap[w.heap.size]? = some (.cells #[.int .i64 0, .int .i64 0] 29 (0, 0)) := by
    rw [k4.block _ (by omega), k3.block _ (by omega), k1.block _ (by omega)]; exact hfx
  have f0 : W4.cell? ⟨w.heap.size, 0, none⟩ = some (.int .i64 0) := cell_obj hf4 rfl
  have f1 : W4.cell? ⟨w.heap.size, 1, none⟩ = some (.int .i64 0) := cell_obj hf4 rfl
  have g0 : W4.frozen? ⟨w.heap.size, 0, none⟩ = false := frozen_obj hf4
  have g1 : W4.frozen? ⟨w.heap.size, 1, none⟩ = false := frozen_obj hf4
  obtain ⟨c0, c1, c2, c3, c4, c5, c6, cf⟩ := t4.sc.cells
  have l4 := t4.sc.lt
  have l5 : w.heap.size < W4.heap.size := by omega
  clear hTO hHS hSC k1 k3 al hfx hsa s3 c0 c1 c2 c4 c5 c6 cf
  go_wp2
  have hl1 : w.heap.size < V.heap.size + 1 := by have := b3.size; omega
  have hl2 : w.heap.size ≠ W2.heap.size := by simp at hs2; omega
  have t5 := (t4.other w.heap.size 0 (.int .i64 0) hl1 hl2).other w.heap.size 1 (.int .i64 0) hl1 hl2
  have hle : w.heap.size ≤ w.heap.size := Nat.le_refl _
  have b5 : Below w.heap.size w ((W4.setCell ⟨w.heap.size, 0, none⟩ (.int .i64 0)).setCell ⟨w.heap.size, 1, none⟩ (.int .i64 0)) := (b4.setCell hle _).setCell hle _
  have key : ∀ X : World, Ts X (V.heap.size + 1) W2.heap.size src (LN + 2) 3 ta tc [⟨5, T, 1⟩, ⟨8, ⟨#[]⟩, 1⟩, ⟨11, ⟨#[]⟩, 1⟩] → Below w.heap.size w X → OwnG shTk 33 (X.alloc (.cells #[.int .i64 0, .int .i64 0] 29)) (V.heap.size + 1) (.slice ta 3 tc) [⟨5, T, 1⟩, ⟨8, ⟨#[]⟩, 1⟩, ⟨11, ⟨#[]⟩, 1⟩] ∧ Below w.heap.size w (X.alloc (.cells #[.int .i64 0, .int .i64 0] 29)) := fun X h1 h2 => by
    have al5 : Below X.heap.size X (X.alloc (.cells #[.int .i64 0, .int .i64 0] 29)) := (Below.refl _ _).alloc (Nat.le_refl _) _
    exact ⟨(h1.keep al5).row, h2.trans (al5.mono h2.size)⟩
  have hk := key _ t5 b5
  refine bodyPost_ret (v := .tuple #[.slice ta 3 tc, .agg #[.int .i64 0, .int .i64 0]]) (by simp [results, Tryz.results8, go_sem, f0, f1, l5]) rfl ⟨ta, tc, V.heap.size + 1, rfl, by omega, hk.1, hk.2⟩
end Go.Proofs.YtfoofbcfcekleaaGreatDoor
