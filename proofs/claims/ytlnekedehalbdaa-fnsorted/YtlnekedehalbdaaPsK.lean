import Derived.Test.YtlnekedehalbdaaPsX
namespace Go.Proofs.Ytlnekedehalbdaa
open Go.RowKit
set_option linter.unusedVariables false
set_option linter.unusedSimpArgs false

theorem nums_len (n : Nat) : (nums n).length = n := by simp [nums]
theorem nums_take (n k : Nat) (h : k ≤ n) : (nums n).take k = nums k := by rw [← seg_nums, ← seg_nums]; exact seg_take 0 k n h
theorem nums_succ (k : Nat) : nums (k + 1) = nums k ++ [(k : Int)] := by rw [← seg_nums, seg_succ, seg_nums]; simp
set_option maxRecDepth 100000 in
set_option maxHeartbeats 1000000 in
theorem numbered_any (n : Nat) (w : World) (hn : n ≤ 2000) :
    Calls Try.prog 25 #[.int .i64 n] w fun e w' => ∃ g c, e = .returned (.slice (some ⟨g, 0, none⟩) n c) ∧ Own w' w.heap.size (.slice (some ⟨g, 0, none⟩) n c) (nums n) ∧ Below w.heap.size w w' := by
  obtain ⟨i0, hi, hi0, hi1, hi2⟩ := info_parts Try.info2
  go_enter Try.func25, Try.ntmps25
  go_wp2_with (at_make; refine wpList_make_own _ rfl _ _ 22 rfl w.heap.size 2 i0 _ 1 Try.underlying22 hi hi0 hi1 .i64 .i64 _ n rfl rfl rfl (by rw [hi2]; omega) (by unfold maxLen; omega) (by simp) ?_; intro w1 hown hgrow)
  have bE : Below w.heap.size w w1 := (Below.refl w.heap.size w).grown hgrow (Nat.le_refl _) (by intro k h; cases h)
  have oE : Own w1 w.heap.size (.slice (some ⟨w.heap.size, 0, none⟩) 0 n) [] := ⟨hown, by simp, Limbs.nil⟩
  clear hown hgrow
  go_loopw [3, 8] (fun vo vi wr => ∃ (k g c : Nat), k ≤ n ∧ vi = .int .i64 k ∧ vo = .slice (some ⟨g, 0, none⟩) k c ∧ Own wr w.heap.size (.slice (some ⟨g, 0, none⟩) k c) (nums k) ∧ Below w.heap.size w wr) (fun _ vi _ => n - (intOf vi).toNat)
  case atStart => exact ⟨0, _, _, Nat.zero_le _, rfl, rfl, oE, bE⟩
  case round =>
    obtain ⟨k, g, c, hk, rfl, rfl, hO, hB⟩ := hrel
    clear bE oE
    generalize wr = W1 at *
    have hz1 := hB.size
    by_cases hlt : k < n
    · have hlti : (k : Int) < (n : Int) := by omega
      have hkR : -9223372036854775808 ≤ (k : Int) ∧ (k : Int) < 9223372036854775808 := by omega
      have bL := al_below W1 (.cells #[.int .i64 (k : Int)] 2)
      go_wp2_with (at_builtin; refine wpList_append_gb rfl _ _ 22 rfl Try.underlying22 w.heap.size _ _ (nums k) [(k : Int)] (k + 1) (by simp [nums_len]) rfl rfl (hO.alloc _) (Rd.one W1 W1.heap.size rfl 2 hkR.1 hkR.2) (by simp) (by omega) (by simp; omega) ?_; intro a5 c5 w5 hO5 hg5; rcases hO5.shape with ⟨-, e5⟩ | ⟨g6, c6, e5, -, -, -⟩; (simp at e5); simp only [Value.slice.injEq] at e5; obtain ⟨rfl, -, rfl⟩ := e5)
      have hB5 : Below w.heap.size w w5 := (hB.trans (bL.mono hz1)).trans (gb_to hg5 (fun j hj => (hO.lt j hj).1) (by simp; omega))
      go_roundw
      case rel => exact ⟨k + 1, g6, c5, by omega, by go_num, rfl, by rw [nums_succ]; exact hO5, hB5⟩
      case measure => simp [intOf]; omega
    · obtain rfl : k = n := by omega
      have hlti : ¬ (k : Int) < (k : Int) := by omega
      go_wp2_with fail
      go_ret
      exact ⟨g, c, rfl, hO, hB⟩
/-- The function that SortKeys asks. -/
def fvK (Z : Nat) : Array Value := #[.pointer (some ⟨Z + 1, 0, none⟩), .pointer (some ⟨Z, 0, none⟩)]
/-- The program's sorter over keys. -/
structure SK (w0 : World) (Y : Nat) (kv : Value) (W : World) (s : St) : Prop where
  bel : Below w0.heap.size w0 W
  yz : w0.heap.size + 1 < Y
  y : Y < W.heap.size
  c0 : W.cell? ⟨Y, 0, none⟩ = some (.func (.func 26) #[] (fvK w0.heap.size))
  c1 : W.cell? ⟨Y, 1, none⟩ = some (.bool s.k)
  fy : ∀ o, W.frozen? ⟨Y, o, none⟩ = false
  ck : W.cell? ⟨w0.heap.size, 0, none⟩ = some kv
  cq : W.cell? ⟨w0.heap.size + 1, 0, none⟩ = some (.int .i64 (s.h.length : Int))
  fq : W.frozen? ⟨w0.heap.size + 1, 0, none⟩ = false
def EK (Z Y : Nat) : Nat → Prop := fun j => j = Y ∨ j = Z ∨ j = Z + 1
set_option maxRecDepth 100000 in
set_option maxHeartbeats 1000000 in
theorem tellK_any (w0 W : World) (Y : Nat) (kv : Value) (keys : List Int) (s : St) (a b : Nat) (hS : SK w0 Y kv W s) (hk : Rd w0 kv keys) (ha : a < keys.length) (hb : b < keys.length) (hl : s.h.length < 1000000) :
    Calls Try.prog 26 #[.int .i64 a, .int .i64 b, .pointer (some ⟨w0.heap.size + 1, 0, none⟩), .pointer (some ⟨w0.heap.size, 0, none⟩)] W fun e W' => e = .returned (.tuple #[.bool (decide (keys.getD a 0 < keys.getD b 0)), .bool true]) ∧ W' = (W.setCell ⟨w0.heap.size + 1, 0, none⟩ (.int .i64 ((s.h.length : Int) + 1))).drew := by
  obtain ⟨hB, hyz, hy, c0, c1, fy, ck, cq, fq⟩ := hS
  have hmax : keys.length ≤ 16777216 := by obtain ⟨_, _, _, h, _⟩ := hk; exact h
  obtain ⟨ka, kc, rfl, -, -, -, hkc⟩ := hk
  obtain ⟨kb, ko, rfl, hkb, hcell⟩ := hkc (by omega)
  have g1 := (hB.cell (p := ⟨kb, ko + a, none⟩) hkb).trans (hcell a ha)
  have g2 := (hB.cell (p := ⟨kb, ko + b, none⟩) hkb).trans (hcell b hb)
  generalize keys.getD a 0 = KA at *
  generalize keys.getD b 0 = KB at *
  have w1 : IntKind.i64.wrap ((s.h.length : Int) + 1) = (s.h.length : Int) + 1 := by rw [IntKind.wrap_i64]; omega
  obtain ⟨Z, hZ⟩ : ∃ Z, w0.heap.size = Z := ⟨_, rfl⟩
  rw [hZ] at ck cq fq hkb ⊢
  have n1 : ¬ kb = Z + 1 := by omega
  have ha' : (a : Int) < (keys.length : Int) := by omega
  have hb' : (b : Int) < (keys.length : Int) := by omega
  clear hcell hkc hZ c0 c1 fy
  have e1 : (W.setCell ⟨Z + 1, 0, none⟩ (.int .i64 ((s.h.length : Int) + 1))).cell? ⟨Z, 0, none⟩ = some (.slice (some ⟨kb, ko, none⟩) keys.length kc) := by rw [World.cell?_setCell_other _ _ _ _ (by simp)]; exact ck
  have e2 : (W.setCell ⟨Z + 1, 0, none⟩ (.int .i64 ((s.h.length : Int) + 1))).cell? ⟨kb, ko + a, none⟩ = some (.int .i64 KA) := by rw [World.cell?_setCell_other _ _ _ _ (by simp [n1])]; exact g1
  have e3 : (W.setCell ⟨Z + 1, 0, none⟩ (.int .i64 ((s.h.length : Int) + 1))).cell? ⟨kb, ko + b, none⟩ = some (.int .i64 KB) := by rw [World.cell?_setCell_other _ _ _ _ (by simp [n1])]; exact g2
  go_enter Try.func26, Try.ntmps26
  go_wp2_with fail
  go_region_held3 (fun V => V.cell? ⟨Z, 0, none⟩ = some (.slice (some ⟨kb, ko, none⟩) keys.length kc) ∧ V.cell? ⟨kb, ko + a, none⟩ = some (.int .i64 KA) ∧ V.cell? ⟨kb, ko + b, none⟩ = some (.int .i64 KB)) (go_keep) (fail)
  go_wp2_with fail
  exact bodyPost_ret (v := .tuple #[.bool (decide (KA < KB)), .bool true]) (by simp [results, Try.results26, go_sem]) rfl ⟨rfl, rfl⟩
end Go.Proofs.Ytlnekedehalbdaa
