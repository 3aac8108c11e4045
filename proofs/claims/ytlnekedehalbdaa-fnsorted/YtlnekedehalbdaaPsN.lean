import Derived.Test.YtlnekedehalbdaaPsK
namespace Go.Proofs.Ytlnekedehalbdaa
open Go.RowKit
set_option linter.unusedVariables false
set_option linter.unusedSimpArgs false

theorem SK.keep {w0 W W' : World} {Y : Nat} {kv : Value} {s : St} (h : SK w0 Y kv W s) (k : Kp (EK w0.heap.size Y) w0.heap.size W W') : SK w0 Y kv W' s := by
  have hz := h.bel.size
  have hyz := h.yz
  have hy := h.y
  have eY := k.blk Y h.y (.inr (.inl (.inl rfl)))
  have eK := k.blk w0.heap.size (by omega) (.inr (.inl (.inr (.inl rfl))))
  have eQ := k.blk (w0.heap.size + 1) (by omega) (.inr (.inl (.inr (.inr rfl))))
  refine ⟨h.bel.trans ⟨k.os, k.tape, k.output, k.size, fun j hj => k.blk j (by omega) (.inl hj)⟩, hyz, Nat.lt_of_lt_of_le hy k.size, (World.cell?_of_block (a := ⟨Y, 0, none⟩) eY).trans h.c0, (World.cell?_of_block (a := ⟨Y, 1, none⟩) eY).trans h.c1, fun o => (World.frozen?_of_block (a := ⟨Y, o, none⟩) eY).trans (h.fy o), (World.cell?_of_block (a := ⟨w0.heap.size, 0, none⟩) eK).trans h.ck, (World.cell?_of_block (a := ⟨w0.heap.size + 1, 0, none⟩) eQ).trans h.cq, (World.frozen?_of_block (a := ⟨w0.heap.size + 1, 0, none⟩) eQ).trans h.fq⟩
set_option maxRecDepth 100000 in
set_option maxHeartbeats 1000000 in
theorem isLessK_any (w0 W : World) (Y : Nat) (kv : Value) (keys : List Int) (s : St) (a b : Nat) (hS : SK w0 Y kv W s) (hk : Rd w0 kv keys) (ha : a < keys.length) (hb : b < keys.length) (hl : s.h.length < 1000000) :
    Calls Try.prog 45 #[.pointer (some ⟨Y, 0, none⟩), .int .i64 a, .int .i64 b] W fun e W' => e = .returned (.bool (ask (tellK keys) s a b).1) ∧ SK w0 Y kv W' (ask (tellK keys) s a b).2 ∧ OfE (EK w0.heap.size Y) W W' := by
  have HC := tellK_any w0 W Y kv keys s a b hS hk ha hb hl
  have hS' := hS
  obtain ⟨hB, hyz, hy, c0, c1, fy, ck, cq, fq⟩ := hS
  have f1 := fy 1
  cases hsk : s.k
  · have hask : ask (tellK keys) s a b = (decide (keys.getD a 0 < keys.getD b 0), ⟨s.h ++ [((a : Int), (b : Int))], false⟩) := by
      rw [ask_told hsk (r := decide (keys.getD a 0 < keys.getD b 0)) (by simp [tellK])]
    rw [hask]
    rw [hsk] at c1
    generalize decide (keys.getD a 0 < keys.getD b 0) = D at *
    obtain ⟨Z, hZ⟩ : ∃ Z, w0.heap.size = Z := ⟨_, rfl⟩
    have HZ : Hid (w0.heap.size = Z) := hZ
    unfold fvK at c0
    rw [hZ] at c0 HC hyz ck cq fq
    have nY : ¬ Y = Z + 1 := by omega
    have nY2 : ¬ Z + 1 = Y := by omega
    have nYZ : ¬ Y = Z := by omega
    have W1e : ∀ u, (W.setCell ⟨Z + 1, 0, none⟩ u).drew.cell? ⟨Y, 1, none⟩ = some (.bool false) := fun u => by
      show (W.setCell ⟨Z + 1, 0, none⟩ u).cell? ⟨Y, 1, none⟩ = _
      rw [World.cell?_setCell_other _ _ _ _ (by simp [nY])]; exact c1
    have W1f : ∀ u, (W.setCell ⟨Z + 1, 0, none⟩ u).drew.frozen? ⟨Y, 1, none⟩ = false := fun u => by
      show (W.setCell ⟨Z + 1, 0, none⟩ u).frozen? ⟨Y, 1, none⟩ = _
      rw [World.frozen?_setCell]; exact fy 1
    have hfin : SK w0 Y kv (((W.setCell ⟨Z + 1, 0, none⟩ (.int .i64 ((s.h.length : Int) + 1))).drew).setCell ⟨Y, 1, none⟩ (.bool false)) ⟨s.h ++ [((a : Int), (b : Int))], false⟩ ∧ OfE (EK w0.heap.size Y) W (((W.setCell ⟨Z + 1, 0, none⟩ (.int .i64 ((s.h.length : Int) + 1))).drew).setCell ⟨Y, 1, none⟩ (.bool false)) := by
      have k1 := gb_set W (Z + 1) 0 (.int .i64 ((s.h.length : Int) + 1))
      have k2 : World.grownBy (W.setCell ⟨Z + 1, 0, none⟩ (.int .i64 ((s.h.length : Int) + 1))) (W.setCell ⟨Z + 1, 0, none⟩ (.int .i64 ((s.h.length : Int) + 1))).drew none := gb_below none (Below.refl _ _).drew
      have k3 := gb_set ((W.setCell ⟨Z + 1, 0, none⟩ (.int .i64 ((s.h.length : Int) + 1))).drew) Y 1 (.bool false)
      constructor
      · refine ⟨?_, by rw [hZ]; exact hyz, ?_, ?_, ?_, ?_, ?_, ?_, ?_⟩
        · exact (((hB.trans (gb_to k1 (fun q hq => by simp at hq; omega) hB.size)).drew).trans (gb_to k3 (fun q hq => by simp at hq; omega) (by have := hB.size; simpa [World.setCell] using this)))
        · simpa [World.setCell] using hy
        · rw [World.cell?_setCell_other _ _ _ _ (by simp)]
          show (W.setCell ⟨Z + 1, 0, none⟩ _).cell? ⟨Y, 0, none⟩ = _
          rw [World.cell?_setCell_other _ _ _ _ (by simp [nY]), c0, ← hZ]; rfl
        · exact World.cell?_setCell_same _ _ _ (W1e _)
        · intro o
          rw [World.frozen?_setCell]
          show (W.setCell ⟨Z + 1, 0, none⟩ _).frozen? ⟨Y, o, none⟩ = _
          rw [World.frozen?_setCell]; exact fy o
        · rw [hZ, World.cell?_setCell_other _ _ _ _ (by simp)]
          show (W.setCell ⟨Z + 1, 0, none⟩ _).cell? ⟨Z, 0, none⟩ = _
          rw [World.cell?_setCell_other _ _ _ _ (by simp)]; exact ck
        · rw [hZ, World.cell?_setCell_other _ _ _ _ (by simp)]
          show (W.setCell ⟨Z + 1, 0, none⟩ _).cell? ⟨Z + 1, 0, none⟩ = _
          rw [World.cell?_setCell_same _ _ _ cq]; simp
        · rw [hZ, World.frozen?_setCell]
          show (W.setCell ⟨Z + 1, 0, none⟩ _).frozen? ⟨Z + 1, 0, none⟩ = _
          rw [World.frozen?_setCell]; exact fq
      · exact ((OfE.gb k1 (fun j hj => .inl (.inr (.inr (by simp at hj; omega))))).trans (OfE.below (Below.refl _ _).drew)).trans (OfE.gb k3 (fun j hj => .inl (.inl (by simp at hj; omega))))
    have HF : Hid _ := hfin
    clear hfin hZ hask
    go_enter Try.func45, Try.ntmps45
    go_wp2_with fail
    refine HC.mono ?_
    rintro e w3 ⟨rfl, rfl⟩
    clear HC
    have p1 := W1e (.int .i64 ((s.h.length : Int) + 1))
    have p2 := W1f (.int .i64 ((s.h.length : Int) + 1))
    clear W1e W1f
    generalize (W.setCell ⟨Z + 1, 0, none⟩ (.int .i64 ((s.h.length : Int) + 1))).drew = W2 at *
    cases D
    all_goals
      go_wp2_with fail
      go_ret
      exact ⟨rfl, HF.out.1, HF.out.2⟩
  · have hask := ask_stuck (t := tellK keys) hsk (a : Int) (b : Int)
    rw [hask]
    rw [hsk] at c1
    clear HC
    go_enter Try.func45, Try.ntmps45
    go_wp2_with fail
    go_ret
    exact ⟨rfl, hS', OfE.refl _ _⟩
theorem tlrK (w0 : World) (Y : Nat) (kv : Value) (keys : List Int) (hk : Rd w0 kv keys) (hY : w0.heap.size + 1 < Y) : Tlr (tellK keys) keys.length w0.heap.size Y (EK w0.heap.size Y) (SK w0 Y kv) where
  lt := fun W s h j hj => by
    have := h.y
    have := h.yz
    rcases hj with e | e | e <;> omega
  z := fun j hj => by rcases hj with e | e | e <;> omega
  y := .inl rfl
  k := fun W s h => h.c1
  bel := fun W s h => h.bel.size
  ask := fun W s a b h ha hb hl => isLessK_any w0 W Y kv keys s a b h hk ha hb hl
  keep := fun W W' s h k => h.keep k
end Go.Proofs.Ytlnekedehalbdaa
