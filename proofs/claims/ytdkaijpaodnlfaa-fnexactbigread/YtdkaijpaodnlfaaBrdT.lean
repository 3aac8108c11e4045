import Derived.Test.YtdkaijpaodnlfaaBrdS
import Derived.Deep.RegionHeld3
namespace Go.Proofs.Ytdkaijpaodnlfaa
open Go.RowKit
set_option linter.unusedVariables false
set_option linter.unusedSimpArgs false


set_option maxHeartbeats 1000000 in
set_option maxRecDepth 100000 in
theorem bigReadS_any (s : ByteArray) (base : Int) (w : World) (hb0 : -9223372036854775808 ≤ base) (hb1 : base ≤ 9223372036854775807) :
    Calls Try.prog 4 #[.string s, .int .i64 base] w fun e w' => ∃ a c, e = .returned (.tuple #[.agg #[.bool (rdS (readAns s base)), .slice a (rdL (readAns s base)).length c], .bool (readAns s base).isSome]) ∧
      Own w' w.heap.size (.slice a (rdL (readAns s base)).length c) (rdL (readAns s base)) ∧ Below w.heap.size w w' := by
  have b0 := Rbx.new w
  have hBw := (Below.refl w.heap.size w).alloc (Nat.le_refl _) (Obj.cells #[.bool false, .slice none 0 0] 24)
  obtain ⟨lb, k0, k1, f0, f1⟩ := b0
  by_cases hbad : base < 2 ∨ 36 < base ∨ 5000 < s.size
  · have hA : readAns s base = none := by unfold readAns; rw [if_pos hbad]
    rw [hA]
    by_cases h1 : base < 2
    · clear hbad
      go_enter Try.func4, Try.ntmps4
      go_wp2
      refine bodyPost_ret (v := .tuple #[.agg #[.bool false, .slice none 0 0], .bool false]) (by simp [results, Try.results4, go_sem, k0, k1, lb, f0, f1]) rfl (by first | exact rd_none _ _ _ hBw | exact rd_none _ _ _ ((hBw.setCell (Nat.le_refl _) _).setCell (Nat.le_refl _) _))
    by_cases h2 : 36 < base
    · clear hbad
      go_enter Try.func4, Try.ntmps4
      go_wp2
      refine bodyPost_ret (v := .tuple #[.agg #[.bool false, .slice none 0 0], .bool false]) (by simp [results, Try.results4, go_sem, k0, k1, lb, f0, f1]) rfl (by first | exact rd_none _ _ _ hBw | exact rd_none _ _ _ ((hBw.setCell (Nat.le_refl _) _).setCell (Nat.le_refl _) _))
    have h3 : (5000 : Int) < (s.size : Int) := by omega
    clear hbad
    go_enter Try.func4, Try.ntmps4
    go_wp2
    refine bodyPost_ret (v := .tuple #[.agg #[.bool false, .slice none 0 0], .bool false]) (by simp [results, Try.results4, go_sem, k0, k1, lb, f0, f1]) rfl (by first | exact rd_none _ _ _ hBw | exact rd_none _ _ _ ((hBw.setCell (Nat.le_refl _) _).setCell (Nat.le_refl _) _))
  obtain ⟨b, rfl⟩ : ∃ b : Nat, base = (b : Int) := ⟨base.toNat, by omega⟩
  have g1 : ¬ (b : Int) < 2 := by omega
  have g2 : ¬ (36 : Int) < (b : Int) := by omega
  have g3 : ¬ (5000 : Int) < (s.size : Int) := by omega
  by_cases h0 : s.size = 0
  · have h0z : (s.size : Int) = 0 := by omega
    have hd : s.data.toList = [] := by
      apply List.eq_nil_of_length_eq_zero
      have : s.data.size = 0 := h0
      simpa [Array.length_toList] using h0
    have hA : readAns s b = none := by
      unfold readAns
      rw [if_neg (by omega), hd, if_neg (by simp)]; rfl
    rw [hA]
    clear hbad
    go_enter Try.func4, Try.ntmps4
    go_wp2
    refine bodyPost_ret (v := .tuple #[.agg #[.bool false, .slice none 0 0], .bool false]) (by simp [results, Try.results4, go_sem, k0, k1, lb, f0, f1]) rfl (by first | exact rd_none _ _ _ hBw | exact rd_none _ _ _ ((hBw.setCell (Nat.le_refl _) _).setCell (Nat.le_refl _) _))
  by_cases hx : s.data.toList.head? = some 45
  · by_cases h1 : s.size = 1
    · have h1z : (s.size : Int) = 1 := by omega
      have gh : s.data.toList.head? = some (s[0]'(by omega)) := by
        rw [get_atR s 0 (by omega), List.head?_eq_getElem?, List.getElem?_eq_getElem]
      have hA : readAns s b = none := by
        unfold readAns
        rw [if_neg (by omega), if_pos hx]
        have : s.data.toList.drop 1 = [] := List.drop_eq_nil_of_le (by have : s.data.size = 1 := h1; simp; omega)
        rw [this]; rfl
      rw [hA]
      rw [gh] at hx
      have hx0 : s[0]'(by omega) = 45 := by simpa using hx
      clear hbad hx gh
      go_enter Try.func4, Try.ntmps4
      go_wp2
      refine bodyPost_ret (v := .tuple #[.agg #[.bool false, .slice none 0 0], .bool false]) (by simp [results, Try.results4, go_sem, k0, k1, lb, f0, f1]) rfl (by first | exact rd_none _ _ _ hBw | exact rd_none _ _ _ ((hBw.setCell (Nat.le_refl _) _).setCell (Nat.le_refl _) _))
    · exact bigReadS_1 s b w (by omega) (by omega) (by omega) (by omega) hx
  · exact bigReadS_0 s b w (by omega) (by omega) (by omega) (by omega) hx
end Go.Proofs.Ytdkaijpaodnlfaa
