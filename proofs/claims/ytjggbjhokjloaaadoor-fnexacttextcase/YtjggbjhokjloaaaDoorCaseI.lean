import Derived.Test.YtjggbjhokjloaaaDoorBldC
import Derived.Test.YtjggbjhokjloaaaDoorTOkI
import Derived.Test.YtjggbjhokjloaaaDoorCaseR
namespace Go.Proofs.YtjggbjhokjloaaaDoor
open Go.RowKit Go.Lib Go.Shelf
set_option linter.unusedVariables false
set_option linter.unusedSimpArgs false

theorem recase_bounds (how r : Int) (h0 : 0 ≤ r) (h1 : r ≤ 1114111) : 0 ≤ recase how r ∧ recase how r ≤ 1114111 := by
  unfold recase
  split
  · omega
  · split <;> omega
theorem width_fits (s : ByteArray) (pos : Nat) (h : pos < s.size) : pos + (Utf8.decode s pos).2 ≤ s.size := by
  unfold Utf8.decode
  simp only [Nat.add_zero]
  split
  · show pos + 1 ≤ s.size; omega
  · split
    · rename_i hc
      simp only [Bool.and_eq_true, decide_eq_true_eq] at hc
      split
      · show pos + 2 ≤ s.size; omega
      · show pos + 1 ≤ s.size; omega
    · split
      · rename_i hc
        simp only [Bool.and_eq_true, decide_eq_true_eq] at hc
        split
        · show pos + 3 ≤ s.size; omega
        · show pos + 1 ≤ s.size; omega
      · split
        · rename_i hc
          simp only [Bool.and_eq_true, decide_eq_true_eq] at hc
          split
          · show pos + 4 ≤ s.size; omega
          · show pos + 1 ≤ s.size; omega
        · show pos + 1 ≤ s.size; omega
/-- What TextCase answers. -/
def caseOf (how : Int) (s : ByteArray) : List UInt8 := if (textOf s).isSome = true ∧ (how = 1 ∨ how = 2) then s.data.toList.map (caseB how) else []
theorem caseOf_from {how : Int} {s : ByteArray} (h : (textOf s).isSome = true) (hh : how = 1 ∨ how = 2) : caseOf how s = caseFrom how s s.size 0 := by
  unfold caseOf
  rw [if_pos ⟨h, hh⟩]
  unfold textOf at h
  by_cases hs : s.size ≤ 16384
  · rw [if_pos hs] at h
    obtain ⟨rs, hr⟩ := Option.isSome_iff_exists.1 h
    have := caseFrom_map how s s.size 0 rs (by omega) hr
    rw [this, List.drop_zero]
  · rw [if_neg hs] at h; cases h
set_option maxHeartbeats 4000000 in
set_option maxRecDepth 1000000 in
theorem textCase_yes1 (how : Int) (s : ByteArray) (w : World) (hm : s.size ≤ 16384) (hT : Tabs w) (hok : (textOf s).isSome = true) (hh : how = 1) :
    Calls Tryd.prog 6 #[.string s, .int .i64 how] w fun e w' => e = .returned (.string ⟨(caseFrom how s s.size 0).toArray⟩) ∧ Below w.heap.size w w' := by
  have hK := textOk_any s w (by omega) hT
  rw [hok] at hK
  have hR := fun r W h0 h1 => recased_any r how W h0 h1
  obtain ⟨E, hE⟩ : ∃ E, caseFrom how s s.size 0 = E := ⟨_, rfl⟩
  have HE : Hid (caseFrom how s s.size 0 = E) := hE
  rw [hE]
  have q1 : (how != 1) = false := by rw [hh]; rfl
  clear hE hh
  go_enter Tryd.func6, Tryd.ntmps6
  go_wp2_with fail
  refine hK.mono ?_
  rintro e w0 ⟨rfl, hB0⟩
  clear hK hT hok
  go_wp2_with fail
  go_loopw [] (fun wr => ∃ (pos fuel : Nat) (acc : List UInt8), Bld w0.heap.size w0.heap.size (Lib.byteCells acc) wr ∧ wr.heap[w0.heap.size + 1]? = some (.stringIter s pos) ∧ Below w0.heap.size w0 wr ∧ acc ++ caseFrom how s fuel pos = E ∧ s.size ≤ pos + fuel ∧ acc.length ≤ 4 * pos ∧ pos ≤ s.size) (fun wr => s.size - wr.iterPos (w0.heap.size + 1))
  case atStart =>
    refine ⟨0, s.size, [], (Lib.IsBuilderF.of (Lib.fresh_isBuilder 29 5 w0)).alloc _, ?_, ((Below.refl _ w0).alloc (Nat.le_refl _) _).alloc (by simp) _, HE.out, by omega, by simp, by omega⟩
    have := World.iter_heap (w0.alloc (.cells #[.pointer none, .slice none 0 0] 29)) s 0
    simpa using this
  case round =>
    obtain ⟨pos, fuel, acc, hI, hit, hbw, hacc, hfu, hal, hps⟩ := hrel
    have hsz : w0.heap.size + 1 < wr.heap.size := (Array.getElem?_eq_some_iff.1 hit).1
    by_cases hp : pos < s.size
    · have hnx0 := fun ty => Lib.run_next_any_at (P := Tryd.prog) wr (w0.heap.size + 1) s pos ty hit hp
      have hwd := width_pos s pos
      have hrl := rune_le s pos
      have hwl : pos + (Utf8.decode s pos).2 ≤ s.size := width_fits s pos hp
      obtain ⟨f, rfl⟩ : ∃ f, fuel = f + 1 := ⟨fuel - 1, by omega⟩
      rw [caseFrom, if_pos hp] at hacc
      obtain ⟨c, hc⟩ : ∃ c, (Utf8.decode s pos).1 = c := ⟨_, rfl⟩
      obtain ⟨kk, hkk⟩ : ∃ kk, (Utf8.decode s pos).2 = kk := ⟨_, rfl⟩
      rw [hc, hkk] at hacc
      rw [hc] at hrl
      rw [hkk] at hwd hwl
      simp only [hc, hkk] at hnx0
      have HA : Hid (acc ++ (encodeRune (recase how (c : Int)) ++ caseFrom how s f (pos + kk)) = E) := hacc
      have hI2 := hI.iterAt hit (pos + kk)
      have hit2 := Lib.iterAt_heap wr (w0.heap.size + 1) s pos (pos + kk) hit
      have hbw2 := Lib.below_iterAt hbw (k := w0.heap.size + 1) (by omega) s (pos + kk)
      have hsz2 : w0.heap.size ≤ (wr.iterAt (w0.heap.size + 1) s (pos + kk)).heap.size := by rw [Lib.iterAt_size]; omega
      obtain ⟨R, hRe⟩ : ∃ R, recase how (c : Int) = R := ⟨_, rfl⟩
      have hRb := recase_bounds how (c : Int) (by omega) (by omega)
      have hRc := hR (c : Int)
      rw [hRe] at hRb hRc
      have HR2 : Hid (recase how (c : Int) = R) := hRe
      clear hacc hc hkk hRe hR hI
      have hnx : ∀ ty, (Instr.next (.pointer (some ⟨w0.heap.size + 1, 0, none⟩)) true ty).run Tryd.prog wr = _ := hnx0
      go_wp2_with (first
        | (go_at_call 12; refine (hRc _ (by omega) (by omega)).mono ?_; rintro e W0 ⟨rfl, rfl⟩)
        | (go_at_call 11; refine (writeRune_any w0.heap.size w0.heap.size _ R (by omega) (by omega) _ hI2 (by rw [Lib.byteCells_length]; omega) hsz2).mono ?_; rintro e W1 ⟨⟨nn, rfl⟩, h1, b1, k1⟩))
      have hl4 := Lib.runeCells_le R
      rw [Lib.runeCells_length] at hl4
      have hit3 := k1.iter hit2 (by omega)
      go_roundw
      case rel =>
        refine ⟨pos + kk, f, acc ++ encodeRune R, ?_, hit3, hbw2.trans b1, ?_, by omega, by simp; omega, by omega⟩
        · rw [Lib.byteCells_append, Lib.byteCells_encodeRune]; exact h1
        · rw [List.append_assoc, ← HR2.out]; exact HA.out
      case measure =>
        simp only [World.iterPos, hit3, hit]
        omega
    · have hnx : ∀ ty, (Instr.next (.pointer (some ⟨w0.heap.size + 1, 0, none⟩)) true ty).run Tryd.prog wr = _ := fun ty => Lib.run_next_end_at wr (w0.heap.size + 1) s pos ty hit hp
      go_wp2_with (go_at_call 13; refine (string_any w0.heap.size w0.heap.size acc _ hI (by omega)).mono ?_; rintro e W1 ⟨rfl, b1⟩)
      go_ret
      rw [caseFrom_end how s fuel pos hp, List.append_nil] at hacc
      subst hacc
      exact ⟨rfl, hB0.trans ((hbw.trans b1).mono hB0.size)⟩
set_option maxHeartbeats 4000000 in
set_option maxRecDepth 1000000 in
theorem textCase_yes2 (how : Int) (s : ByteArray) (w : World) (hm : s.size ≤ 16384) (hT : Tabs w) (hok : (textOf s).isSome = true) (hh : how = 2) :
    Calls Tryd.prog 6 #[.string s, .int .i64 how] w fun e w' => e = .returned (.string ⟨(caseFrom how s s.size 0).toArray⟩) ∧ Below w.heap.size w w' := by
  have hK := textOk_any s w (by omega) hT
  rw [hok] at hK
  have hR := fun r W h0 h1 => recased_any r how W h0 h1
  obtain ⟨E, hE⟩ : ∃ E, caseFrom how s s.size 0 = E := ⟨_, rfl⟩
  have HE : Hid (caseFrom how s s.size 0 = E) := hE
  rw [hE]
  have q1 : (how != 1) = true := by rw [hh]; rfl
  have q2 : (how != 2) = false := by rw [hh]; rfl
  clear hE hh
  go_enter Tryd.func6, Tryd.ntmps6
  go_wp2_with fail
  refine hK.mono ?_
  rintro e w0 ⟨rfl, hB0⟩
  clear hK hT hok
  go_wp2_with fail
  go_loopw [] (fun wr => ∃ (pos fuel : Nat) (acc : List UInt8), Bld w0.heap.size w0.heap.size (Lib.byteCells acc) wr ∧ wr.heap[w0.heap.size + 1]? = some (.stringIter s pos) ∧ Below w0.heap.size w0 wr ∧ acc ++ caseFrom how s fuel pos = E ∧ s.size ≤ pos + fuel ∧ acc.length ≤ 4 * pos ∧ pos ≤ s.size) (fun wr => s.size - wr.iterPos (w0.heap.size + 1))
  case atStart =>
    refine ⟨0, s.size, [], (Lib.IsBuilderF.of (Lib.fresh_isBuilder 29 5 w0)).alloc _, ?_, ((Below.refl _ w0).alloc (Nat.le_refl _) _).alloc (by simp) _, HE.out, by omega, by simp, by omega⟩
    have := World.iter_heap (w0.alloc (.cells #[.pointer none, .slice none 0 0] 29)) s 0
    simpa using this
  case round =>
    obtain ⟨pos, fuel, acc, hI, hit, hbw, hacc, hfu, hal, hps⟩ := hrel
    have hsz : w0.heap.size + 1 < wr.heap.size := (Array.getElem?_eq_some_iff.1 hit).1
    by_cases hp : pos < s.size
    · have hnx0 := fun ty => Lib.run_next_any_at (P := Tryd.prog) wr (w0.heap.size + 1) s pos ty hit hp
      have hwd := width_pos s pos
      have hrl := rune_le s pos
      have hwl : pos + (Utf8.decode s pos).2 ≤ s.size := width_fits s pos hp
      obtain ⟨f, rfl⟩ : ∃ f, fuel = f + 1 := ⟨fuel - 1, by omega⟩
      rw [caseFrom, if_pos hp] at hacc
      obtain ⟨c, hc⟩ : ∃ c, (Utf8.decode s pos).1 = c := ⟨_, rfl⟩
      obtain ⟨kk, hkk⟩ : ∃ kk, (Utf8.decode s pos).2 = kk := ⟨_, rfl⟩
      rw [hc, hkk] at hacc
      rw [hc] at hrl
      rw [hkk] at hwd hwl
      simp only [hc, hkk] at hnx0
      have HA : Hid (acc ++ (encodeRune (recase how (c : Int)) ++ caseFrom how s f (pos + kk)) = E) := hacc
      have hI2 := hI.iterAt hit (pos + kk)
      have hit2 := Lib.iterAt_heap wr (w0.heap.size + 1) s pos (pos + kk) hit
      have hbw2 := Lib.below_iterAt hbw (k := w0.heap.size + 1) (by omega) s (pos + kk)
      have hsz2 : w0.heap.size ≤ (wr.iterAt (w0.heap.size + 1) s (pos + kk)).heap.size := by rw [Lib.iterAt_size]; omega
      obtain ⟨R, hRe⟩ : ∃ R, recase how (c : Int) = R := ⟨_, rfl⟩
      have hRb := recase_bounds how (c : Int) (by omega) (by omega)
      have hRc := hR (c : Int)
      rw [hRe] at hRb hRc
      have HR2 : Hid (recase how (c : Int) = R) := hRe
      clear hacc hc hkk hRe hR hI
      have hnx : ∀ ty, (Instr.next (.pointer (some ⟨w0.heap.size + 1, 0, none⟩)) true ty).run Tryd.prog wr = _ := hnx0
      go_wp2_with (first
        | (go_at_call 12; refine (hRc _ (by omega) (by omega)).mono ?_; rintro e W0 ⟨rfl, rfl⟩)
        | (go_at_call 11; refine (writeRune_any w0.heap.size w0.heap.size _ R (by omega) (by omega) _ hI2 (by rw [Lib.byteCells_length]; omega) hsz2).mono ?_; rintro e W1 ⟨⟨nn, rfl⟩, h1, b1, k1⟩))
      have hl4 := Lib.runeCells_le R
      rw [Lib.runeCells_length] at hl4
      have hit3 := k1.iter hit2 (by omega)
      go_roundw
      case rel =>
        refine ⟨pos + kk, f, acc ++ encodeRune R, ?_, hit3, hbw2.trans b1, ?_, by omega, by simp; omega, by omega⟩
        · rw [Lib.byteCells_append, Lib.byteCells_encodeRune]; exact h1
        · rw [List.append_assoc, ← HR2.out]; exact HA.out
      case measure =>
        simp only [World.iterPos, hit3, hit]
        omega
    · have hnx : ∀ ty, (Instr.next (.pointer (some ⟨w0.heap.size + 1, 0, none⟩)) true ty).run Tryd.prog wr = _ := fun ty => Lib.run_next_end_at wr (w0.heap.size + 1) s pos ty hit hp
      go_wp2_with (go_at_call 13; refine (string_any w0.heap.size w0.heap.size acc _ hI (by omega)).mono ?_; rintro e W1 ⟨rfl, b1⟩)
      go_ret
      rw [caseFrom_end how s fuel pos hp, List.append_nil] at hacc
      subst hacc
      exact ⟨rfl, hB0.trans ((hbw.trans b1).mono hB0.size)⟩
end Go.Proofs.YtjggbjhokjloaaaDoor
