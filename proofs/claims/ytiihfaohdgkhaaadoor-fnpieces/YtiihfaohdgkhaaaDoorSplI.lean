import Derived.Test.YtiihfaohdgkhaaaDoorSplS
import Derived.Test.YtiihfaohdgkhaaaDoorHelT
import Derived.Test.YtiihfaohdgkhaaaDoorTimesI
import Derived.Test.YtiihfaohdgkhaaaDoorFindL
import Derived.Shelf.Strings.Split
namespace Go.Proofs.YtiihfaohdgkhaaaDoor
open Go.RowKit Go.Lib Go.Shelf
set_option linter.unusedVariables false
set_option linter.unusedSimpArgs false

set_option maxRecDepth 100000 in
theorem cloned_any (B cap g : Nat) (zs : List ByteArray) (w : World) (hO : Str.Own w B (.slice (some ⟨g, 0, none⟩) zs.length cap) zs) (hsz : ∀ z ∈ zs, z.size ≤ 281474976710656) :
    Calls Tryd.prog 16 #[.slice (some ⟨g, 0, none⟩) zs.length cap] w fun e w' => e = .returned (.slice (some ⟨g, 0, none⟩) zs.length cap) ∧ Str.Own w' B (.slice (some ⟨g, 0, none⟩) zs.length cap) zs ∧ w.grownBy w' (some g) := by
  have hlz := hO.2
  go_enter Tryd.func16, Tryd.ntmps16
  go_wp2
  go_loopw [7] (fun i wr => ∃ k : Nat, k ≤ zs.length ∧ i = .int .i64 k ∧ Str.Own wr B (.slice (some ⟨g, 0, none⟩) zs.length cap) zs ∧ w.grownBy wr (some g))
    (fun i _ => zs.length - (RowKit.intOf i).toNat)
  case atStart => exact ⟨0, Nat.zero_le _, rfl, hO, World.grownBy.refl _ _⟩
  case round =>
    obtain ⟨k, hk, rfl, hOr, hBr⟩ := hrel
    by_cases hlt : k < zs.length
    · obtain ⟨z, hz⟩ : ∃ z, zs.getD k Str.Z = z := ⟨_, rfl⟩
      have hzm : z ∈ zs := by rw [← hz]; simp [List.getD, hlt]
      have hC := fun W => clone_any z W (hsz z hzm)
      have hc := hOr.cell k hlt
      rw [hz] at hc
      have HS : Hid (zs.set k z = zs) := by
        show _ = _
        rw [← hz]; simp [List.getD, hlt]
      have hgr : g < wr.heap.size := by
        rcases hOr.shape with ⟨hv, _⟩ | ⟨g', cap', hv, _, hg', _⟩
        · cases hv
        · simp at hv; rw [hv.1]; exact hg'
      clear hsz hzm hz
      go_wp2_with fail
      refine (hC _).mono ?_
      rintro e w1 ⟨rfl, hB1⟩
      have hO1 := hOr.keep hB1
      have hu1 : w1.cell? ⟨g, k, none⟩ = some (.string z) := (hB1.cell (p := ⟨g, k, none⟩) hgr).trans hc
      have hfz := hO1.frozen k
      clear hOr hc
      go_wp2
      go_roundw
      case rel =>
        refine ⟨k + 1, by omega, by go_num, ?_, gb_trans (gb_trans hBr (gb_below _ hB1)) (gb_set _ _ _ _)⟩
        have := hO1.store k z
        rw [HS.out] at this
        exact this
      case measure => simp [RowKit.intOf]; omega
    · go_wp2
      go_ret
      exact ⟨rfl, hOr, hBr⟩
/-- What the two splits answer. -/
def splitAns (s sep : ByteArray) : List ByteArray × Int :=
  if (textOf s).isSome = true ∧ (textOf sep).isSome = true ∧ sep.size ≠ 0 then (splitAll s sep, 0) else ([], 1)
theorem textOf_size {s : ByteArray} (h : (textOf s).isSome = true) : s.size ≤ 16384 := by
  unfold textOf at h
  split at h
  · assumption
  · cases h
theorem ba_nil {s : ByteArray} (h : s.size = 0) : s = ⟨#[]⟩ := by
  obtain ⟨⟨l⟩⟩ := s
  cases l with
  | nil => rfl
  | cons a b => cases h
theorem splitB_sizes (sep : ByteArray) : ∀ k s, ∀ z ∈ splitB sep 0 k s, z.size ≤ s.size := by
  intro k
  induction k with
  | zero => intro s z hz; simp [splitB] at hz; rw [hz]; exact Nat.le_refl _
  | succ k ih =>
    intro s z hz
    unfold splitB at hz
    split at hz
    · simp at hz; rw [hz]; exact Nat.le_refl _
    · rcases List.mem_cons.1 hz with rfl | hz
      · rw [ByteArray.size_extract]; omega
      · have := ih _ z hz
        rw [ByteArray.size_extract] at this; omega
theorem split_at (s sep : ByteArray) (w : World) (h : MaxL w) (hs : s.size < 4294967281) (h1 : 1 ≤ sep.size) :
    Calls Tryd.prog 17 #[.string s, .string sep] w fun e w' => e = .returned (.slice (some ⟨w.heap.size, 0, none⟩) (splitAll s sep).length (splitAll s sep).length) ∧ w' = w.alloc (.cells ((splitAll s sep).map Value.string).toArray 9) := by
  obtain ⟨m, hm⟩ := h
  have hl : (splitAll s sep).length = countB s sep + 1 := splitB_all sep h1 0 _ s rfl
  rw [hl]
  exact Any.strings_Split Tryd.laysSplit Str.Tryd.info9 s sep m w hs hm h1
theorem splitAll_len (s sep : ByteArray) (h1 : 1 ≤ sep.size) : (splitAll s sep).length ≤ s.size + 1 := by
  have hl : (splitAll s sep).length = countB s sep + 1 := splitB_all sep h1 0 _ s rfl
  have hle := Lib.countB_le sep h1 s.size s (Nat.le_refl _)
  omega
end Go.Proofs.YtiihfaohdgkhaaaDoor
