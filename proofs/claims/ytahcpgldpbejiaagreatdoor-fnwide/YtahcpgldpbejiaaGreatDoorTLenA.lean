import Derived.Test.YtahcpgldpbejiaaGreatDoorTOkA
namespace Go.Proofs.YtahcpgldpbejiaaGreatDoor
open Go.RowKit Go.Lib Go.Shelf
set_option linter.unusedVariables false
set_option linter.unusedSimpArgs false

/-- How many code points a text has, -1 of what is none. -/
def lenOf (o : Option (List Nat)) : Int := match o with
  | none => -1
  | some rs => (rs.length : Int)
theorem ansL_length (rs : List Nat) : (ansL (some rs)).length = rs.length := by simp [ansL]
theorem textOf_count {s : ByteArray} {rs : List Nat} (h : textOf s = some rs) : rs.length = runeCount s := by
  unfold textOf at h
  by_cases hs : s.size ≤ 16384
  · rw [if_pos hs] at h; exact count_runes h
  · rw [if_neg hs] at h; cases h
set_option maxRecDepth 100000 in
theorem textLen_any (s : ByteArray) (w : World) (hm : s.size ≤ 9223372036854775806) (hT : Tabs w) :
    Calls Tryz.prog 19 #[.string s] w fun e w' => e = .returned (.int .i64 (lenOf (textOf s))) ∧ Below w.heap.size w w' := by
  have hK := textOk_any s w (by omega) hT
  have hC : ∀ W, Calls Tryz.prog 43 #[.string s] W _ := fun W => Any.utf8_RuneCountInString Tryz.laysCount s W (by omega)
  cases hA : textOf s with
  | none =>
    rw [hA, show (none : Option (List Nat)).isSome = false from rfl] at hK
    clear hC hA
    go_enter Tryz.func19, Tryz.ntmps19
    go_wp2_with (go_at_call 42; refine hK.mono ?_; rintro e w1 ⟨rfl, hB1⟩)
    go_ret
    exact ⟨rfl, hB1⟩
  | some rs =>
    have hn := textOf_count hA
    rw [hA, show (some rs).isSome = true from rfl] at hK
    rw [show lenOf (some rs) = (rs.length : Int) from rfl, hn]
    generalize runeCount s = n at hC ⊢
    clear hA hn
    go_enter Tryz.func19, Tryz.ntmps19
    go_wp2_with fail
    refine hK.mono ?_
    rintro e w1 ⟨rfl, hB1⟩
    go_wp2_with fail
    refine (hC w1).mono ?_
    rintro e w2 ⟨rfl, pos, rfl⟩
    go_wp2
    go_ret
    exact ⟨rfl, hB1.alloc hB1.size _⟩
end Go.Proofs.YtahcpgldpbejiaaGreatDoor
