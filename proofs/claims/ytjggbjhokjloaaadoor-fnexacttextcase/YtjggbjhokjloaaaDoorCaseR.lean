import Derived.Test.YtjggbjhokjloaaaDoorCaseP
namespace Go.Proofs.YtjggbjhokjloaaaDoor
open Go.RowKit Go.Lib
set_option linter.unusedVariables false
set_option linter.unusedSimpArgs false

set_option maxRecDepth 100000 in
theorem recased_any (r how : Int) (w : World) (h0 : 0 ≤ r) (h1 : r ≤ 1114111) :
    Calls Tryd.prog 12 #[.int .i32 r, .int .i64 how] w fun e w' => e = .returned (.int .i32 (recase how r)) ∧ w' = w := by
  unfold recase
  by_cases a : how = 1
  · subst a
    by_cases b : 97 ≤ r
    · by_cases c : r ≤ 122
      · have hw1 : IntKind.i32.wrap (r - 97) = r - 97 := by simp [IntKind.wrap, IntKind.bits, IntKind.signed]; omega
        have hw2 : IntKind.i32.wrap (r - 97 + 65) = r - 32 := by simp [IntKind.wrap, IntKind.bits, IntKind.signed]; omega
        rw [if_pos ⟨rfl, b, c⟩]
        go_enter Tryd.func12, Tryd.ntmps12
        go_wp2
        go_ret
        exact ⟨by simp, rfl⟩
      · rw [if_neg (fun h => c h.2.2), if_neg (fun h => absurd h.1 (by decide))]
        go_enter Tryd.func12, Tryd.ntmps12
        go_wp2
        go_ret
        exact ⟨rfl, rfl⟩
    · rw [if_neg (fun h => b h.2.1), if_neg (fun h => absurd h.1 (by decide))]
      go_enter Tryd.func12, Tryd.ntmps12
      go_wp2
      go_ret
      exact ⟨rfl, rfl⟩
  · rw [if_neg (fun h => a h.1)]
    by_cases a2 : how = 2
    · subst a2
      by_cases b : 65 ≤ r
      · by_cases c : r ≤ 90
        · rw [if_pos ⟨rfl, b, c⟩]
          have hw1 : IntKind.i32.wrap (r - 65) = r - 65 := by simp [IntKind.wrap, IntKind.bits, IntKind.signed]; omega
          have hw2 : IntKind.i32.wrap (r - 65 + 97) = r + 32 := by simp [IntKind.wrap, IntKind.bits, IntKind.signed]; omega
          go_enter Tryd.func12, Tryd.ntmps12
          go_wp2
          go_ret
          exact ⟨by simp, rfl⟩
        · rw [if_neg (fun h => c h.2.2)]
          go_enter Tryd.func12, Tryd.ntmps12
          go_wp2
          go_ret
          exact ⟨rfl, rfl⟩
      · rw [if_neg (fun h => b h.2.1)]
        go_enter Tryd.func12, Tryd.ntmps12
        go_wp2
        go_ret
        exact ⟨rfl, rfl⟩
    · rw [if_neg (fun h => a2 h.1)]
      have b1 : (how == 1) = false := beq_eq_false_iff_ne.2 a
      have b2 : (how == 2) = false := beq_eq_false_iff_ne.2 a2
      go_enter Tryd.func12, Tryd.ntmps12
      go_wp2
      go_ret
      exact ⟨rfl, rfl⟩
end Go.Proofs.YtjggbjhokjloaaaDoor
