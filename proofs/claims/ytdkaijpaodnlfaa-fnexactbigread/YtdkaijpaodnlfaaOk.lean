import Derived.Test.YtdkaijpaodnlfaaHelp
namespace Go.Proofs.Ytdkaijpaodnlfaa
open Go.RowKit
set_option linter.unusedVariables false
set_option linter.unusedSimpArgs false

/-- A number's fields are well formed. -/
def okB (neg : Bool) (zs : List Int) : Bool := if zs.length = 0 then !neg else decide (zs.length ≤ 128) && decide (zs.getD (zs.length - 1) 0 ≠ 0)

theorem okB_nil {neg : Bool} {zs : List Int} (h : zs.length = 0) : okB neg zs = !neg := by unfold okB; rw [if_pos h]
theorem okB_le {neg : Bool} {zs : List Int} (h : ¬ zs.length = 0) (h1 : zs.length ≤ 128) : okB neg zs = (zs.getD (zs.length - 1) 0 != 0) := by
  unfold okB; rw [if_neg h, decide_eq_true h1, Bool.true_and]
  by_cases e : zs.getD (zs.length - 1) 0 = 0
  · rw [e]; rfl
  · rw [decide_eq_true e]; exact (bne_iff_ne.mpr e).symm
theorem okB_gt {neg : Bool} {zs : List Int} (h : ¬ zs.length = 0) (h1 : ¬ zs.length ≤ 128) : okB neg zs = false := by
  unfold okB; rw [if_neg h, decide_eq_false h1, Bool.false_and]

end Go.Proofs.Ytdkaijpaodnlfaa
