import Derived.Test.YtfcoffllelgakaaDoorFCmp
import Derived.Test.YtfcoffllelgakaaDoorLFCmp
import Derived.Test.YtfcoffllelgakaaDoorDivM
import Derived.Test.YtfcoffllelgakaaDoorMDown
import Derived.Test.YtfcoffllelgakaaDoorFit
import Derived.Test.YtfcoffllelgakaaDoorCodeC
namespace Go.Proofs.YtfcoffllelgakaaDoor
open Go.RowKit
set_option linter.unusedVariables false
set_option linter.unusedSimpArgs false

/-- How far below 1 a float's unit lies. -/
def lowE : Nat := 1074
def lowP : Nat := 2 ^ lowE
theorem lowP_pos : 0 < lowP := Nat.two_pow_pos _
theorem fmag_lt (x : Nat) : fmag x < 9007199254740992 := by
  have : ffrac x < 4503599627370496 := Nat.mod_lt _ (by decide)
  unfold fmag
  split <;> omega
theorem low_eq : (2 : Nat) ^ lowE = lowP := by unfold lowP; rfl
theorem low_len : (lim lowP).length ≤ 66 := by
  refine lim_len_gen lowP lowE 66 ?_ (by decide)
  rw [low_eq]
  have h := lowP_pos
  generalize lowP = A at h
  omega
theorem val_one : val [1] = 1 := by simp [val]
set_option maxRecDepth 100000 in
theorem oneS_any (w : World) :
    Calls Tryd.prog 66 #[] w fun e w' => ∃ a c, e = .returned (.slice a (lim lowP).length c) ∧ Own w' w.heap.size (.slice a (lim lowP).length c) (lim lowP) ∧ Below w.heap.size w w' := by
  have hS := fun W v h => shlMag_any v [1] lowE W h (by simp) (by decide)
  rw [val_one, Nat.one_mul, low_eq, show ((lowE : Nat) : Int) = 1074 from rfl] at hS
  generalize lim lowP = L at hS ⊢
  go_enter Tryd.func66, Tryd.ntmps66
  go_wp2_with fail
  refine (hS _ _ (Rd.one w w.heap.size rfl _ (by omega) (by omega))).mono ?_
  rintro e w1 ⟨a1, c1, rfl, hO, hB⟩
  go_wp2
  go_ret
  exact ⟨a1, c1, rfl, hO.mono (by simp), below_of_alloc hB⟩
/-- The cell of the error of arguments. -/
def ErrA (w : World) (aA : Addr) : Prop := w.cell? ⟨0, 0, none⟩ = some (errAt aA)
theorem ErrA.below {w w' : World} {aA : Addr} (h : ErrA w aA) (hb : Below w.heap.size w w') : ErrA w' aA := (hb.cell (p := ⟨_, 0, none⟩) (cell_lt h)).trans h
end Go.Proofs.YtfcoffllelgakaaDoor
