import Derived.Test.YtgbkniliojpejaaDoorTxtM
import Derived.Test.YtgbkniliojpejaaDoorTxtB
import Derived.Test.YtgbkniliojpejaaDoorDivL
import Derived.Test.YtgbkniliojpejaaDoorRPow
import Derived.Deep.LoopGhost
namespace Go.Proofs.YtgbkniliojpejaaDoor
open Go.RowKit
set_option linter.unusedVariables false
set_option linter.unusedSimpArgs false

set_option maxRecDepth 100000 in
theorem digit_at (d : Nat) (hd : d < 36) : ∀ h : d < (⟨#[48, 49, 50, 51, 52, 53, 54, 55, 56, 57, 97, 98, 99, 100, 101, 102, 103, 104, 105, 106, 107, 108, 109, 110, 111, 112, 113, 114, 115, 116, 117, 118, 119, 120, 121, 122]⟩ : ByteArray).size, (⟨#[48, 49, 50, 51, 52, 53, 54, 55, 56, 57, 97, 98, 99, 100, 101, 102, 103, 104, 105, 106, 107, 108, 109, 110, 111, 112, 113, 114, 115, 116, 117, 118, 119, 120, 121, 122]⟩ : ByteArray)[d]'h = ch d := by
  have : ∀ d, ∀ h : d < (⟨#[48, 49, 50, 51, 52, 53, 54, 55, 56, 57, 97, 98, 99, 100, 101, 102, 103, 104, 105, 106, 107, 108, 109, 110, 111, 112, 113, 114, 115, 116, 117, 118, 119, 120, 121, 122]⟩ : ByteArray).size, (⟨#[48, 49, 50, 51, 52, 53, 54, 55, 56, 57, 97, 98, 99, 100, 101, 102, 103, 104, 105, 106, 107, 108, 109, 110, 111, 112, 113, 114, 115, 116, 117, 118, 119, 120, 121, 122]⟩ : ByteArray)[d]'h = ch d := by decide
  exact this d
/-- A row of which the k first and the k last have changed places. -/
def rv (l : List Int) (k : Nat) : List Int := (List.range l.length).map fun j => if j < k ∨ l.length - k ≤ j then l.getD (l.length - 1 - j) 0 else l.getD j 0
theorem rv_len (l : List Int) (k : Nat) : (rv l k).length = l.length := by simp [rv]
theorem rv_get (l : List Int) (k j : Nat) (h : j < l.length) : (rv l k).getD j 0 = if j < k ∨ l.length - k ≤ j then l.getD (l.length - 1 - j) 0 else l.getD j 0 := by
  simp [rv, List.getD, h]
theorem ext_getD {a b : List Int} (h : a.length = b.length) (e : ∀ j, j < a.length → a.getD j 0 = b.getD j 0) : a = b := by
  apply List.ext_getElem h
  intro j h1 h2
  have := e j h1
  simpa [List.getD, h1, h2] using this
theorem rv_zero (l : List Int) : rv l 0 = l := by
  apply ext_getD (rv_len l 0)
  intro j hj
  rw [rv_len] at hj
  rw [rv_get l 0 j hj, if_neg (by omega)]
theorem rv_end (l : List Int) : rv l (l.length / 2) = l.reverse := by
  apply ext_getD (by rw [rv_len]; simp)
  intro j hj
  rw [rv_len] at hj
  rw [rv_get l _ j hj]
  have e : l.reverse.getD j 0 = l.getD (l.length - 1 - j) 0 := by
    have h2 : l.length - 1 - j < l.length := by omega
    simp [List.getD, hj, h2]
  rw [e]
  split
  · rfl
  · rw [show l.length - 1 - j = j by omega]
theorem rv_step (l : List Int) (k : Nat) (h : 2 * k + 2 ≤ l.length) : ((rv l k).set k ((rv l k).getD (l.length - 1 - k) 0)).set (l.length - 1 - k) ((rv l k).getD k 0) = rv l (k + 1) := by
  apply ext_getD (by simp [rv_len])
  intro j hj
  simp only [List.length_set, rv_len] at hj
  have g : ∀ (a : List Int) (i : Nat) (v : Int) (q : Nat), q < a.length → (a.set i v).getD q 0 = if i = q then v else a.getD q 0 := by
    intro a i v q hq
    simp only [List.getD, List.getElem?_set]
    split
    · subst_vars; simp [hq]
    · rfl
  rw [g _ _ _ _ (by simp [rv_len]; omega), g _ _ _ _ (by simp [rv_len]; omega), rv_get l k j hj, rv_get l (k + 1) j hj, rv_get l k k (by omega), rv_get l k _ (by omega : l.length - 1 - k < l.length)]
  by_cases h1 : l.length - 1 - k = j
  · rw [if_pos h1, if_neg (by omega), if_pos (by omega), show l.length - 1 - j = k by omega]
  · rw [if_neg h1]
    by_cases h2 : k = j
    · rw [if_pos h2, if_neg (by omega), if_pos (by omega), ← h2]
    · rw [if_neg h2]
      by_cases h3 : j < k ∨ l.length - k ≤ j
      · rw [if_pos h3, if_pos (by omega)]
      · rw [if_neg h3, if_neg (by omega)]
end Go.Proofs.YtgbkniliojpejaaDoor
