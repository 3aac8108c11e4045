import Derived.Test.YtiihfaohdgkhaaaDoorBaseS
import Derived.Test.YtiihfaohdgkhaaaDoorBzU
import Derived.Lib.SmallJoins
namespace Go.Proofs.YtiihfaohdgkhaaaDoor
open Go.RowKit Go.Lib
set_option linter.unusedVariables false
set_option linter.unusedSimpArgs false

def digF : Nat → Nat → List UInt8 → List UInt8
  | 0, _, acc => acc
  | f + 1, k, acc => if k = 0 then acc else digF f (k / 10) ((48 + k % 10).toUInt8 :: acc)
theorem digF_zero (f : Nat) (acc : List UInt8) : digF f 0 acc = acc := by cases f <;> simp [digF]
/-- A mark's text. -/
def mtB (k : Nat) : ByteArray := ⟨#[109]⟩ ++ ⟨(digF k k []).toArray⟩
theorem ba_ext {a : ByteArray} {l : List UInt8} (h : a.data.toList = l) : a = ⟨l.toArray⟩ := by
  apply ByteArray.ext
  apply Array.toList_inj.1
  rw [h]
end Go.Proofs.YtiihfaohdgkhaaaDoor
