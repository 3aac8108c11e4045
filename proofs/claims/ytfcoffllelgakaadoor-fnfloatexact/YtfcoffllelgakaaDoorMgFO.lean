import Derived.Test.YtfcoffllelgakaaDoorTrim
import Derived.Test.YtfcoffllelgakaaDoorMgRN
import Derived.Test.YtfcoffllelgakaaDoorShl
import Derived.Test.YtfcoffllelgakaaDoorMDown
import Derived.Test.YtfcoffllelgakaaDoorCmp
import Derived.Test.YtfcoffllelgakaaDoorBits
import Derived.Test.YtfcoffllelgakaaDoorAdd
import Derived.Laws.BitsAllLaws
import Derived.Deep.Cut
import Derived.Deep.CutRange
import Derived.Test.YtfcoffllelgakaaDoorFCmp
import Derived.Test.YtfcoffllelgakaaDoorLimOne
import Derived.Test.YtfcoffllelgakaaDoorOk
namespace Go.Proofs.YtfcoffllelgakaaDoor
open Go.RowKit
set_option linter.unusedVariables false
set_option linter.unusedSimpArgs false

/-- What FloatOfBig answers. -/
def ofBX (p : Bool) (xs : List Int) : Nat := if okB p xs = true then (if isI (rndV p (val xs) 1) = true then 0 else rndV p (val xs) 1) else 0
def ofBC (p : Bool) (xs : List Int) : Int := if okB p xs = true then (if isI (rndV p (val xs) 1) = true then 3 else 0) else 1
end Go.Proofs.YtfcoffllelgakaaDoor

namespace Go.Proofs.YtfcoffllelgakaaDoor
open Go.RowKit
set_option linter.unusedVariables false
set_option linter.unusedSimpArgs false

theorem fu_pos {x : Nat} (h : ¬ frung x = 0) : 0 < fu x := by
  unfold fu
  split
  · rename_i h1
    unfold frung at h
    unfold fexp at h1
    unfold ffrac
    omega
  · exact Nat.mul_pos (by omega) (Nat.pow_pos (by decide))
/-- What l2Over answers. -/
def overV (a b : Nat) : Nat := if (isN a || isN b || (isI a && isI b)) = true then 9221120237041090560 else if isI a = true then setN (fneg a != fneg b) 9218868437227405312 else if isI b = true then setN (fneg a != fneg b) 0 else rndV (fneg a != fneg b) (fu a) (fu b)
end Go.Proofs.YtfcoffllelgakaaDoor
