import Derived.Test.YtiihfaohdgkhaaaDoorTimesS
import Derived.Test.YtiihfaohdgkhaaaDoorCodeC
import Derived.Test.YtiihfaohdgkhaaaDoorTOkA
namespace Go.Proofs.YtiihfaohdgkhaaaDoor
open Go.RowKit Go.Lib Go.Shelf
set_option linter.unusedVariables false
set_option linter.unusedSimpArgs false

set_option maxRecDepth 100000 in
theorem clone_any (s : ByteArray) (w : World) (hlim : s.size ≤ 281474976710656) :
    Calls Tryd.prog 20 #[.string s] w fun e w' => e = .returned (.string s) ∧ Below w.heap.size w w' := by
  have hC : Calls Tryd.prog 34 #[.string s] w _ := Any.stringslite_Clone Tryd.laysClone s w hlim
  go_enter Tryd.func20, Tryd.ntmps20
  go_wp2_with fail
  refine hC.mono ?_
  rintro e w1 ⟨rfl, hB1⟩
  go_wp2
  go_ret
  exact ⟨rfl, hB1⟩
set_option maxRecDepth 100000 in
theorem isNoText_any (s : ByteArray) (w : World) (hm : s.size ≤ 9223372036854775807) (hT : Tabs w) :
    Calls Tryd.prog 31 #[.string s] w fun e w' => e = .returned (.bool (!(textOf s).isSome)) ∧ Below w.heap.size w w' := by
  have hK := textOk_any s w hm hT
  generalize (textOf s).isSome = b at hK ⊢
  go_enter Tryd.func31, Tryd.ntmps31
  go_wp2_with fail
  refine hK.mono ?_
  rintro e w1 ⟨rfl, hB1⟩
  go_wp2
  go_ret
  exact ⟨rfl, hB1⟩
end Go.Proofs.YtiihfaohdgkhaaaDoor
