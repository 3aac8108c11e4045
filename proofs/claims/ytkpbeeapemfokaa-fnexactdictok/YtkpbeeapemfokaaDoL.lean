import Derived.Test.YtkpbeeapemfokaaOrI
import Derived.Test.YtkpbeeapemfokaaDoX
namespace Go.Proofs.Ytkpbeeapemfokaa
open Go.RowKit Go.Maps
set_option linter.unusedVariables false

theorem law_dictok (a1 a2 : Option Addr) (c1 c2 : Nat) (ds : List Int) (de : List En) (l : Int) (w : World) (h1 : ds.length ≤ 9223372036854775807) (h2 : de.length ≤ 9223372036854775807)
    (hr : ds.length + de.length ≤ 1048576 → Rd w (.slice a1 ds.length c1) ds ∧ RdE w (.slice a2 de.length c2) de) (hl : -9223372036854775808 ≤ l ∧ l ≤ 9223372036854775807) :
    Calls Try.prog 4 #[.agg #[.slice a1 ds.length c1, .slice a2 de.length c2, .int .i64 l]] w fun e w' => e = .returned (.bool true) ∧ Below w.heap.size w w' :=
  law_dictok_of okI_any a1 a2 c1 c2 ds de l w h1 h2 hr hl
end Go.Proofs.Ytkpbeeapemfokaa
