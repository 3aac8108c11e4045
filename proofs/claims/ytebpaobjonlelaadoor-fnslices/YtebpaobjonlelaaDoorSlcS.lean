import Derived.Test.YtebpaobjonlelaaDoorSlcP
namespace Go.Proofs.YtebpaobjonlelaaDoor
open Go.RowKit
set_option linter.unusedVariables false
set_option linter.unusedSimpArgs false

/-- A bound as a value. -/
abbrev bnd (has : Bool) (x : Int) : Value := .agg #[.bool has, .int .i64 x]
end Go.Proofs.YtebpaobjonlelaaDoor
