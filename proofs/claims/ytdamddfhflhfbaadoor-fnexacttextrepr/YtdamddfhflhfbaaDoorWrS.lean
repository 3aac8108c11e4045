import Derived.Test.YtdamddfhflhfbaaDoorBldA
import Derived.Shelf.Strings.Repeat
namespace Go.Proofs.YtdamddfhflhfbaaDoor
open Go.RowKit Go.Lib Go.Shelf
set_option linter.unusedVariables false

theorem Tryd.laysW : Go.Proofs.Lays.n166 Tryd.prog Tryd.laysRepeat_ren := { Tryd.laysRepeat with }
theorem Tryd.extraW : Builder.Extra Tryd.prog Tryd.laysRepeat_ren := {
  sizeBuilder := by kernel_rfl
  liesBuilder := by kernel_rfl
  t5 := Tryd.underlying5
  a5 := Tryd.isAgg5
  z5 := Tryd.sizeOf5
  v5 := Tryd.zeroValue5
  infoByte := by kernel_rfl
  cellsByte := by kernel_rfl
  sizeByte := by kernel_rfl
  neB5 := by decide }
theorem writeString_any (B b : Nat) (bs : List Value) (s : ByteArray) (w : World) (h : Bld B b bs w) (hlen : bs.length + s.size ≤ 140737488355328) (hBw : B ≤ w.heap.size) :
    Calls Tryd.prog 52 #[.pointer (some ⟨b, 0, none⟩), .string s] w fun e w' => (∃ n, e = .returned (.tuple #[.int .i64 n, .nilIface])) ∧ Bld B b (bs ++ Lib.strCells s) w' ∧ Below B w w' ∧ Lib.OthersKept 5 (some b) w w' :=
  (Any.Builder_WriteString_k Tryd.laysW Tryd.extraW B b bs s w h hlen hBw).mono fun _ _ h => ⟨⟨_, h.1⟩, Or.inr h.2.1, h.2.2.1, h.2.2.2⟩
end Go.Proofs.YtdamddfhflhfbaaDoor
