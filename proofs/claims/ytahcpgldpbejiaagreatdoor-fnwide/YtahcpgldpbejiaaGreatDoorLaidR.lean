import Derived.Shelf.SlicesE.Reverse
import Derived.Shelf.Strings.Trim
import Derived.Test.YtahcpgldpbejiaaGreatDoorLaidFm
import Derived.Test.YtahcpgldpbejiaaGreatDoorProg
namespace Go.Proofs.YtahcpgldpbejiaaGreatDoor
open Go.Shelf
def Tryz.laysReverse_ren : Go.Shelf.Ren := ⟨fun | 35 => 67 | n => n, fun | 22 => 34 | 23 => 5 | 3 => 3 | 4 => 4 | 0 => 0 | n => n, fun | n => n⟩
theorem Tryz.laysReverse : Go.Proofs.SlLaysE.n35 Tryz.prog Tryz.laysReverse_ren := {
  mixed := by kernel_rfl
  f35 := ⟨Tryz.f67.name, by decide, Tryz.func67.trans (congrArg some (by kernel_rfl))⟩
  t0 := Tryz.underlying0
  a0 := Tryz.isAgg0
  z0 := Tryz.sizeOf0
  v0 := Tryz.zeroValue0
  t3 := Tryz.underlying3
  a3 := Tryz.isAgg3
  z3 := Tryz.sizeOf3
  v3 := Tryz.zeroValue3
  t4 := Tryz.underlying4
  a4 := Tryz.isAgg4
  z4 := Tryz.sizeOf4
  v4 := Tryz.zeroValue4
  t22 := Tryz.underlying34
  a22 := Tryz.isAgg34
  z22 := Tryz.sizeOf34
  v22 := Tryz.zeroValue34
  a23 := Tryz.isAgg5
  z23 := Tryz.sizeOf5 }
end Go.Proofs.YtahcpgldpbejiaaGreatDoor
