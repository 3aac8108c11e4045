import Derived.Test.YtgbkniliojpejaaDoorBrdM
import Derived.Lib.Bytealg
import Derived.Shelf.Abstract
namespace Go.Proofs.YtgbkniliojpejaaDoor
open Go.RowKit
set_option linter.unusedVariables false
set_option linter.unusedSimpArgs false

set_option maxRecDepth 100000 in
theorem sliteIndexByte_any (s : ByteArray) (c : Int) (w : World) :
    Calls Tryd.prog 46 #[.string s, .int .u8 c] w fun e w' => e = .returned (.int .i64 (Lib.indexByte s.data.toList c.toNat.toUInt8)) ∧ w' = w := by
  go_enter Tryd.func46, Tryd.ntmps46
  go_wp2
  rw [run_callFunc_extern Tryd.func52 (by kernel_rfl) (by kernel_rfl) (by kernel_rfl) (e := Extern.BytealgIndexByte.indexByte) (by kernel_rfl), Lib.run_indexByteString]
  simp only [Result.andThen]
  rw [Oper.upon_value]
  go_wp2
  go_ret
  exact ⟨rfl, rfl⟩
set_option maxRecDepth 100000 in
theorem indexByte_any (s : ByteArray) (c : Int) (w : World) :
    Calls Tryd.prog 34 #[.string s, .int .u8 c] w fun e w' => e = .returned (.int .i64 (Lib.indexByte s.data.toList c.toNat.toUInt8)) ∧ w' = w := by
  have h := sliteIndexByte_any s c w
  go_enter Tryd.func34, Tryd.ntmps34
  go_wp2_with fail
  refine h.mono ?_
  rintro e w1 ⟨rfl, rfl⟩
  go_wp2
  go_ret
  exact ⟨rfl, rfl⟩
/-- The signs of the digits. -/
def signs : ByteArray := ⟨#[48, 49, 50, 51, 52, 53, 54, 55, 56, 57, 97, 98, 99, 100, 101, 102, 103, 104, 105, 106, 107, 108, 109, 110, 111, 112, 113, 114, 115, 116, 117, 118, 119, 120, 121, 122]⟩
set_option maxRecDepth 100000 in
theorem sign_at (x : UInt8) : Lib.indexByte signs.data.toList x = if digN x < 36 then (digN x : Int) else -1 := by
  have h : ∀ n < 256, Lib.indexByte signs.data.toList (UInt8.ofNat n) = if digN (UInt8.ofNat n) < 36 then (digN (UInt8.ofNat n) : Int) else -1 := by decide +kernel
  have := h x.toNat x.toNat_lt
  rwa [UInt8.ofNat_toNat] at this
theorem digitOf_any (x : UInt8) (w : World) :
    Calls Tryd.prog 34 #[.string signs, .int .u8 (x.toNat : Int)] w fun e w' => e = .returned (.int .i64 (if digN x < 36 then (digN x : Int) else -1)) ∧ w' = w := by
  have h := indexByte_any signs (x.toNat : Int) w
  have e : ((x.toNat : Int)).toNat.toUInt8 = x := by simp
  rw [e, sign_at] at h
  exact h
end Go.Proofs.YtgbkniliojpejaaDoor
