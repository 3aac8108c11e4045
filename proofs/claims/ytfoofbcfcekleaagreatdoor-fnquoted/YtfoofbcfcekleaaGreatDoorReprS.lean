import Derived.Test.YtfoofbcfcekleaaGreatDoorReprP
import Derived.Test.YtfoofbcfcekleaaGreatDoorPutS
import Derived.Deep.RegionHeldLaw
import Derived.Deep.AppendLies
namespace Go.Proofs.YtfoofbcfcekleaaGreatDoor
open Go.RowKit Go.Lib
set_option linter.unusedVariables false
set_option linter.unusedSimpArgs false

/-- The signs of the digits. -/
abbrev hexS : ByteArray := ⟨#[48, 49, 50, 51, 52, 53, 54, 55, 56, 57, 97, 98, 99, 100, 101, 102]⟩
theorem hex_at (n : Nat) (h : n < 16) : hexS[n]'(by show n < 16; exact h) = (hexN n).toUInt8 := by
  have : ∀ m : Fin 16, hexS[m.1]'(by show m.1 < 16; exact m.2) = (hexN m.1).toUInt8 := by decide
  exact this ⟨n, h⟩
theorem u8_and15 (a : Nat) (ha : a < 256) : bits .and .u8 (a : Int) 15 = ((a % 16 : Nat) : Int) := by
  have : ∀ m : Fin 256, bits .and .u8 (m.1 : Int) 15 = ((m.1 % 16 : Nat) : Int) := by decide +kernel
  exact this ⟨a, ha⟩
/-- The bytes of a repr up to a place. -/
def reprTo (q : Nat) (s : ByteArray) (k : Nat) : List UInt8 := [q.toUInt8] ++ (s.data.toList.take k).flatMap (reprB q)
theorem reprTo_succ (q : Nat) (s : ByteArray) (k : Nat) (h : k < s.size) : reprTo q s (k + 1) = reprTo q s k ++ reprB q (s.get! k) := by
  have hk : k < s.data.toList.length := by rw [← size_eq]; exact h
  unfold reprTo
  rw [List.take_succ_eq_append_getElem hk, List.flatMap_append]
  have e : s.data.toList[k] = s.get! k := by rw [← get_at s k h]; rfl
  rw [e]; simp
theorem reprTo_len (q : Nat) (s : ByteArray) (k : Nat) : (reprTo q s k).length ≤ 4 * k + 1 := by
  unfold reprTo
  have : ∀ l : List UInt8, (l.flatMap (reprB q)).length ≤ 4 * l.length := by
    intro l
    induction l with
    | nil => simp
    | cons a l ih =>
      rw [List.flatMap_cons, List.length_append, List.length_cons]
      have : (reprB q a).length ≤ 4 := by unfold reprB toB; rw [List.length_map]; exact reprN_len _ _
      omega
  have h2 := this (s.data.toList.take k)
  rw [List.length_take] at h2
  simp only [List.length_append, List.length_cons, List.length_nil]
  omega
theorem bz_length (l : List UInt8) : (bz l).length = l.length := by simp [bz]
theorem bz_toB (l : List Nat) (h : ∀ x ∈ l, x < 256) : bz (toB l) = l.map fun (n : Nat) => (n : Int) := by
  unfold bz toB
  rw [List.map_map]
  refine List.map_congr_left fun x hx => ?_
  show ((x.toUInt8.toNat : Nat) : Int) = x
  rw [byte_nat (h x hx)]
theorem bz_reprTo (q : Nat) (s : ByteArray) (k : Nat) (h : k < s.size) (ys : List Int) (hy : (reprN q (s.get! k).toNat).map (fun (n : Nat) => (n : Int)) = ys) : bz (reprTo q s k) ++ ys = bz (reprTo q s (k + 1)) := by
  rw [reprTo_succ q s k h, ← hy, ← bz_toB _ (reprN_byte (UInt8.toNat_lt _))]
  unfold bz reprB; rw [List.map_append]
end Go.Proofs.YtfoofbcfcekleaaGreatDoor
