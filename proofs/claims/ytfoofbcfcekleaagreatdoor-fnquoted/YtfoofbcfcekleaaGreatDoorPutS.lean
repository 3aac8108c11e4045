import Derived.Test.YtfoofbcfcekleaaGreatDoorEncP
import Derived.Test.YtfoofbcfcekleaaGreatDoorBaseI
import Derived.Test.YtfoofbcfcekleaaGreatDoorBzU
namespace Go.Proofs.YtfoofbcfcekleaaGreatDoor
open Go.RowKit Go.Lib
set_option linter.unusedVariables false
set_option linter.unusedSimpArgs false

theorem or_add (a b i m : Nat) (hb : b < 2 ^ i) (ha : a = 2 ^ i * m) (h : a + b < 9223372036854775808) : bits .or .i64 (a : Int) (b : Int) = ((a + b : Nat) : Int) := by
  rw [i64_or_nat a b (by omega) (by omega), ha, Nat.two_pow_add_eq_or_of_lt hb m]
theorem u8_id {a : Int} (h0 : 0 ≤ a) (h1 : a < 256) : IntKind.u8.wrap a = a := by
  simp [IntKind.wrap, IntKind.bits, IntKind.signed]; omega
theorem Own.lit3 (w : World) (g : Nat) (hg : g = w.heap.size) {x y z : Int} (hx0 : 0 ≤ x) (hx1 : x < 4294967296) (hy0 : 0 ≤ y) (hy1 : y < 4294967296) (hz0 : 0 ≤ z) (hz1 : z < 4294967296) : U8.Own (w.alloc (.cells #[.int .u8 x, .int .u8 y, .int .u8 z] 5)) g (.slice (some ⟨g, 0, none⟩) 3 3) [x, y, z] := by
  subst hg; exact ⟨World.ownsRow_lit w #[.int .u8 x, .int .u8 y, .int .u8 z] 3 (Nat.le_refl _) (by unfold maxLen; omega) rfl, by simp, (U8.Limbs.one hx0 hx1).append ((U8.Limbs.one hy0 hy1).append (U8.Limbs.one hz0 hz1))⟩
theorem Own.lit4 (w : World) (g : Nat) (hg : g = w.heap.size) {x y z u : Int} (hx0 : 0 ≤ x) (hx1 : x < 4294967296) (hy0 : 0 ≤ y) (hy1 : y < 4294967296) (hz0 : 0 ≤ z) (hz1 : z < 4294967296) (hu0 : 0 ≤ u) (hu1 : u < 4294967296) : U8.Own (w.alloc (.cells #[.int .u8 x, .int .u8 y, .int .u8 z, .int .u8 u] 5)) g (.slice (some ⟨g, 0, none⟩) 4 4) [x, y, z, u] := by
  subst hg; exact ⟨World.ownsRow_lit w #[.int .u8 x, .int .u8 y, .int .u8 z, .int .u8 u] 4 (Nat.le_refl _) (by unfold maxLen; omega) rfl, by simp, (U8.Limbs.one hx0 hx1).append ((U8.Limbs.one hy0 hy1).append ((U8.Limbs.one hz0 hz1).append (U8.Limbs.one hu0 hu1)))⟩
theorem bz_encs (c : Nat) (h : Scalar c) : bz (encodeRune (c : Int)) = encodeRuneZ (c : Int) := by
  unfold bz encodeRune
  rw [List.map_map]
  refine (List.map_congr_left (g := id) fun z hz => ?_).trans (List.map_id _)
  have := encodeRuneZ_byte _ z hz
  show ((z.toNat.toUInt8.toNat : Nat) : Int) = z
  rw [byte_nat (by omega)]; omega
theorem encs_le4 (ns : List Nat) : (encs ns).length ≤ 4 * ns.length := by
  induction ns with
  | nil => simp [encs]
  | cons r rs ih =>
    have := enc_le4 r
    rw [encs_cons, List.length_append, List.length_cons]; omega
theorem encs_snoc (ns : List Nat) (k : Nat) (h : k < ns.length) : encs (ns.take k) ++ encodeRune ((ns[k] : Nat) : Int) = encs (ns.take (k + 1)) := by
  rw [List.take_succ_eq_append_getElem h, encs_append, encs_cons, encs_nil, List.append_nil]
end Go.Proofs.YtfoofbcfcekleaaGreatDoor
