import Derived.Test.YtahcpgldpbejiaaGreatDoorEncP
import Derived.Test.YtahcpgldpbejiaaGreatDoorBaseI
import Derived.Test.YtahcpgldpbejiaaGreatDoorBzU
namespace Go.Proofs.YtahcpgldpbejiaaGreatDoor
open Go.RowKit Go.Lib
set_option linter.unusedVariables false
set_option linter.unusedSimpArgs false

theorem or_add (a b i m : Nat) (hb : b < 2 ^ i) (ha : a = 2 ^ i * m) (h : a + b < 9223372036854775808) : bits .or .i64 (a : Int) (b : Int) = ((a + b : Nat) : Int) := by
  rw [i64_or_nat a b (by omega) (by omega), ha, Nat.two_pow_add_eq_or_of_lt hb m]
theorem u8_id {a : Int} (h0 : 0 ≤ a) (h1 : a < 256) : IntKind.u8.wrap a = a := by
  simp [IntKind.wrap, IntKind.bits, IntKind.signed]; omega
theorem Own.lit3 (w : World) (g : Nat) (hg : g = w.heap.size) {x y z : Int} (hx0 : 0 ≤ x) (hx1 : x < 4294967296) (hy0 : 0 ≤ y) (hy1 : y < 4294967296) (hz0 : 0 ≤ z) (hz1 : z < 4294967296) : U8.Own (w.alloc (.cells #[.int .u8 x, .int .u8 y, .int .u8 z] 5)) g (.slice (some ⟨g, 0, none⟩) 3 3) [x, y, z] := by
  subst hg; exact ⟨World.ownsRow_lit w #[.int .u8 x, .int .u8 y, .int .u8 z] 3 (Nat.le_refl _) (by unfold maxLen; omega) rfl, by simp, (U8.Limbs.one hx0 hx1).append ((U8.Limbs.one hy0 hy1).append (U8.Limbs.one hz0 hz1))⟩
theorem Own.lit4 (w : World) (g : Nat) (hg : g = w.heap.size) {x y z u : Int} (hx0 : 0 ≤ x) (hx1 : x < 4294967296) (hy0 : 0 ≤ y) (hy1 : y < 4294967296) (hz0 : 0 ≤ z) (hz1 : z < 4294967296) (hu0 : 0 ≤ u) (hu1 : u < 4294967296) : U8.Own (w.alloc (.cells #[.int .u8 x, .int .u8 y, .int .u8 z, .int .u8 u] 5)) g (.slice (some ⟨g, 0, none⟩) 4 4) [x, y, z, u] := by
  subst hg; exact ⟨World.ownsRow_lit w #[.int .u8 x, .int .u8 y, .int .u8 z, .int .u8 u] 4 (Nat.le_refl _) (by unfold maxLen; omega) rfl, by simp, (U8.Limbs.one hx0 hx1).append ((U8.Limbs.one hy0 hy1).append ((U8.Limbs.one hz0 hz1).append (U8.Limbs.one hu0 hu1)))⟩
set_option maxHeartbeats 1000000 in
set_option maxRecDepth 100000 in
theorem l3Put_1 (B : Nat) (a : Option Addr) (n cap c : Nat) (xs : List Int) (w : World) (hc0 : 0 ≤ c) (hc1 : c < 128) (hO : U8.Own w B (.slice a n cap) xs) (hB : B ≤ w.heap.size) (hl : xs.length ≤ 100000) :
    Calls Tryz.prog 49 #[.slice a n cap, .int .i64 c] w fun e w' => ∃ a' c', e = .returned (.slice a' (xs.length + 1) c') ∧ U8.Own w' B (.slice a' (xs.length + 1) c') (xs ++ [(c : Int)]) ∧ Below B w w' := by
  have z0 : (c : Int) < 128 := by omega
  have w1 := u8_id (a := (c : Int)) (by omega) (by omega)
  obtain ⟨E1, hE1⟩ : ∃ E1 : Int, (c : Int) = E1 := ⟨_, rfl⟩
  have p1 : 0 ≤ E1 := by omega
  have p1' : E1 < 4294967296 := by omega
  rw [hE1] at w1 z0 ⊢
  have hBA := (Below.refl B w).alloc hB (Obj.cells #[.int .u8 E1] 5)
  go_enter Tryz.func49, Tryz.ntmps49
  go_wp2_with (at_builtin; refine U8.wpList_append_rd rfl _ _ 34 rfl Tryz.underlying34 B _ _ xs [E1] rfl rfl (hO.alloc _) (U8.Rd.one w w.heap.size rfl 5 p1 p1') (by simp; omega) (by simp; omega) ?_; intro a1 c1 w1 hO1 hB1)
  have hln : (xs ++ [E1]).length = xs.length + 1 := by simp
  rw [hln] at hO1
  go_ret
  exact ⟨a1, c1, rfl, hO1, hBA.trans hB1⟩
set_option maxHeartbeats 1000000 in
set_option maxRecDepth 100000 in
theorem l3Put_2 (B : Nat) (a : Option Addr) (n cap c : Nat) (xs : List Int) (w : World) (hc0 : 128 ≤ c) (hc1 : c < 2048) (hO : U8.Own w B (.slice a n cap) xs) (hB : B ≤ w.heap.size) (hl : xs.length ≤ 100000) :
    Calls Tryz.prog 49 #[.slice a n cap, .int .i64 c] w fun e w' => ∃ a' c', e = .returned (.slice a' (xs.length + 2) c') ∧ U8.Own w' B (.slice a' (xs.length + 2) c') (xs ++ [192 + (c : Int) / 64, 128 + (c : Int) % 64]) ∧ Below B w w' := by
  have z0 : ¬ (c : Int) < 128 := by omega
  have z1 : (c : Int) < 2048 := by omega
  have o1 := or_add 192 (c / 64) 6 3 (by omega) (by omega) (by omega)
  rw [show (((192 : Nat)) : Int) = 192 from rfl, show (((c / 64 : Nat)) : Int) = (c : Int) / 64 by omega, show (((192 + c / 64 : Nat)) : Int) = 192 + (c : Int) / 64 by omega] at o1
  have w1 := u8_id (a := 192 + (c : Int) / 64) (by omega) (by omega)
  have a2 := and63 (c) (by omega)
  rw [show (((c % 64 : Nat)) : Int) = (c : Int) % 64 by omega] at a2
  have o2 := or_add 128 (c % 64) 6 2 (by omega) (by omega) (by omega)
  rw [show (((128 : Nat)) : Int) = 128 from rfl, show (((c % 64 : Nat)) : Int) = (c : Int) % 64 by omega, show (((128 + c % 64 : Nat)) : Int) = 128 + (c : Int) % 64 by omega] at o2
  have w2 := u8_id (a := 128 + (c : Int) % 64) (by omega) (by omega)
  obtain ⟨M2, hM2⟩ : ∃ M2 : Int, (c : Int) % 64 = M2 := ⟨_, rfl⟩
  obtain ⟨E1, hE1⟩ : ∃ E1 : Int, 192 + (c : Int) / 64 = E1 := ⟨_, rfl⟩
  obtain ⟨E2, hE2⟩ : ∃ E2 : Int, 128 + (c : Int) % 64 = E2 := ⟨_, rfl⟩
  have p1 : 0 ≤ E1 := by omega
  have p1' : E1 < 4294967296 := by omega
  have p2 : 0 ≤ E2 := by omega
  have p2' : E2 < 4294967296 := by omega
  rw [hE1, hE2]
  rw [hE1] at o1 w1
  rw [hE2] at o2 w2
  rw [hM2] at a2 o2
  obtain ⟨S6, hS6⟩ : ∃ S6 : Int, (c : Int) / 64 = S6 := ⟨_, rfl⟩
  rw [hS6] at o1
  obtain ⟨C, hC⟩ : ∃ C : Int, (c : Int) = C := ⟨_, rfl⟩
  simp only [hC] at z0 z1 hS6 a2 ⊢
  clear hE1 hE2 hM2 hC hc0 hc1
  have hBA := (Below.refl B w).alloc hB (Obj.cells #[.int .u8 E1, .int .u8 E2] 5)
  go_enter Tryz.func49, Tryz.ntmps49
  go_wp2_with (at_builtin; refine U8.wpList_append_rd rfl _ _ 34 rfl Tryz.underlying34 B _ _ xs [E1, E2] rfl rfl (hO.alloc _) (U8.Rd.two w w.heap.size rfl p1 p1' p2 p2') (by simp; omega) (by simp; omega) ?_; intro a1 c1 w1 hO1 hB1)
  have hln : (xs ++ [E1, E2]).length = xs.length + 2 := by simp
  rw [hln] at hO1
  go_ret
  exact ⟨a1, c1, rfl, hO1, hBA.trans hB1⟩
set_option maxHeartbeats 1000000 in
set_option maxRecDepth 100000 in
theorem l3Put_3 (B : Nat) (a : Option Addr) (n cap c : Nat) (xs : List Int) (w : World) (hc0 : 2048 ≤ c) (hc1 : c < 65536) (hO : U8.Own w B (.slice a n cap) xs) (hB : B ≤ w.heap.size) (hl : xs.length ≤ 100000) :
    Calls Tryz.prog 49 #[.slice a n cap, .int .i64 c] w fun e w' => ∃ a' c', e = .returned (.slice a' (xs.length + 3) c') ∧ U8.Own w' B (.slice a' (xs.length + 3) c') (xs ++ [224 + (c : Int) / 4096, 128 + (c : Int) / 64 % 64, 128 + (c : Int) % 64]) ∧ Below B w w' := by
  have z0 : ¬ (c : Int) < 128 := by omega
  have z1 : ¬ (c : Int) < 2048 := by omega
  have z2 : (c : Int) < 65536 := by omega
  have o1 := or_add 224 (c / 4096) 5 7 (by omega) (by omega) (by omega)
  rw [show (((224 : Nat)) : Int) = 224 from rfl, show (((c / 4096 : Nat)) : Int) = (c : Int) / 4096 by omega, show (((224 + c / 4096 : Nat)) : Int) = 224 + (c : Int) / 4096 by omega] at o1
  have w1 := u8_id (a := 224 + (c : Int) / 4096) (by omega) (by omega)
  have a2 := and63 (c / 64) (by omega)
  rw [show (((c / 64 : Nat)) : Int) = (c : Int) / 64 by omega, show (((c / 64 % 64 : Nat)) : Int) = (c : Int) / 64 % 64 by omega] at a2
  have o2 := or_add 128 (c / 64 % 64) 6 2 (by omega) (by omega) (by omega)
  rw [show (((128 : Nat)) : Int) = 128 from rfl, show (((c / 64 % 64 : Nat)) : Int) = (c : Int) / 64 % 64 by omega, show (((128 + c / 64 % 64 : Nat)) : Int) = 128 + (c : Int) / 64 % 64 by omega] at o2
  have w2 := u8_id (a := 128 + (c : Int) / 64 % 64) (by omega) (by omega)
  obtain ⟨M2, hM2⟩ : ∃ M2 : Int, (c : Int) / 64 % 64 = M2 := ⟨_, rfl⟩
  have a3 := and63 (c) (by omega)
  rw [show (((c % 64 : Nat)) : Int) = (c : Int) % 64 by omega] at a3
  have o3 := or_add 128 (c % 64) 6 2 (by omega) (by omega) (by omega)
  rw [show (((128 : Nat)) : Int) = 128 from rfl, show (((c % 64 : Nat)) : Int) = (c : Int) % 64 by omega, show (((128 + c % 64 : Nat)) : Int) = 128 + (c : Int) % 64 by omega] at o3
  have w3 := u8_id (a := 128 + (c : Int) % 64) (by omega) (by omega)
  obtain ⟨M3, hM3⟩ : ∃ M3 : Int, (c : Int) % 64 = M3 := ⟨_, rfl⟩
  obtain ⟨E1, hE1⟩ : ∃ E1 : Int, 224 + (c : Int) / 4096 = E1 := ⟨_, rfl⟩
  obtain ⟨E2, hE2⟩ : ∃ E2 : Int, 128 + (c : Int) / 64 % 64 = E2 := ⟨_, rfl⟩
  obtain ⟨E3, hE3⟩ : ∃ E3 : Int, 128 + (c : Int) % 64 = E3 := ⟨_, rfl⟩
  have p1 : 0 ≤ E1 := by omega
  have p1' : E1 < 4294967296 := by omega
  have p2 : 0 ≤ E2 := by omega
  have p2' : E2 < 4294967296 := by omega
  have p3 : 0 ≤ E3 := by omega
  have p3' : E3 < 4294967296 := by omega
  rw [hE1, hE2, hE3]
  rw [hE1] at o1 w1
  rw [hE2] at o2 w2
  rw [hM2] at a2 o2
  rw [hE3] at o3 w3
  rw [hM3] at a3 o3
  obtain ⟨S12, hS12⟩ : ∃ S12 : Int, (c : Int) / 4096 = S12 := ⟨_, rfl⟩
  rw [hS12] at o1
  obtain ⟨S6, hS6⟩ : ∃ S6 : Int, (c : Int) / 64 = S6 := ⟨_, rfl⟩
  rw [hS6] at a2
  obtain ⟨C, hC⟩ : ∃ C : Int, (c : Int) = C := ⟨_, rfl⟩
  simp only [hC] at z0 z1 z2 hS12 hS6 a3 ⊢
  clear hE1 hE2 hE3 hM2 hM3 hC hc0 hc1
  have hBA := (Below.refl B w).alloc hB (Obj.cells #[.int .u8 E1, .int .u8 E2, .int .u8 E3] 5)
  go_enter Tryz.func49, Tryz.ntmps49
  go_wp2_with (at_builtin; refine U8.wpList_append_rd rfl _ _ 34 rfl Tryz.underlying34 B _ _ xs [E1, E2, E3] rfl rfl (hO.alloc _) ((Own.lit3 w w.heap.size rfl p1 p1' p2 p2' p3 p3').rd) (by simp; omega) (by simp; omega) ?_; intro a1 c1 w1 hO1 hB1)
  have hln : (xs ++ [E1, E2, E3]).length = xs.length + 3 := by simp
  rw [hln] at hO1
  go_ret
  exact ⟨a1, c1, rfl, hO1, hBA.trans hB1⟩
set_option maxHeartbeats 1000000 in
set_option maxRecDepth 100000 in
theorem l3Put_4 (B : Nat) (a : Option Addr) (n cap c : Nat) (xs : List Int) (w : World) (hc0 : 65536 ≤ c) (hc1 : c < 1114112) (hO : U8.Own w B (.slice a n cap) xs) (hB : B ≤ w.heap.size) (hl : xs.length ≤ 100000) :
    Calls Tryz.prog 49 #[.slice a n cap, .int .i64 c] w fun e w' => ∃ a' c', e = .returned (.slice a' (xs.length + 4) c') ∧ U8.Own w' B (.slice a' (xs.length + 4) c') (xs ++ [240 + (c : Int) / 262144, 128 + (c : Int) / 4096 % 64, 128 + (c : Int) / 64 % 64, 128 + (c : Int) % 64]) ∧ Below B w w' := by
  have z0 : ¬ (c : Int) < 128 := by omega
  have z1 : ¬ (c : Int) < 2048 := by omega
  have z2 : ¬ (c : Int) < 65536 := by omega
  have o1 := or_add 240 (c / 262144) 4 15 (by omega) (by omega) (by omega)
  rw [show (((240 : Nat)) : Int) = 240 from rfl, show (((c / 262144 : Nat)) : Int) = (c : Int) / 262144 by omega, show (((240 + c / 262144 : Nat)) : Int) = 240 + (c : Int) / 262144 by omega] at o1
  have w1 := u8_id (a := 240 + (c : Int) / 262144) (by omega) (by omega)
  have a2 := and63 (c / 4096) (by omega)
  rw [show (((c / 4096 : Nat)) : Int) = (c : Int) / 4096 by omega, show (((c / 4096 % 64 : Nat)) : Int) = (c : Int) / 4096 % 64 by omega] at a2
  have o2 := or_add 128 (c / 4096 % 64) 6 2 (by omega) (by omega) (by omega)
  rw [show (((128 : Nat)) : Int) = 128 from rfl, show (((c / 4096 % 64 : Nat)) : Int) = (c : Int) / 4096 % 64 by omega, show (((128 + c / 4096 % 64 : Nat)) : Int) = 128 + (c : Int) / 4096 % 64 by omega] at o2
  have w2 := u8_id (a := 128 + (c : Int) / 4096 % 64) (by omega) (by omega)
  obtain ⟨M2, hM2⟩ : ∃ M2 : Int, (c : Int) / 4096 % 64 = M2 := ⟨_, rfl⟩
  have a3 := and63 (c / 64) (by omega)
  rw [show (((c / 64 : Nat)) : Int) = (c : Int) / 64 by omega, show (((c / 64 % 64 : Nat)) : Int) = (c : Int) / 64 % 64 by omega] at a3
  have o3 := or_add 128 (c / 64 % 64) 6 2 (by omega) (by omega) (by omega)
  rw [show (((128 : Nat)) : Int) = 128 from rfl, show (((c / 64 % 64 : Nat)) : Int) = (c : Int) / 64 % 64 by omega, show (((128 + c / 64 % 64 : Nat)) : Int) = 128 + (c : Int) / 64 % 64 by omega] at o3
  have w3 := u8_id (a := 128 + (c : Int) / 64 % 64) (by omega) (by omega)
  obtain ⟨M3, hM3⟩ : ∃ M3 : Int, (c : Int) / 64 % 64 = M3 := ⟨_, rfl⟩
  have a4 := and63 (c) (by omega)
  rw [show (((c % 64 : Nat)) : Int) = (c : Int) % 64 by omega] at a4
  have o4 := or_add 128 (c % 64) 6 2 (by omega) (by omega) (by omega)
  rw [show (((128 : Nat)) : Int) = 128 from rfl, show (((c % 64 : Nat)) : Int) = (c : Int) % 64 by omega, show (((128 + c % 64 : Nat)) : Int) = 128 + (c : Int) % 64 by omega] at o4
  have w4 := u8_id (a := 128 + (c : Int) % 64) (by omega) (by omega)
  obtain ⟨M4, hM4⟩ : ∃ M4 : Int, (c : Int) % 64 = M4 := ⟨_, rfl⟩
  obtain ⟨E1, hE1⟩ : ∃ E1 : Int, 240 + (c : Int) / 262144 = E1 := ⟨_, rfl⟩
  obtain ⟨E2, hE2⟩ : ∃ E2 : Int, 128 + (c : Int) / 4096 % 64 = E2 := ⟨_, rfl⟩
  obtain ⟨E3, hE3⟩ : ∃ E3 : Int, 128 + (c : Int) / 64 % 64 = E3 := ⟨_, rfl⟩
  obtain ⟨E4, hE4⟩ : ∃ E4 : Int, 128 + (c : Int) % 64 = E4 := ⟨_, rfl⟩
  have p1 : 0 ≤ E1 := by omega
  have p1' : E1 < 4294967296 := by omega
  have p2 : 0 ≤ E2 := by omega
  have p2' : E2 < 4294967296 := by omega
  have p3 : 0 ≤ E3 := by omega
  have p3' : E3 < 4294967296 := by omega
  have p4 : 0 ≤ E4 := by omega
  have p4' : E4 < 4294967296 := by omega
  rw [hE1, hE2, hE3, hE4]
  rw [hE1] at o1 w1
  rw [hE2] at o2 w2
  rw [hM2] at a2 o2
  rw [hE3] at o3 w3
  rw [hM3] at a3 o3
  rw [hE4] at o4 w4
  rw [hM4] at a4 o4
  obtain ⟨S18, hS18⟩ : ∃ S18 : Int, (c : Int) / 262144 = S18 := ⟨_, rfl⟩
  rw [hS18] at o1
  obtain ⟨S12, hS12⟩ : ∃ S12 : Int, (c : Int) / 4096 = S12 := ⟨_, rfl⟩
  rw [hS12] at a2
  obtain ⟨S6, hS6⟩ : ∃ S6 : Int, (c : Int) / 64 = S6 := ⟨_, rfl⟩
  rw [hS6] at a3
  obtain ⟨C, hC⟩ : ∃ C : Int, (c : Int) = C := ⟨_, rfl⟩
  simp only [hC] at z0 z1 z2 hS18 hS12 hS6 a4 ⊢
  clear hE1 hE2 hE3 hE4 hM2 hM3 hM4 hC hc0 hc1
  have hBA := (Below.refl B w).alloc hB (Obj.cells #[.int .u8 E1, .int .u8 E2, .int .u8 E3, .int .u8 E4] 5)
  go_enter Tryz.func49, Tryz.ntmps49
  go_wp2_with (at_builtin; refine U8.wpList_append_rd rfl _ _ 34 rfl Tryz.underlying34 B _ _ xs [E1, E2, E3, E4] rfl rfl (hO.alloc _) ((Own.lit4 w w.heap.size rfl p1 p1' p2 p2' p3 p3' p4 p4').rd) (by simp; omega) (by simp; omega) ?_; intro a1 c1 w1 hO1 hB1)
  have hln : (xs ++ [E1, E2, E3, E4]).length = xs.length + 4 := by simp
  rw [hln] at hO1
  go_ret
  exact ⟨a1, c1, rfl, hO1, hBA.trans hB1⟩
theorem bz_encs (c : Nat) (h : Scalar c) : bz (encodeRune (c : Int)) = encodeRuneZ (c : Int) := by
  unfold bz encodeRune
  rw [List.map_map]
  refine (List.map_congr_left (g := id) fun z hz => ?_).trans (List.map_id _)
  have := encodeRuneZ_byte _ z hz
  show ((z.toNat.toUInt8.toNat : Nat) : Int) = z
  rw [byte_nat (by omega)]; omega
theorem l3Put_any (B : Nat) (a : Option Addr) (n cap c : Nat) (xs : List UInt8) (w : World) (hs : Scalar c) (hO : U8.Own w B (.slice a n cap) (bz xs)) (hB : B ≤ w.heap.size) (hl : xs.length ≤ 100000) :
    Calls Tryz.prog 49 #[.slice a n cap, .int .i64 c] w fun e w' => ∃ g c', e = .returned (.slice (some ⟨g, 0, none⟩) (xs ++ encodeRune (c : Int)).length c') ∧ U8.Own w' B (.slice (some ⟨g, 0, none⟩) (xs ++ encodeRune (c : Int)).length c') (bz (xs ++ encodeRune (c : Int))) ∧ Below B w w' := by
  have hbz : bz (xs ++ encodeRune (c : Int)) = bz xs ++ encodeRuneZ (c : Int) := by rw [← bz_encs c hs]; unfold bz; rw [List.map_append]
  have hbl : (bz xs).length = xs.length := by simp [bz]
  have fin : ∀ (m : Nat) (ys : List Int), encodeRuneZ (c : Int) = ys → ys.length = m → 1 ≤ m → ∀ e (w' : World), (∃ a' c', e = Ending.returned (.slice a' ((bz xs).length + m) c') ∧ U8.Own w' B (.slice a' ((bz xs).length + m) c') (bz xs ++ ys) ∧ Below B w w') →
      ∃ g c', e = .returned (.slice (some ⟨g, 0, none⟩) (xs ++ encodeRune (c : Int)).length c') ∧ U8.Own w' B (.slice (some ⟨g, 0, none⟩) (xs ++ encodeRune (c : Int)).length c') (bz (xs ++ encodeRune (c : Int))) ∧ Below B w w' := by
    intro m ys hy hm h1 e w' ⟨a', c', he, ho, hb⟩
    have hel : (encodeRune (c : Int)).length = m := by unfold encodeRune; rw [List.length_map, hy, hm]
    have hlen : (xs ++ encodeRune (c : Int)).length = (bz xs).length + m := by rw [List.length_append, hel, hbl]
    rw [hlen, hbz, hy]
    rcases ho.shape with ⟨hv, hz⟩ | ⟨g, cp, hv, _⟩
    · exfalso
      have := congrArg List.length hz
      rw [List.length_append, List.length_nil] at this; omega
    · simp only [Value.slice.injEq] at hv
      obtain ⟨rfl, _, rfl⟩ := hv
      exact ⟨g, c', he, ho, hb⟩
  have hs2 := hs
  unfold Scalar at hs2
  by_cases h1 : c < 128
  · exact (l3Put_1 B a n cap c (bz xs) w (by omega) h1 hO hB (by omega)).mono fun e w' h => fin 1 _ (encodeRuneZ_one (by omega) (by omega)) rfl (by omega) e w' h
  · by_cases h2 : c < 2048
    · exact (l3Put_2 B a n cap c (bz xs) w (by omega) h2 hO hB (by omega)).mono fun e w' h => fin 2 _ (encodeRuneZ_two (by omega) (by omega)) rfl (by omega) e w' h
    · by_cases h3 : c < 65536
      · exact (l3Put_3 B a n cap c (bz xs) w (by omega) h3 hO hB (by omega)).mono fun e w' h => fin 3 _ (encodeRuneZ_three (by omega)) rfl (by omega) e w' h
      · exact (l3Put_4 B a n cap c (bz xs) w (by omega) (by omega) hO hB (by omega)).mono fun e w' h => fin 4 _ (encodeRuneZ_four (by omega) (by omega)) rfl (by omega) e w' h
theorem encs_le4 (ns : List Nat) : (encs ns).length ≤ 4 * ns.length := by
  induction ns with
  | nil => simp [encs]
  | cons r rs ih =>
    have := enc_le4 r
    rw [encs_cons, List.length_append, List.length_cons]; omega
theorem encs_snoc (ns : List Nat) (k : Nat) (h : k < ns.length) : encs (ns.take k) ++ encodeRune ((ns[k] : Nat) : Int) = encs (ns.take (k + 1)) := by
  rw [List.take_succ_eq_append_getElem h, encs_append, encs_cons, encs_nil, List.append_nil]
set_option maxRecDepth 100000 in
theorem l3Text_any (a : Option Addr) (cap : Nat) (ns : List Nat) (w : World) (hR : Rd w (.slice a ns.length cap) (ns.map fun (n : Nat) => (n : Int))) (hs : ∀ r ∈ ns, Scalar r) (hl : ns.length ≤ 16384) :
    Calls Tryz.prog 24 #[.slice a ns.length cap] w fun e w' => e = .returned (.string ⟨(encs ns).toArray⟩) ∧ Below w.heap.size w w' := by
  have HS : Hid (∀ r ∈ ns, Scalar r) := hs
  clear hs
  go_enter Tryz.func24, Tryz.ntmps24
  go_wp2
  go_loopw [3, 4] (fun o i wr => ∃ (k g n co : Nat), k ≤ ns.length ∧ i = .int .i64 k ∧ n = (encs (ns.take k)).length ∧ o = .slice (some ⟨g, 0, none⟩) n co ∧ U8.Own wr w.heap.size (.slice (some ⟨g, 0, none⟩) n co) (bz (encs (ns.take k))) ∧ Below w.heap.size w wr) (fun _ i _ => ns.length - (intOf i).toNat)
  case atStart => exact ⟨0, w.heap.size, 0, 0, by omega, rfl, rfl, rfl, U8.Own.empty w, (Below.refl _ _).alloc (Nat.le_refl _) _⟩
  case round =>
    obtain ⟨k, g, n, co, hk, rfl, hn, rfl, hOw, hBr⟩ := hrel
    have hwk := wrap64_id (a := (k : Int) + 1) (by omega) (by omega)
    have HN : Hid (n = (encs (ns.take k)).length) := hn
    clear hn
    by_cases hi : k < ns.length
    · have hiz : (k : Int) < (ns.length : Int) := by omega
      have hR2 := hR.keep hBr
      obtain ⟨a1, cap1, e1, _, _, hn0, hc⟩ := hR2
      simp only [Value.slice.injEq, List.length_map] at e1
      obtain ⟨rfl, _, rfl⟩ := e1
      obtain ⟨b, off, rfl, hb, hcell⟩ := hc (by simp; omega)
      obtain ⟨c, hcd⟩ : ∃ c, ns[k] = c := ⟨_, rfl⟩
      have hck := hcell k (by simpa using hi)
      have hgd : (ns.map fun (n : Nat) => (n : Int)).getD k 0 = (c : Int) := by simp [List.getD, hi, hcd]
      rw [hgd] at hck
      have hsc : Scalar c := by rw [← hcd]; exact HS.out _ (List.getElem_mem hi)
      have hP := fun W ho hb => l3Put_any w.heap.size (some ⟨g, 0, none⟩) n co c (encs (ns.take k)) W hsc ho hb (by have := encs_le4 (ns.take k); simp at this; omega)
      have HE : Hid (encs (ns.take k) ++ encodeRune (c : Int) = encs (ns.take (k + 1))) := by
        show _ = _
        rw [← hcd]; exact encs_snoc ns k hi
      rw [HE.out] at hP
      obtain ⟨m, hm⟩ : ∃ m, (encs (ns.take (k + 1))).length = m := ⟨_, rfl⟩
      rw [hm] at hP
      clear hcell hgd hsc hcd HS
      go_wp2_with (go_at_call 49; refine (hP _ hOw hBr.size).mono ?_; rintro e w1 ⟨g1, c1, rfl, hO1, hB1⟩)
      go_roundw
      case rel => exact ⟨k + 1, g1, m, c1, by omega, by go_num, hm.symm, rfl, hO1, hBr.trans hB1⟩
      case measure => first | (simp [intOf]; done) | (simp [intOf]; omega)
    · have hiz : ¬ (k : Int) < (ns.length : Int) := by omega
      obtain rfl : k = ns.length := by omega
      have hn := HN.out
      rw [List.take_length] at hOw hn
      have hcv := bytes_back wr w.heap.size g co (encs ns) n hn hOw
      clear HN hn
      go_wp2
      go_ret
      exact ⟨rfl, hBr⟩
end Go.Proofs.YtahcpgldpbejiaaGreatDoor
