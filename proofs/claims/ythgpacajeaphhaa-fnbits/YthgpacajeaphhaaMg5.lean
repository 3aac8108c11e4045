import Derived.Test.YthgpacajeaphhaaMg1
import Derived.Test.YthgpacajeaphhaaCmpR
import Derived.Test.YthgpacajeaphhaaCut
import Derived.Deep.RegionHeld3
import Derived.Test.YthgpacajeaphhaaRPow
namespace Go.Proofs.Ythgpacajeaphhaa
open Go.RowKit
set_option linter.unusedVariables false
set_option linter.unusedSimpArgs false

/-- The quotient toward below, and its rest, without their signs. -/
def flQ (p : Bool) (X : Nat) (t : Bool) (Y : Nat) : Nat := if p ≠ t ∧ X % Y ≠ 0 then X / Y + 1 else X / Y
end Go.Proofs.Ythgpacajeaphhaa

namespace Go.Proofs.Ythgpacajeaphhaa
open Go.RowKit
set_option linter.unusedVariables false
set_option linter.unusedSimpArgs false

theorem flQ_false (X Y : Nat) : flQ false X false Y = X / Y := by unfold flQ; rw [if_neg (by simp)]
theorem ceil_flQ (X Y : Nat) (hX : 0 < X) (hY : 0 < Y) : (X - 1) / Y + 1 = flQ true X false Y := by
  have h1 := Nat.div_add_mod X Y
  have h2 := Nat.mod_lt X hY
  unfold flQ
  by_cases h : X % Y = 0
  · rw [if_neg (by simp [h])]
    have hq : 0 < X / Y := by
      rcases Nat.eq_zero_or_pos (X / Y) with e | e
      · rw [e, h] at h1; omega
      · exact e
    obtain ⟨q, hq'⟩ : ∃ q, X / Y = q + 1 := ⟨X / Y - 1, by omega⟩
    rw [hq'] at h1 ⊢
    have e : X - 1 = (Y - 1) + Y * q := by rw [Nat.mul_succ] at h1; omega
    rw [e, Nat.add_mul_div_left _ _ hY, Nat.div_eq_of_lt (by omega), Nat.zero_add]
  · rw [if_pos ⟨by simp, h⟩]
    generalize X / Y = q at h1
    have e : X - 1 = (X % Y - 1) + Y * q := by omega
    rw [e, Nat.add_mul_div_left _ _ hY, Nat.div_eq_of_lt (by omega), Nat.zero_add]
theorem flQ_le (p : Bool) (X Y : Nat) (hX : 0 < X) (hY : 0 < Y) : flQ p X false Y ≤ X := by
  cases p
  · rw [flQ_false]; exact Nat.div_le_self _ _
  · rw [← ceil_flQ X Y hX hY]
    have := Nat.div_le_self (X - 1) Y
    omega
theorem flQ_len (p : Bool) {xs : List Int} (hz : Limbs xs) (hl : xs.length ≤ 128) (Y : Nat) (hX : 0 < val xs) (hY : 0 < Y) : (lim (flQ p (val xs) false Y)).length ≤ 128 :=
  Nat.le_trans (lim_length_le (Nat.lt_of_le_of_lt (flQ_le p _ Y hX hY) (val_lt hz))) hl
theorem up_large (X k n : Nat) (hX : 0 < X) (hn : 32 * k ≤ n) : k < (lim (X * 2 ^ n)).length := by
  refine lim_length_gt ?_
  rw [R_pow]
  exact Nat.le_trans (Nat.pow_le_pow_right (by decide) hn) (Nat.le_mul_of_pos_left _ hX)
theorem norm_pos {xs : List Int} (hz : Limbs xs) (hn : Norm xs) (h : ¬ xs.length = 0) : 0 < val xs := by
  have := le_val hz hn (by omega)
  have h1 : 0 < 4294967296 ^ (xs.length - 1) := Nat.pow_pos (by omega)
  omega

/-- What BigShift answers. -/
def shS (g p : Bool) (X : Nat) (n : Int) : Bool := if g = true then (if X = 0 then false else if n < 0 then nz p (flQ p X false (2 ^ (min (-n) 4096).toNat)) else if 4096 < n then false else fitS p (X * 2 ^ n.toNat)) else false
def shL (g p : Bool) (X : Nat) (n : Int) : List Int := if g = true then (if X = 0 then [] else if n < 0 then lim (flQ p X false (2 ^ (min (-n) 4096).toNat)) else if 4096 < n then [] else fitL (X * 2 ^ n.toNat)) else []
def shC (g : Bool) (X : Nat) (n : Int) : Int := if g = true then (if X = 0 then 0 else if n < 0 then 0 else if 4096 < n then 3 else fitC (X * 2 ^ n.toNat)) else 1
end Go.Proofs.Ythgpacajeaphhaa

namespace Go.Proofs.Ythgpacajeaphhaa
open Go.RowKit
set_option linter.unusedVariables false
set_option linter.unusedSimpArgs false

set_option maxHeartbeats 1000000 in
set_option maxRecDepth 100000 in
theorem sh_impl_args (p : Bool) (v : Value) (xs : List Int) (n : Int) (w : World) (hx : Rd w v xs) (hok : okB p xs = false) :
    Calls Try.prog 22 #[.agg #[.bool p, v], .int .i64 n] w fun e w' => ∃ a c, e = .returned (.tuple #[.agg #[.bool false, .slice a (([] : List Int)).length c], .int .i64 1]) ∧ Own w' w.heap.size (.slice a (([] : List Int)).length c) (([] : List Int)) ∧ Below w.heap.size w w' := by
  have hokA := bigOk_any p v xs ((w.alloc (Obj.cells #[.bool p, v] 26)).alloc (Obj.cells #[.bool false, .slice none 0 0] 26)) ((hx.alloc _).alloc _)
  rw [hok] at hokA
  have bA := (Box.new w (.bool p) v 26).alloc (Obj.cells #[.bool false, .slice none 0 0] 26)
  have bR := Box.new (w.alloc (Obj.cells #[.bool p, v] 26)) (.bool false) (.slice none 0 0) 26
  have fR := Unf.new (w.alloc (Obj.cells #[.bool p, v] 26)) #[.bool false, .slice none 0 0] 26
  have hW := ((Below.refl w.heap.size w).alloc (Nat.le_refl _) (Obj.cells #[.bool p, v] 26)).alloc (by simp) (Obj.cells #[.bool false, .slice none 0 0] 26)
  simp only [World.size_alloc] at bR fR
  have hx0 := hx
  obtain ⟨a, cap, rfl, hl, hz, hn0, hc⟩ := hx
  clear hc hn0
  go_enter Try.func22, Try.ntmps22
  go_wp2_with fail
  refine hokA.mono ?_
  rintro e w1 ⟨rfl, hB⟩
  clear hokA
  replace bA := bA.keep hB
  replace bR := bR.keep hB
  replace fR := fR.keep hB
  replace hW := hW.trans (hB.mono hW.size)
  clear hB
  obtain ⟨-, k0, k1⟩ := id bA
  obtain ⟨hzr, r0, r1⟩ := id bR
  obtain ⟨-, hfr⟩ := id fR
  go_wp2
  refine bodyPost_ret (v := .tuple #[.agg #[.bool false, .slice none 0 0], .int .i64 1]) (by simp [results, Try.results22, go_sem, r0, r1, hzr]) rfl ⟨none, 0, rfl, Own.nil _ _, ?_⟩
  exact (hW.setCell (by show w.heap.size ≤ w.heap.size + 1; omega) _).setCell (by show w.heap.size ≤ w.heap.size + 1; omega) _

set_option maxHeartbeats 1000000 in
set_option maxRecDepth 100000 in
theorem sh_impl_zero (p : Bool) (v : Value) (xs : List Int) (n : Int) (w : World) (hx : Rd w v xs) (hok : okB p xs = true) (h0 : xs.length = 0) :
    Calls Try.prog 22 #[.agg #[.bool p, v], .int .i64 n] w fun e w' => ∃ a c, e = .returned (.tuple #[.agg #[.bool false, .slice a (([] : List Int)).length c], .int .i64 0]) ∧ Own w' w.heap.size (.slice a (([] : List Int)).length c) (([] : List Int)) ∧ Below w.heap.size w w' := by
  obtain rfl : xs = [] := List.eq_nil_of_length_eq_zero h0
  clear h0
  have hokA := bigOk_any p v ([] : List Int) ((w.alloc (Obj.cells #[.bool p, v] 26)).alloc (Obj.cells #[.bool false, .slice none 0 0] 26)) ((hx.alloc _).alloc _)
  rw [hok] at hokA
  have bA := (Box.new w (.bool p) v 26).alloc (Obj.cells #[.bool false, .slice none 0 0] 26)
  have bR := Box.new (w.alloc (Obj.cells #[.bool p, v] 26)) (.bool false) (.slice none 0 0) 26
  have fR := Unf.new (w.alloc (Obj.cells #[.bool p, v] 26)) #[.bool false, .slice none 0 0] 26
  have hW := ((Below.refl w.heap.size w).alloc (Nat.le_refl _) (Obj.cells #[.bool p, v] 26)).alloc (by simp) (Obj.cells #[.bool false, .slice none 0 0] 26)
  simp only [World.size_alloc] at bR fR
  have hx0 := hx
  obtain ⟨a, cap, rfl, hl, hz, hn0, hc⟩ := hx
  clear hc hn0
  go_enter Try.func22, Try.ntmps22
  go_wp2_with fail
  refine hokA.mono ?_
  rintro e w1 ⟨rfl, hB⟩
  clear hokA
  replace bA := bA.keep hB
  replace bR := bR.keep hB
  replace fR := fR.keep hB
  replace hW := hW.trans (hB.mono hW.size)
  clear hB
  obtain ⟨-, k0, k1⟩ := id bA
  obtain ⟨hzr, r0, r1⟩ := id bR
  obtain ⟨-, hfr⟩ := id fR
  go_wp2
  refine bodyPost_ret (v := .tuple #[.agg #[.bool false, .slice none 0 0], .int .i64 0]) (by simp [results, Try.results22, go_sem, r0, r1, hzr]) rfl ⟨none, 0, rfl, Own.nil _ _, ?_⟩
  exact (hW.setCell (by show w.heap.size ≤ w.heap.size + 1; omega) _).setCell (by show w.heap.size ≤ w.heap.size + 1; omega) _

set_option maxHeartbeats 1000000 in
set_option maxRecDepth 100000 in
theorem sh_impl_large (p : Bool) (v : Value) (xs : List Int) (n : Int) (w : World) (hx : Rd w v xs) (hok : okB p xs = true) (h0 : ¬ xs.length = 0) (hn : 4096 ≤ n) :
    Calls Try.prog 22 #[.agg #[.bool p, v], .int .i64 n] w fun e w' => ∃ a c, e = .returned (.tuple #[.agg #[.bool false, .slice a (([] : List Int)).length c], .int .i64 3]) ∧ Own w' w.heap.size (.slice a (([] : List Int)).length c) (([] : List Int)) ∧ Below w.heap.size w w' := by
  have hokA := bigOk_any p v xs ((w.alloc (Obj.cells #[.bool p, v] 26)).alloc (Obj.cells #[.bool false, .slice none 0 0] 26)) ((hx.alloc _).alloc _)
  rw [hok] at hokA
  have bA := (Box.new w (.bool p) v 26).alloc (Obj.cells #[.bool false, .slice none 0 0] 26)
  have bR := Box.new (w.alloc (Obj.cells #[.bool p, v] 26)) (.bool false) (.slice none 0 0) 26
  have fR := Unf.new (w.alloc (Obj.cells #[.bool p, v] 26)) #[.bool false, .slice none 0 0] 26
  have hW := ((Below.refl w.heap.size w).alloc (Nat.le_refl _) (Obj.cells #[.bool p, v] 26)).alloc (by simp) (Obj.cells #[.bool false, .slice none 0 0] 26)
  simp only [World.size_alloc] at bR fR
  have hx0 := hx
  obtain ⟨a, cap, rfl, hl, hz, hn0, hc⟩ := hx
  clear hc hn0
  have e0 : ((xs.length : Int) == 0) = false := beq_len0 h0
  go_enter Try.func22, Try.ntmps22
  go_wp2_with fail
  refine hokA.mono ?_
  rintro e w1 ⟨rfl, hB⟩
  clear hokA
  replace bA := bA.keep hB
  replace bR := bR.keep hB
  replace fR := fR.keep hB
  replace hW := hW.trans (hB.mono hW.size)
  clear hB
  obtain ⟨-, k0, k1⟩ := id bA
  obtain ⟨hzr, r0, r1⟩ := id bR
  obtain ⟨-, hfr⟩ := id fR
  go_wp2
  refine bodyPost_ret (v := .tuple #[.agg #[.bool false, .slice none 0 0], .int .i64 3]) (by simp [results, Try.results22, go_sem, r0, r1, hzr]) rfl ⟨none, 0, rfl, Own.nil _ _, ?_⟩
  exact (hW.setCell (by show w.heap.size ≤ w.heap.size + 1; omega) _).setCell (by show w.heap.size ≤ w.heap.size + 1; omega) _

set_option maxHeartbeats 1000000 in
set_option maxRecDepth 100000 in
theorem sh_impl_up (p : Bool) (v : Value) (xs : List Int) (n : Int) (w : World) (hx : Rd w v xs) (m : Nat) (hnm : n = m) (hok : okB p xs = true) (h0 : ¬ xs.length = 0) (hm : m < 4096) :
    Calls Try.prog 22 #[.agg #[.bool p, v], .int .i64 n] w fun e w' => ∃ a c, e = .returned (.tuple #[.agg #[.bool (fitS p (val xs * 2 ^ m)), .slice a (fitL (val xs * 2 ^ m)).length c], .int .i64 (fitC (val xs * 2 ^ m))]) ∧ Own w' w.heap.size (.slice a (fitL (val xs * 2 ^ m)).length c) (fitL (val xs * 2 ^ m)) ∧ Below w.heap.size w w' := by
  subst hnm
  have hokA := bigOk_any p v xs ((w.alloc (Obj.cells #[.bool p, v] 26)).alloc (Obj.cells #[.bool false, .slice none 0 0] 26)) ((hx.alloc _).alloc _)
  rw [hok] at hokA
  have bA := (Box.new w (.bool p) v 26).alloc (Obj.cells #[.bool false, .slice none 0 0] 26)
  have bR := Box.new (w.alloc (Obj.cells #[.bool p, v] 26)) (.bool false) (.slice none 0 0) 26
  have fR := Unf.new (w.alloc (Obj.cells #[.bool p, v] 26)) #[.bool false, .slice none 0 0] 26
  have hW := ((Below.refl w.heap.size w).alloc (Nat.le_refl _) (Obj.cells #[.bool p, v] 26)).alloc (by simp) (Obj.cells #[.bool false, .slice none 0 0] 26)
  simp only [World.size_alloc] at bR fR
  have hx0 := hx
  obtain ⟨a, cap, rfl, hl, hz, hn0, hc⟩ := hx
  clear hc hn0
  have hnm := okB_norm hok
  have e0 : ((xs.length : Int) == 0) = false := beq_len0 h0
  have hMu := fun W h => movedUp_any (.slice a xs.length cap) xs m W h (by omega) (by omega)
  have hSg := fun W (B n' c' : Nat) a' h hb => signed_any p B n' c' a' (lim (val xs * 2 ^ m)) (val xs * 2 ^ m) W h (val_lim _) hb
  generalize fitS p (val xs * 2 ^ m) = S at hSg ⊢
  generalize fitL (val xs * 2 ^ m) = L at hSg ⊢
  generalize fitC (val xs * 2 ^ m) = C at hSg ⊢
  generalize lim (val xs * 2 ^ m) = M at hMu hSg
  have hm1 : (m : Int) < 4096 := by omega
  go_enter Try.func22, Try.ntmps22
  go_wp2_with fail
  refine hokA.mono ?_
  rintro e w1 ⟨rfl, hB⟩
  clear hokA
  replace bA := bA.keep hB
  replace bR := bR.keep hB
  replace fR := fR.keep hB
  replace hW := hW.trans (hB.mono hW.size)
  clear hB
  obtain ⟨-, k0, k1⟩ := id bA
  obtain ⟨hzr, r0, r1⟩ := id bR
  obtain ⟨-, hfr⟩ := id fR
  go_wp2_with fail
  go_region_held3 (fun W => W.cell? ⟨w.heap.size, 0, none⟩ = some (.bool p)) (go_keep) (first | (go_at_call 52; refine (hMu _ (hx0.keep hW).drew).mono ?_; rintro e w5 ⟨a5, c5, rfl, hO5, hB5⟩; have bA5 := bA.drew.keep hB5; have bR5 := bR.drew.keep hB5; have fR5 := fR.drew.keep hB5; have hW5 := hW.drew.trans (hB5.mono hW.size); obtain ⟨-, x0, x1⟩ := id bA5) | (go_at_call 31; refine (hSg _ _ _ _ _ hO5 hB5.size).mono ?_; rintro e w6 ⟨a6, c6, rfl, hO6, hB6⟩; have bA6 := bA5.keep hB6; have bR6 := bR5.keep hB6; have fR6 := fR5.keep hB6; have hW6 := hW5.trans (hB6.mono hW5.size); obtain ⟨-, x2, x3⟩ := id bA6; obtain ⟨hz6, y2, y3⟩ := id bR6; obtain ⟨-, hf6⟩ := id fR6))
  all_goals go_wp2
  all_goals refine bodyPost_ret (v := .tuple #[.agg #[.bool S, .slice a6 L.length c6], .int .i64 C]) (by simp [results, Try.results22, go_sem, y2, y3, hz6]) rfl ⟨a6, c6, rfl, ?_, ?_⟩
  all_goals first | exact ((hO6.setBelow (by show w.heap.size + 1 < _; exact bR.1) _).setBelow (by show w.heap.size + 1 < _; exact bR.1) _).mono hW.size | exact (hW6.setCell (by show w.heap.size ≤ w.heap.size + 1; omega) _).setCell (by show w.heap.size ≤ w.heap.size + 1; omega) _

set_option maxHeartbeats 1000000 in
set_option maxRecDepth 100000 in
theorem sh_impl_downP (p : Bool) (v : Value) (xs : List Int) (n : Int) (w : World) (hx : Rd w v xs) (d : Nat) (hp : p = false) (hok : okB p xs = true) (h0 : ¬ xs.length = 0) (hn : n < 0) (hlo : -9223372036854775808 ≤ n) (hd : (d : Int) = min (-n) 4096) :
    Calls Try.prog 22 #[.agg #[.bool p, v], .int .i64 n] w fun e w' => ∃ a c, e = .returned (.tuple #[.agg #[.bool (nz p (flQ p (val xs) false (2 ^ d))), .slice a (lim (flQ p (val xs) false (2 ^ d))).length c], .int .i64 0]) ∧ Own w' w.heap.size (.slice a (lim (flQ p (val xs) false (2 ^ d))).length c) (lim (flQ p (val xs) false (2 ^ d))) ∧ Below w.heap.size w w' := by
  have hokA := bigOk_any p v xs ((w.alloc (Obj.cells #[.bool p, v] 26)).alloc (Obj.cells #[.bool false, .slice none 0 0] 26)) ((hx.alloc _).alloc _)
  rw [hok] at hokA
  have bA := (Box.new w (.bool p) v 26).alloc (Obj.cells #[.bool false, .slice none 0 0] 26)
  have bR := Box.new (w.alloc (Obj.cells #[.bool p, v] 26)) (.bool false) (.slice none 0 0) 26
  have fR := Unf.new (w.alloc (Obj.cells #[.bool p, v] 26)) #[.bool false, .slice none 0 0] 26
  have hW := ((Below.refl w.heap.size w).alloc (Nat.le_refl _) (Obj.cells #[.bool p, v] 26)).alloc (by simp) (Obj.cells #[.bool false, .slice none 0 0] 26)
  simp only [World.size_alloc] at bR fR
  have hx0 := hx
  obtain ⟨a, cap, rfl, hl, hz, hn0, hc⟩ := hx
  clear hc hn0
  have hnm := okB_norm hok
  have e0 : ((xs.length : Int) == 0) = false := beq_len0 h0
  have hX : 0 < val xs := norm_pos hz hnm.1 h0
  have hfl := flQ_len p hz hnm.2 (2 ^ d) hX (Nat.two_pow_pos d)
  have hft := fit_yes hfl p
  have hd1 : d ≤ 4096 := by omega
  have hmax : -max n (-4096) = (d : Int) := by omega
  clear hd
  subst hp
  rw [flQ_false] at hft hfl ⊢
  have hMd := fun W h => movedDown_any (.slice a xs.length cap) xs d W h (by omega) (by omega)
  have hSg := fun W (B n' c' : Nat) a' h hb => signed_any false B n' c' a' (lim (val xs / 2 ^ d)) (val xs / 2 ^ d) W h (val_lim _) hb
  rw [hft.1, hft.2.1, hft.2.2] at hSg
  generalize nz false (val xs / 2 ^ d) = S at hSg ⊢
  generalize lim (val xs / 2 ^ d) = L at hSg hMd ⊢
  clear hfl hft hX
  have hn4 : ¬ (4096 : Int) ≤ n := by omega
  go_enter Try.func22, Try.ntmps22
  go_wp2_with fail
  refine hokA.mono ?_
  rintro e w1 ⟨rfl, hB⟩
  clear hokA
  replace bA := bA.keep hB
  replace bR := bR.keep hB
  replace fR := fR.keep hB
  replace hW := hW.trans (hB.mono hW.size)
  clear hB
  obtain ⟨-, k0, k1⟩ := id bA
  obtain ⟨hzr, r0, r1⟩ := id bR
  obtain ⟨-, hfr⟩ := id fR
  go_wp2_with fail
  have hbz : w.heap.size + 1 < w1.heap.size := bR.1
  have hwz : w.heap.size ≤ w1.heap.size := hW.size
  refine (hMd _ (hx0.keep hW)).mono ?_
  rintro e w2 ⟨a2, c2, rfl, hOz, hB2⟩
  have hBz := hB2.size
  clear hMd
  replace bR := bR.keep hB2
  replace fR := fR.keep hB2
  replace hW := hW.trans (hB2.mono hW.size)
  go_wp2_with fail
  clear r0 r1 hzr hfr k0 k1
  refine (hSg _ _ _ _ _ hOz hBz).mono ?_
  rintro e w9 ⟨a9, c9, rfl, hO9, hB9⟩
  replace bR := bR.keep hB9
  replace fR := fR.keep hB9
  replace hW := hW.trans (hB9.mono hW.size)
  obtain ⟨hzr, r0, r1⟩ := id bR
  obtain ⟨-, hfr⟩ := id fR
  go_wp2
  refine bodyPost_ret (v := .tuple #[.agg #[.bool S, .slice a9 L.length c9], .int .i64 0]) (by simp [results, Try.results22, go_sem, r0, r1, hzr]) rfl ⟨a9, c9, rfl, ?_, ?_⟩
  · exact ((hO9.setBelow (by show w.heap.size + 1 < _; exact hbz) _).setBelow (by show w.heap.size + 1 < _; exact hbz) _).mono hwz
  · exact (hW.setCell (by show w.heap.size ≤ w.heap.size + 1; omega) _).setCell (by show w.heap.size ≤ w.heap.size + 1; omega) _

set_option maxHeartbeats 1000000 in
set_option maxRecDepth 100000 in
theorem sh_impl_downN (p : Bool) (v : Value) (xs : List Int) (n : Int) (w : World) (hx : Rd w v xs) (d : Nat) (hp : p = true) (hok : okB p xs = true) (h0 : ¬ xs.length = 0) (hn : n < 0) (hlo : -9223372036854775808 ≤ n) (hd : (d : Int) = min (-n) 4096) :
    Calls Try.prog 22 #[.agg #[.bool p, v], .int .i64 n] w fun e w' => ∃ a c, e = .returned (.tuple #[.agg #[.bool (nz p (flQ p (val xs) false (2 ^ d))), .slice a (lim (flQ p (val xs) false (2 ^ d))).length c], .int .i64 0]) ∧ Own w' w.heap.size (.slice a (lim (flQ p (val xs) false (2 ^ d))).length c) (lim (flQ p (val xs) false (2 ^ d))) ∧ Below w.heap.size w w' := by
  have hokA := bigOk_any p v xs ((w.alloc (Obj.cells #[.bool p, v] 26)).alloc (Obj.cells #[.bool false, .slice none 0 0] 26)) ((hx.alloc _).alloc _)
  rw [hok] at hokA
  have bA := (Box.new w (.bool p) v 26).alloc (Obj.cells #[.bool false, .slice none 0 0] 26)
  have bR := Box.new (w.alloc (Obj.cells #[.bool p, v] 26)) (.bool false) (.slice none 0 0) 26
  have fR := Unf.new (w.alloc (Obj.cells #[.bool p, v] 26)) #[.bool false, .slice none 0 0] 26
  have hW := ((Below.refl w.heap.size w).alloc (Nat.le_refl _) (Obj.cells #[.bool p, v] 26)).alloc (by simp) (Obj.cells #[.bool false, .slice none 0 0] 26)
  simp only [World.size_alloc] at bR fR
  have hx0 := hx
  obtain ⟨a, cap, rfl, hl, hz, hn0, hc⟩ := hx
  clear hc hn0
  have hnm := okB_norm hok
  have e0 : ((xs.length : Int) == 0) = false := beq_len0 h0
  have hX : 0 < val xs := norm_pos hz hnm.1 h0
  have hfl := flQ_len p hz hnm.2 (2 ^ d) hX (Nat.two_pow_pos d)
  have hft := fit_yes hfl p
  have hd1 : d ≤ 4096 := by omega
  have hmax : -max n (-4096) = (d : Int) := by omega
  clear hd
  subst hp
  have hce := ceil_flQ (val xs) (2 ^ d) hX (Nat.two_pow_pos d)
  have hMi := fun W u h1 h2 => minus_any (.slice a xs.length cap) u xs [1] W h1 h2 (by omega) (by simp; omega) (by simp [val]; omega)
  have e1 : val [1] = 1 := by simp [val]
  rw [e1] at hMi
  have hl1 : (lim (val xs - 1)).length ≤ 1048576 := Nat.le_trans (lim_length_le (Nat.lt_of_le_of_lt (Nat.sub_le _ _) (val_lt hz))) (by omega)
  have hMd := fun W u h => movedDown_any u (lim (val xs - 1)) d W h hl1 (by omega)
  rw [val_lim] at hMd
  have hl2 : (lim ((val xs - 1) / 2 ^ d)).length ≤ 1048576 := Nat.le_trans (lim_length_le (Nat.lt_of_le_of_lt (Nat.le_trans (Nat.div_le_self _ _) (Nat.sub_le _ _)) (val_lt hz))) (by omega)
  have hPl := fun W u u2 h1 h2 => plus_any u u2 (lim ((val xs - 1) / 2 ^ d)) [1] W h1 h2 hl2 (by simp)
  rw [val_lim, e1, hce] at hPl
  have hSg := fun W (B n' c' : Nat) a' h hb => signed_any true B n' c' a' (lim (flQ true (val xs) false (2 ^ d))) (flQ true (val xs) false (2 ^ d)) W h (val_lim _) hb
  rw [hft.1, hft.2.1, hft.2.2] at hSg
  generalize nz true (flQ true (val xs) false (2 ^ d)) = S at hSg ⊢
  generalize lim (flQ true (val xs) false (2 ^ d)) = L at hSg hPl ⊢
  generalize lim ((val xs - 1) / 2 ^ d) = M2 at hMd hPl
  generalize lim (val xs - 1) = M1 at hMi hMd
  clear hce hfl hft e1 hl1 hl2 hX
  have hn4 : ¬ (4096 : Int) ≤ n := by omega
  go_enter Try.func22, Try.ntmps22
  go_wp2_with fail
  refine hokA.mono ?_
  rintro e w1 ⟨rfl, hB⟩
  clear hokA
  replace bA := bA.keep hB
  replace bR := bR.keep hB
  replace fR := fR.keep hB
  replace hW := hW.trans (hB.mono hW.size)
  clear hB
  obtain ⟨-, k0, k1⟩ := id bA
  obtain ⟨hzr, r0, r1⟩ := id bR
  obtain ⟨-, hfr⟩ := id fR
  go_wp2_with fail
  refine (hMi _ _ ((hx0.keep hW).alloc _) (Rd.one w1 w1.heap.size rfl 49 (by decide) (by decide))).mono ?_
  rintro e w2 ⟨a2, c2, rfl, hO2, hB2'⟩
  have hB2 := below_of_alloc hB2'
  clear hMi hB2'
  replace bR := bR.keep hB2
  replace fR := fR.keep hB2
  replace hW := hW.trans (hB2.mono hW.size)
  go_wp2_with fail
  refine (hMd _ _ hO2.rd).mono ?_
  rintro e w3 ⟨a3, c3, rfl, hO3, hB3⟩
  clear hMd
  replace bR := bR.keep hB3
  replace fR := fR.keep hB3
  replace hW := hW.trans (hB3.mono hW.size)
  go_wp2_with fail
  refine (hPl _ _ _ (hO3.rd.alloc _) (Rd.one w3 w3.heap.size rfl 49 (by decide) (by decide))).mono ?_
  rintro e w4 ⟨a4, c4, rfl, hO4, hB4'⟩
  have hB4 := below_of_alloc hB4'
  have hbz : w.heap.size + 1 < w3.heap.size := bR.1
  have hwz : w.heap.size ≤ w3.heap.size := hW.size
  have hOz : Own w4 w3.heap.size _ _ := hO4.mono (by simp)
  have hBz := hB4.size
  clear hPl hB4'
  replace bR := bR.keep hB4
  replace fR := fR.keep hB4
  replace hW := hW.trans (hB4.mono hW.size)
  go_wp2_with fail
  clear r0 r1 hzr hfr k0 k1
  refine (hSg _ _ _ _ _ hOz hBz).mono ?_
  rintro e w9 ⟨a9, c9, rfl, hO9, hB9⟩
  replace bR := bR.keep hB9
  replace fR := fR.keep hB9
  replace hW := hW.trans (hB9.mono hW.size)
  obtain ⟨hzr, r0, r1⟩ := id bR
  obtain ⟨-, hfr⟩ := id fR
  go_wp2
  refine bodyPost_ret (v := .tuple #[.agg #[.bool S, .slice a9 L.length c9], .int .i64 0]) (by simp [results, Try.results22, go_sem, r0, r1, hzr]) rfl ⟨a9, c9, rfl, ?_, ?_⟩
  · exact ((hO9.setBelow (by show w.heap.size + 1 < _; exact hbz) _).setBelow (by show w.heap.size + 1 < _; exact hbz) _).mono hwz
  · exact (hW.setCell (by show w.heap.size ≤ w.heap.size + 1; omega) _).setCell (by show w.heap.size ≤ w.heap.size + 1; omega) _

end Go.Proofs.Ythgpacajeaphhaa

namespace Go.Proofs.Ythgpacajeaphhaa
open Go.RowKit
set_option linter.unusedVariables false
set_option linter.unusedSimpArgs false

theorem sh_neg {X : Nat} {n : Int} {p : Bool} (hX : ¬ X = 0) (hn : n < 0) : shS true p X n = nz p (flQ p X false (2 ^ (min (-n) 4096).toNat)) ∧ shL true p X n = lim (flQ p X false (2 ^ (min (-n) 4096).toNat)) ∧ shC true X n = 0 := by
  unfold shS shL shC; simp only [if_pos rfl, if_neg hX, if_pos hn, and_self, if_true]
theorem sh_up {X : Nat} {n : Int} {p : Bool} (hX : ¬ X = 0) (hn : ¬ n < 0) (h4 : ¬ 4096 < n) : shS true p X n = fitS p (X * 2 ^ n.toNat) ∧ shL true p X n = fitL (X * 2 ^ n.toNat) ∧ shC true X n = fitC (X * 2 ^ n.toNat) := by
  unfold shS shL shC; simp only [if_pos rfl, if_neg hX, if_neg hn, if_neg h4, and_self, if_true]
theorem sh_large {X : Nat} {n : Int} {p : Bool} (hX : ¬ X = 0) (hn : ¬ n < 0) (h4 : 4096 < n) : shS true p X n = false ∧ shL true p X n = [] ∧ shC true X n = 3 := by
  unfold shS shL shC; simp only [if_pos rfl, if_neg hX, if_neg hn, if_pos h4, and_self, if_true]
theorem sh_zero {n : Int} {p : Bool} : shS true p 0 n = false ∧ shL true p 0 n = [] ∧ shC true 0 n = 0 := by
  unfold shS shL shC; simp
theorem sh_args {X : Nat} {n : Int} {p : Bool} : shS false p X n = false ∧ shL false p X n = [] ∧ shC false X n = 1 := by
  unfold shS shL shC; simp

theorem bigShift_any (p : Bool) (v : Value) (xs : List Int) (n : Int) (w : World) (hx : Rd w v xs) (h0 : -9223372036854775808 ≤ n) (h1 : n ≤ 9223372036854775807) :
    Calls Try.prog 22 #[.agg #[.bool p, v], .int .i64 n] w fun e w' => ∃ a c, e = .returned (.tuple #[.agg #[.bool (shS (okB p xs) p (val xs) n), .slice a (shL (okB p xs) p (val xs) n).length c], .int .i64 (shC (okB p xs) (val xs) n)]) ∧ Own w' w.heap.size (.slice a (shL (okB p xs) p (val xs) n).length c) (shL (okB p xs) p (val xs) n) ∧ Below w.heap.size w w' := by
  have hz := hx
  obtain ⟨_, _, _, _, hz, _, _⟩ := hz
  cases hok : okB p xs with
  | false => obtain ⟨e1, e2, e3⟩ := sh_args (X := val xs) (n := n) (p := p); rw [e1, e2, e3]; exact sh_impl_args p v xs n w hx hok
  | true =>
    by_cases hl : xs.length = 0
    · have e : val xs = 0 := by rw [List.eq_nil_of_length_eq_zero hl]; rfl
      obtain ⟨e1, e2, e3⟩ := sh_zero (n := n) (p := p); rw [e, e1, e2, e3]; exact sh_impl_zero p v xs n w hx hok hl
    · have hX : 0 < val xs := norm_pos hz (okB_norm hok).1 hl
      have hX' : ¬ val xs = 0 := by omega
      by_cases hn : n < 0
      · obtain ⟨e1, e2, e3⟩ := sh_neg (p := p) hX' hn
        rw [e1, e2, e3]
        cases p with
        | false => exact sh_impl_downP false v xs n w hx (min (-n) 4096).toNat rfl hok hl hn h0 (by omega)
        | true => exact sh_impl_downN true v xs n w hx (min (-n) 4096).toNat rfl hok hl hn h0 (by omega)
      · by_cases h4 : 4096 ≤ n
        · have h := sh_impl_large p v xs n w hx hok hl h4
          by_cases h5 : 4096 < n
          · obtain ⟨e1, e2, e3⟩ := sh_large (p := p) hX' hn h5
            rw [e1, e2, e3]; exact h
          · obtain ⟨e1, e2, e3⟩ := sh_up (p := p) hX' hn h5
            have hlg := up_large (val xs) 128 n.toNat hX (by omega)
            obtain ⟨f1, f2, f3⟩ := fit_no (n := val xs * 2 ^ n.toNat) (by omega) p
            rw [e1, e2, e3, f1, f2, f3]; exact h
        · obtain ⟨e1, e2, e3⟩ := sh_up (p := p) hX' hn (by omega)
          rw [e1, e2, e3]
          exact sh_impl_up p v xs n w hx n.toNat (by omega) hok hl (by omega)
end Go.Proofs.Ythgpacajeaphhaa
