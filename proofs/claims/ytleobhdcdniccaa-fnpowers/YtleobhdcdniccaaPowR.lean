import Derived.Test.YtleobhdcdniccaaPowN
import Derived.Deep.RegionHeld3
namespace Go.Proofs.Ytleobhdcdniccaa
open Go.RowKit
set_option linter.unusedVariables false
set_option linter.unusedSimpArgs false

set_option maxHeartbeats 1000000 in
set_option maxRecDepth 100000 in
theorem pw_impl_args (p : Bool) (v : Value) (xs : List Int) (n : Int) (w : World) (hx : Rd w v xs) (hok : okB p xs = false) :
    Calls Try.prog 25 #[.agg #[.bool p, v], .int .i64 n] w fun e w' => ∃ a c, e = .returned (.tuple #[.agg #[.bool false, .slice a (([] : List Int)).length c], .int .i64 1]) ∧ Own w' w.heap.size (.slice a (([] : List Int)).length c) (([] : List Int)) ∧ Below w.heap.size w w' := by
  have hokA := bigOk_any p v xs ((w.alloc (Obj.cells #[.bool p, v] 26)).alloc (Obj.cells #[.bool false, .slice none 0 0] 26)) ((hx.alloc _).alloc _)
  rw [hok] at hokA
  have bA := (Box.new w (.bool p) v 26).alloc (Obj.cells #[.bool false, .slice none 0 0] 26)
  have bR := Box.new (w.alloc (Obj.cells #[.bool p, v] 26)) (.bool false) (.slice none 0 0) 26
  have fR := Unf.new (w.alloc (Obj.cells #[.bool p, v] 26)) #[.bool false, .slice none 0 0] 26
  have hW := ((Below.refl w.heap.size w).alloc (Nat.le_refl _) (Obj.cells #[.bool p, v] 26)).alloc (by simp) (Obj.cells #[.bool false, .slice none 0 0] 26)
  simp only [World.size_alloc] at bR fR
  have hx0 := hx
  obtain ⟨a, cap, rfl, hl, hz, hn0, hc⟩ := hx
  clear hc hn0
  go_enter Try.func25, Try.ntmps25
  go_wp2_with fail
  refine hokA.mono ?_
  rintro e w1 ⟨rfl, hB⟩
  clear hokA
  replace bA := bA.keep hB
  replace bR := bR.keep hB
  replace fR := fR.keep hB
  replace hW := hW.trans (hB.mono hW.size)
  clear hB
  obtain ⟨-, k0, k1⟩ := id bA
  obtain ⟨hzr, r0, r1⟩ := id bR
  obtain ⟨-, hfr⟩ := id fR
  go_wp2
  refine bodyPost_ret (v := .tuple #[.agg #[.bool false, .slice none 0 0], .int .i64 1]) (by simp [results, Try.results25, go_sem, r0, r1, hzr]) rfl ⟨none, 0, rfl, Own.nil _ _, ?_⟩
  exact (hW.setCell (by show w.heap.size ≤ w.heap.size + 1; omega) _).setCell (by show w.heap.size ≤ w.heap.size + 1; omega) _

set_option maxHeartbeats 1000000 in
set_option maxRecDepth 100000 in
theorem pw_impl_neg (p : Bool) (v : Value) (xs : List Int) (n : Int) (w : World) (hx : Rd w v xs) (hok : okB p xs = true) (hn : n < 0) :
    Calls Try.prog 25 #[.agg #[.bool p, v], .int .i64 n] w fun e w' => ∃ a c, e = .returned (.tuple #[.agg #[.bool false, .slice a (([] : List Int)).length c], .int .i64 4]) ∧ Own w' w.heap.size (.slice a (([] : List Int)).length c) (([] : List Int)) ∧ Below w.heap.size w w' := by
  have hokA := bigOk_any p v xs ((w.alloc (Obj.cells #[.bool p, v] 26)).alloc (Obj.cells #[.bool false, .slice none 0 0] 26)) ((hx.alloc _).alloc _)
  rw [hok] at hokA
  have bA := (Box.new w (.bool p) v 26).alloc (Obj.cells #[.bool false, .slice none 0 0] 26)
  have bR := Box.new (w.alloc (Obj.cells #[.bool p, v] 26)) (.bool false) (.slice none 0 0) 26
  have fR := Unf.new (w.alloc (Obj.cells #[.bool p, v] 26)) #[.bool false, .slice none 0 0] 26
  have hW := ((Below.refl w.heap.size w).alloc (Nat.le_refl _) (Obj.cells #[.bool p, v] 26)).alloc (by simp) (Obj.cells #[.bool false, .slice none 0 0] 26)
  simp only [World.size_alloc] at bR fR
  have hx0 := hx
  obtain ⟨a, cap, rfl, hl, hz, hn0, hc⟩ := hx
  clear hc hn0
  go_enter Try.func25, Try.ntmps25
  go_wp2_with fail
  refine hokA.mono ?_
  rintro e w1 ⟨rfl, hB⟩
  clear hokA
  replace bA := bA.keep hB
  replace bR := bR.keep hB
  replace fR := fR.keep hB
  replace hW := hW.trans (hB.mono hW.size)
  clear hB
  obtain ⟨-, k0, k1⟩ := id bA
  obtain ⟨hzr, r0, r1⟩ := id bR
  obtain ⟨-, hfr⟩ := id fR
  go_wp2
  refine bodyPost_ret (v := .tuple #[.agg #[.bool false, .slice none 0 0], .int .i64 4]) (by simp [results, Try.results25, go_sem, r0, r1, hzr]) rfl ⟨none, 0, rfl, Own.nil _ _, ?_⟩
  exact (hW.setCell (by show w.heap.size ≤ w.heap.size + 1; omega) _).setCell (by show w.heap.size ≤ w.heap.size + 1; omega) _

set_option maxHeartbeats 1000000 in
set_option maxRecDepth 100000 in
theorem pw_spec_args (p : Bool) (v : Value) (xs : List Int) (n : Int) (w : World) (hx : Rd w v xs) (hok : okB p xs = false) :
    Calls Try.prog 26 #[.agg #[.bool p, v], .int .i64 n] w fun e w' => ∃ a c, e = .returned (.tuple #[.agg #[.bool false, .slice a (([] : List Int)).length c], .int .i64 1]) ∧ Own w' w.heap.size (.slice a (([] : List Int)).length c) (([] : List Int)) ∧ Below w.heap.size w w' := by
  have hokA := bigOkS_any p v xs ((w.alloc (Obj.cells #[.bool p, v] 26)).alloc (Obj.cells #[.bool false, .slice none 0 0] 26)) ((hx.alloc _).alloc _)
  rw [hok] at hokA
  have bA := (Box.new w (.bool p) v 26).alloc (Obj.cells #[.bool false, .slice none 0 0] 26)
  have bR := Box.new (w.alloc (Obj.cells #[.bool p, v] 26)) (.bool false) (.slice none 0 0) 26
  have fR := Unf.new (w.alloc (Obj.cells #[.bool p, v] 26)) #[.bool false, .slice none 0 0] 26
  have hW := ((Below.refl w.heap.size w).alloc (Nat.le_refl _) (Obj.cells #[.bool p, v] 26)).alloc (by simp) (Obj.cells #[.bool false, .slice none 0 0] 26)
  simp only [World.size_alloc] at bR fR
  have hx0 := hx
  obtain ⟨a, cap, rfl, hl, hz, hn0, hc⟩ := hx
  clear hc hn0
  go_enter Try.func26, Try.ntmps26
  go_wp2_with fail
  refine hokA.mono ?_
  rintro e w1 ⟨rfl, hB⟩
  clear hokA
  replace bA := bA.keep hB
  replace bR := bR.keep hB
  replace fR := fR.keep hB
  replace hW := hW.trans (hB.mono hW.size)
  clear hB
  obtain ⟨-, k0, k1⟩ := id bA
  obtain ⟨hzr, r0, r1⟩ := id bR
  obtain ⟨-, hfr⟩ := id fR
  go_wp2
  refine bodyPost_ret (v := .tuple #[.agg #[.bool false, .slice none 0 0], .int .i64 1]) (by simp [results, Try.results26, go_sem, r0, r1, hzr]) rfl ⟨none, 0, rfl, Own.nil _ _, ?_⟩
  exact (hW.setCell (by show w.heap.size ≤ w.heap.size + 1; omega) _).setCell (by show w.heap.size ≤ w.heap.size + 1; omega) _

set_option maxHeartbeats 1000000 in
set_option maxRecDepth 100000 in
theorem pw_spec_neg (p : Bool) (v : Value) (xs : List Int) (n : Int) (w : World) (hx : Rd w v xs) (hok : okB p xs = true) (hn : n < 0) :
    Calls Try.prog 26 #[.agg #[.bool p, v], .int .i64 n] w fun e w' => ∃ a c, e = .returned (.tuple #[.agg #[.bool false, .slice a (([] : List Int)).length c], .int .i64 4]) ∧ Own w' w.heap.size (.slice a (([] : List Int)).length c) (([] : List Int)) ∧ Below w.heap.size w w' := by
  have hokA := bigOkS_any p v xs ((w.alloc (Obj.cells #[.bool p, v] 26)).alloc (Obj.cells #[.bool false, .slice none 0 0] 26)) ((hx.alloc _).alloc _)
  rw [hok] at hokA
  have bA := (Box.new w (.bool p) v 26).alloc (Obj.cells #[.bool false, .slice none 0 0] 26)
  have bR := Box.new (w.alloc (Obj.cells #[.bool p, v] 26)) (.bool false) (.slice none 0 0) 26
  have fR := Unf.new (w.alloc (Obj.cells #[.bool p, v] 26)) #[.bool false, .slice none 0 0] 26
  have hW := ((Below.refl w.heap.size w).alloc (Nat.le_refl _) (Obj.cells #[.bool p, v] 26)).alloc (by simp) (Obj.cells #[.bool false, .slice none 0 0] 26)
  simp only [World.size_alloc] at bR fR
  have hx0 := hx
  obtain ⟨a, cap, rfl, hl, hz, hn0, hc⟩ := hx
  clear hc hn0
  go_enter Try.func26, Try.ntmps26
  go_wp2_with fail
  refine hokA.mono ?_
  rintro e w1 ⟨rfl, hB⟩
  clear hokA
  replace bA := bA.keep hB
  replace bR := bR.keep hB
  replace fR := fR.keep hB
  replace hW := hW.trans (hB.mono hW.size)
  clear hB
  obtain ⟨-, k0, k1⟩ := id bA
  obtain ⟨hzr, r0, r1⟩ := id bR
  obtain ⟨-, hfr⟩ := id fR
  go_wp2
  refine bodyPost_ret (v := .tuple #[.agg #[.bool false, .slice none 0 0], .int .i64 4]) (by simp [results, Try.results26, go_sem, r0, r1, hzr]) rfl ⟨none, 0, rfl, Own.nil _ _, ?_⟩
  exact (hW.setCell (by show w.heap.size ≤ w.heap.size + 1; omega) _).setCell (by show w.heap.size ≤ w.heap.size + 1; omega) _

set_option maxHeartbeats 1000000 in
set_option maxRecDepth 100000 in
theorem pw_spec_one (p : Bool) (v : Value) (xs : List Int) (n : Int) (w : World) (hx : Rd w v xs) (hok : okB p xs = true) :
    Calls Try.prog 26 #[.agg #[.bool p, v], .int .i64 0] w fun e w' => ∃ a c, e = .returned (.tuple #[.agg #[.bool false, .slice a (lim 1).length c], .int .i64 0]) ∧ Own w' w.heap.size (.slice a (lim 1).length c) (lim 1) ∧ Below w.heap.size w w' := by
  have hokA := bigOkS_any p v xs ((w.alloc (Obj.cells #[.bool p, v] 26)).alloc (Obj.cells #[.bool false, .slice none 0 0] 26)) ((hx.alloc _).alloc _)
  rw [hok] at hokA
  have bA := (Box.new w (.bool p) v 26).alloc (Obj.cells #[.bool false, .slice none 0 0] 26)
  have bR := Box.new (w.alloc (Obj.cells #[.bool p, v] 26)) (.bool false) (.slice none 0 0) 26
  have fR := Unf.new (w.alloc (Obj.cells #[.bool p, v] 26)) #[.bool false, .slice none 0 0] 26
  have hW := ((Below.refl w.heap.size w).alloc (Nat.le_refl _) (Obj.cells #[.bool p, v] 26)).alloc (by simp) (Obj.cells #[.bool false, .slice none 0 0] 26)
  simp only [World.size_alloc] at bR fR
  have hx0 := hx
  obtain ⟨a, cap, rfl, hl, hz, hn0, hc⟩ := hx
  clear hc hn0
  have h1W := fun W => bigOfS_any 1 W (by omega) (by omega)
  rw [show decide ((1 : Int) < 0) = false from rfl, show (1 : Int).natAbs = 1 from rfl] at h1W
  generalize lim 1 = L at h1W ⊢
  go_enter Try.func26, Try.ntmps26
  go_wp2_with fail
  refine hokA.mono ?_
  rintro e w1 ⟨rfl, hB⟩
  clear hokA
  replace bA := bA.keep hB
  replace bR := bR.keep hB
  replace fR := fR.keep hB
  replace hW := hW.trans (hB.mono hW.size)
  clear hB
  obtain ⟨-, k0, k1⟩ := id bA
  obtain ⟨hzr, r0, r1⟩ := id bR
  obtain ⟨-, hfr⟩ := id fR
  go_wp2_with fail
  have hbz : w.heap.size + 1 < w1.heap.size := bR.1
  have hwz : w.heap.size ≤ w1.heap.size := hW.size
  refine (h1W _).mono ?_
  rintro e w9 ⟨a9, c9, rfl, hO9, hB9⟩
  clear h1W k0 k1 r0 r1 hzr hfr
  replace bR := bR.keep hB9
  replace fR := fR.keep hB9
  replace hW := hW.trans (hB9.mono hW.size)
  obtain ⟨hzr, r0, r1⟩ := id bR
  obtain ⟨-, hfr⟩ := id fR
  go_wp2
  refine bodyPost_ret (v := .tuple #[.agg #[.bool false, .slice a9 L.length c9], .int .i64 0]) (by simp [results, Try.results26, go_sem, r0, r1, hzr]) rfl ⟨a9, c9, rfl, ?_, ?_⟩
  · exact ((hO9.setBelow (by show w.heap.size + 1 < _; exact hbz) _).setBelow (by show w.heap.size + 1 < _; exact hbz) _).mono hwz
  · exact (hW.setCell (by show w.heap.size ≤ w.heap.size + 1; omega) _).setCell (by show w.heap.size ≤ w.heap.size + 1; omega) _

set_option maxHeartbeats 1000000 in
set_option maxRecDepth 100000 in
theorem pw_spec_smallF (p : Bool) (v : Value) (xs : List Int) (n : Int) (w : World) (hx : Rd w v xs) (m : Nat) (hnm : n = m) (hm : 1 ≤ m) (hm2 : (m : Int) ≤ 9223372036854775807) (hp : p = false) (hok : okB p xs = true) (hb : bitsN xs < 2) :
    Calls Try.prog 26 #[.agg #[.bool p, v], .int .i64 n] w fun e w' => ∃ a c, e = .returned (.tuple #[.agg #[.bool (nz (p && decide ((m : Int) % 2 = 1)) (val xs)), .slice a (lim (val xs)).length c], .int .i64 0]) ∧ Own w' w.heap.size (.slice a (lim (val xs)).length c) (lim (val xs)) ∧ Below w.heap.size w w' := by
  subst hnm
  have hokA := bigOkS_any p v xs ((w.alloc (Obj.cells #[.bool p, v] 26)).alloc (Obj.cells #[.bool false, .slice none 0 0] 26)) ((hx.alloc _).alloc _)
  rw [hok] at hokA
  have bA := (Box.new w (.bool p) v 26).alloc (Obj.cells #[.bool false, .slice none 0 0] 26)
  have bR := Box.new (w.alloc (Obj.cells #[.bool p, v] 26)) (.bool false) (.slice none 0 0) 26
  have fR := Unf.new (w.alloc (Obj.cells #[.bool p, v] 26)) #[.bool false, .slice none 0 0] 26
  have hW := ((Below.refl w.heap.size w).alloc (Nat.le_refl _) (Obj.cells #[.bool p, v] 26)).alloc (by simp) (Obj.cells #[.bool false, .slice none 0 0] 26)
  simp only [World.size_alloc] at bR fR
  have hx0 := hx
  obtain ⟨a, cap, rfl, hl, hz, hn0, hc⟩ := hx
  clear hc hn0
  subst hp
  have hbl := fun W h => bitsMag_any (.slice a xs.length cap) xs W h
  generalize bitsN xs = bz at hbl hb
  have hG := fun W h => l1Big_any (false && decide ((m : Int) % 2 = 1)) (.slice a xs.length cap) xs W h
  generalize nz (false && decide ((m : Int) % 2 = 1)) (val xs) = S at hG ⊢
  generalize lim (val xs) = L at hG ⊢
  have hm0 : ((m : Int) == 0) = false := beq_len0 (by omega)
  rw [Bool.false_and] at hG
  go_enter Try.func26, Try.ntmps26
  go_wp2_with fail
  refine hokA.mono ?_
  rintro e w1 ⟨rfl, hB⟩
  clear hokA
  replace bA := bA.keep hB
  replace bR := bR.keep hB
  replace fR := fR.keep hB
  replace hW := hW.trans (hB.mono hW.size)
  clear hB
  obtain ⟨-, k0, k1⟩ := id bA
  obtain ⟨hzr, r0, r1⟩ := id bR
  obtain ⟨-, hfr⟩ := id fR
  go_wp2_with fail
  refine (hbl _ (hx0.keep hW)).mono ?_
  rintro e w2 ⟨rfl, rfl⟩
  clear hbl
  go_wp2_with fail
  have hbz : w.heap.size + 1 < w2.heap.size := bR.1
  have hwz : w.heap.size ≤ w2.heap.size := hW.size
  refine (hG _ (hx0.keep hW)).mono ?_
  rintro e w9 ⟨a9, c9, rfl, hO9, hB9⟩
  clear hG k0 k1 r0 r1 hzr hfr
  replace bR := bR.keep hB9
  replace fR := fR.keep hB9
  replace hW := hW.trans (hB9.mono hW.size)
  obtain ⟨hzr, r0, r1⟩ := id bR
  obtain ⟨-, hfr⟩ := id fR
  go_wp2
  refine bodyPost_ret (v := .tuple #[.agg #[.bool S, .slice a9 L.length c9], .int .i64 0]) (by simp [results, Try.results26, go_sem, r0, r1, hzr]) rfl ⟨a9, c9, rfl, ?_, ?_⟩
  · exact ((hO9.setBelow (by show w.heap.size + 1 < _; exact hbz) _).setBelow (by show w.heap.size + 1 < _; exact hbz) _).mono hwz
  · exact (hW.setCell (by show w.heap.size ≤ w.heap.size + 1; omega) _).setCell (by show w.heap.size ≤ w.heap.size + 1; omega) _

set_option maxHeartbeats 1000000 in
set_option maxRecDepth 100000 in
theorem pw_spec_smallT (p : Bool) (v : Value) (xs : List Int) (n : Int) (w : World) (hx : Rd w v xs) (m : Nat) (hnm : n = m) (hm : 1 ≤ m) (hm2 : (m : Int) ≤ 9223372036854775807) (hp : p = true) (hok : okB p xs = true) (hb : bitsN xs < 2) :
    Calls Try.prog 26 #[.agg #[.bool p, v], .int .i64 n] w fun e w' => ∃ a c, e = .returned (.tuple #[.agg #[.bool (nz (p && decide ((m : Int) % 2 = 1)) (val xs)), .slice a (lim (val xs)).length c], .int .i64 0]) ∧ Own w' w.heap.size (.slice a (lim (val xs)).length c) (lim (val xs)) ∧ Below w.heap.size w w' := by
  subst hnm
  have hokA := bigOkS_any p v xs ((w.alloc (Obj.cells #[.bool p, v] 26)).alloc (Obj.cells #[.bool false, .slice none 0 0] 26)) ((hx.alloc _).alloc _)
  rw [hok] at hokA
  have bA := (Box.new w (.bool p) v 26).alloc (Obj.cells #[.bool false, .slice none 0 0] 26)
  have bR := Box.new (w.alloc (Obj.cells #[.bool p, v] 26)) (.bool false) (.slice none 0 0) 26
  have fR := Unf.new (w.alloc (Obj.cells #[.bool p, v] 26)) #[.bool false, .slice none 0 0] 26
  have hW := ((Below.refl w.heap.size w).alloc (Nat.le_refl _) (Obj.cells #[.bool p, v] 26)).alloc (by simp) (Obj.cells #[.bool false, .slice none 0 0] 26)
  simp only [World.size_alloc] at bR fR
  have hx0 := hx
  obtain ⟨a, cap, rfl, hl, hz, hn0, hc⟩ := hx
  clear hc hn0
  subst hp
  have hbl := fun W h => bitsMag_any (.slice a xs.length cap) xs W h
  generalize bitsN xs = bz at hbl hb
  have hG := fun W h => l1Big_any (true && decide ((m : Int) % 2 = 1)) (.slice a xs.length cap) xs W h
  generalize nz (true && decide ((m : Int) % 2 = 1)) (val xs) = S at hG ⊢
  generalize lim (val xs) = L at hG ⊢
  have hm0 : ((m : Int) == 0) = false := beq_len0 (by omega)
  rw [Bool.true_and] at hG
  have hodd : ((m : Int) % 2 == 1) = decide ((m : Int) % 2 = 1) := by rcases Int.emod_two_eq m with h | h <;> rw [h] <;> rfl
  generalize decide ((m : Int) % 2 = 1) = od at hG hodd
  go_enter Try.func26, Try.ntmps26
  go_wp2_with fail
  refine hokA.mono ?_
  rintro e w1 ⟨rfl, hB⟩
  clear hokA
  replace bA := bA.keep hB
  replace bR := bR.keep hB
  replace fR := fR.keep hB
  replace hW := hW.trans (hB.mono hW.size)
  clear hB
  obtain ⟨-, k0, k1⟩ := id bA
  obtain ⟨hzr, r0, r1⟩ := id bR
  obtain ⟨-, hfr⟩ := id fR
  go_wp2_with fail
  refine (hbl _ (hx0.keep hW)).mono ?_
  rintro e w2 ⟨rfl, rfl⟩
  clear hbl
  go_wp2_with fail
  have hbz : w.heap.size + 1 < w2.heap.size := bR.1
  have hwz : w.heap.size ≤ w2.heap.size := hW.size
  refine (hG _ (hx0.keep hW)).mono ?_
  rintro e w9 ⟨a9, c9, rfl, hO9, hB9⟩
  clear hG k0 k1 r0 r1 hzr hfr
  replace bR := bR.keep hB9
  replace fR := fR.keep hB9
  replace hW := hW.trans (hB9.mono hW.size)
  obtain ⟨hzr, r0, r1⟩ := id bR
  obtain ⟨-, hfr⟩ := id fR
  go_wp2
  refine bodyPost_ret (v := .tuple #[.agg #[.bool S, .slice a9 L.length c9], .int .i64 0]) (by simp [results, Try.results26, go_sem, r0, r1, hzr]) rfl ⟨a9, c9, rfl, ?_, ?_⟩
  · exact ((hO9.setBelow (by show w.heap.size + 1 < _; exact hbz) _).setBelow (by show w.heap.size + 1 < _; exact hbz) _).mono hwz
  · exact (hW.setCell (by show w.heap.size ≤ w.heap.size + 1; omega) _).setCell (by show w.heap.size ≤ w.heap.size + 1; omega) _

end Go.Proofs.Ytleobhdcdniccaa
