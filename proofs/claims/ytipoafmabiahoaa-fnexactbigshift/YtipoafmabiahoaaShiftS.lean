import Derived.Test.YtipoafmabiahoaaShiftN
import Derived.Deep.RegionHeld3
namespace Go.Proofs.Ytipoafmabiahoaa
open Go.RowKit
set_option linter.unusedVariables false
set_option linter.unusedSimpArgs false

set_option maxHeartbeats 1000000 in
set_option maxRecDepth 100000 in
theorem sh_spec_args (p : Bool) (v : Value) (xs : List Int) (n : Int) (w : World) (hx : Rd w v xs) (hok : okB p xs = false) :
    Calls Try.prog 6 #[.agg #[.bool p, v], .int .i64 n] w fun e w' => ∃ a c, e = .returned (.tuple #[.agg #[.bool false, .slice a (([] : List Int)).length c], .int .i64 1]) ∧ Own w' w.heap.size (.slice a (([] : List Int)).length c) (([] : List Int)) ∧ Below w.heap.size w w' := by
  have hokA := bigOkS_any p v xs ((w.alloc (Obj.cells #[.bool p, v] 26)).alloc (Obj.cells #[.bool false, .slice none 0 0] 26)) ((hx.alloc _).alloc _)
  rw [hok] at hokA
  have bA := (Box.new w (.bool p) v 26).alloc (Obj.cells #[.bool false, .slice none 0 0] 26)
  have bR := Box.new (w.alloc (Obj.cells #[.bool p, v] 26)) (.bool false) (.slice none 0 0) 26
  have fR := Unf.new (w.alloc (Obj.cells #[.bool p, v] 26)) #[.bool false, .slice none 0 0] 26
  have hW := ((Below.refl w.heap.size w).alloc (Nat.le_refl _) (Obj.cells #[.bool p, v] 26)).alloc (by simp) (Obj.cells #[.bool false, .slice none 0 0] 26)
  simp only [World.size_alloc] at bR fR
  have hx0 := hx
  obtain ⟨a, cap, rfl, hl, hz, hn0, hc⟩ := hx
  clear hc hn0
  go_enter Try.func6, Try.ntmps6
  go_wp2_with fail
  refine hokA.mono ?_
  rintro e w1 ⟨rfl, hB⟩
  clear hokA
  replace bA := bA.keep hB
  replace bR := bR.keep hB
  replace fR := fR.keep hB
  replace hW := hW.trans (hB.mono hW.size)
  clear hB
  obtain ⟨-, k0, k1⟩ := id bA
  obtain ⟨hzr, r0, r1⟩ := id bR
  obtain ⟨-, hfr⟩ := id fR
  go_wp2
  refine bodyPost_ret (v := .tuple #[.agg #[.bool false, .slice none 0 0], .int .i64 1]) (by simp [results, Try.results6, go_sem, r0, r1, hzr]) rfl ⟨none, 0, rfl, Own.nil _ _, ?_⟩
  exact (hW.setCell (by show w.heap.size ≤ w.heap.size + 1; omega) _).setCell (by show w.heap.size ≤ w.heap.size + 1; omega) _

set_option maxHeartbeats 1000000 in
set_option maxRecDepth 100000 in
theorem sh_spec_zero (p : Bool) (v : Value) (xs : List Int) (n : Int) (w : World) (hx : Rd w v xs) (hok : okB p xs = true) (h0 : xs.length = 0) :
    Calls Try.prog 6 #[.agg #[.bool p, v], .int .i64 n] w fun e w' => ∃ a c, e = .returned (.tuple #[.agg #[.bool false, .slice a (([] : List Int)).length c], .int .i64 0]) ∧ Own w' w.heap.size (.slice a (([] : List Int)).length c) (([] : List Int)) ∧ Below w.heap.size w w' := by
  obtain rfl : xs = [] := List.eq_nil_of_length_eq_zero h0
  clear h0
  have hokA := bigOkS_any p v ([] : List Int) ((w.alloc (Obj.cells #[.bool p, v] 26)).alloc (Obj.cells #[.bool false, .slice none 0 0] 26)) ((hx.alloc _).alloc _)
  rw [hok] at hokA
  have bA := (Box.new w (.bool p) v 26).alloc (Obj.cells #[.bool false, .slice none 0 0] 26)
  have bR := Box.new (w.alloc (Obj.cells #[.bool p, v] 26)) (.bool false) (.slice none 0 0) 26
  have fR := Unf.new (w.alloc (Obj.cells #[.bool p, v] 26)) #[.bool false, .slice none 0 0] 26
  have hW := ((Below.refl w.heap.size w).alloc (Nat.le_refl _) (Obj.cells #[.bool p, v] 26)).alloc (by simp) (Obj.cells #[.bool false, .slice none 0 0] 26)
  simp only [World.size_alloc] at bR fR
  have hx0 := hx
  obtain ⟨a, cap, rfl, hl, hz, hn0, hc⟩ := hx
  clear hc hn0
  go_enter Try.func6, Try.ntmps6
  go_wp2_with fail
  refine hokA.mono ?_
  rintro e w1 ⟨rfl, hB⟩
  clear hokA
  replace bA := bA.keep hB
  replace bR := bR.keep hB
  replace fR := fR.keep hB
  replace hW := hW.trans (hB.mono hW.size)
  clear hB
  obtain ⟨-, k0, k1⟩ := id bA
  obtain ⟨hzr, r0, r1⟩ := id bR
  obtain ⟨-, hfr⟩ := id fR
  go_wp2
  refine bodyPost_ret (v := .tuple #[.agg #[.bool false, .slice none 0 0], .int .i64 0]) (by simp [results, Try.results6, go_sem, r0, r1, hzr]) rfl ⟨none, 0, rfl, Own.nil _ _, ?_⟩
  exact (hW.setCell (by show w.heap.size ≤ w.heap.size + 1; omega) _).setCell (by show w.heap.size ≤ w.heap.size + 1; omega) _

set_option maxHeartbeats 1000000 in
set_option maxRecDepth 100000 in
theorem sh_spec_large (p : Bool) (v : Value) (xs : List Int) (n : Int) (w : World) (hx : Rd w v xs) (hok : okB p xs = true) (h0 : ¬ xs.length = 0) (hn : 4096 < n) :
    Calls Try.prog 6 #[.agg #[.bool p, v], .int .i64 n] w fun e w' => ∃ a c, e = .returned (.tuple #[.agg #[.bool false, .slice a (([] : List Int)).length c], .int .i64 3]) ∧ Own w' w.heap.size (.slice a (([] : List Int)).length c) (([] : List Int)) ∧ Below w.heap.size w w' := by
  have hokA := bigOkS_any p v xs ((w.alloc (Obj.cells #[.bool p, v] 26)).alloc (Obj.cells #[.bool false, .slice none 0 0] 26)) ((hx.alloc _).alloc _)
  rw [hok] at hokA
  have bA := (Box.new w (.bool p) v 26).alloc (Obj.cells #[.bool false, .slice none 0 0] 26)
  have bR := Box.new (w.alloc (Obj.cells #[.bool p, v] 26)) (.bool false) (.slice none 0 0) 26
  have fR := Unf.new (w.alloc (Obj.cells #[.bool p, v] 26)) #[.bool false, .slice none 0 0] 26
  have hW := ((Below.refl w.heap.size w).alloc (Nat.le_refl _) (Obj.cells #[.bool p, v] 26)).alloc (by simp) (Obj.cells #[.bool false, .slice none 0 0] 26)
  simp only [World.size_alloc] at bR fR
  have hx0 := hx
  obtain ⟨a, cap, rfl, hl, hz, hn0, hc⟩ := hx
  clear hc hn0
  have e0 : ((xs.length : Int) == 0) = false := beq_len0 h0
  have hn0 : 0 ≤ n := by omega
  go_enter Try.func6, Try.ntmps6
  go_wp2_with fail
  refine hokA.mono ?_
  rintro e w1 ⟨rfl, hB⟩
  clear hokA
  replace bA := bA.keep hB
  replace bR := bR.keep hB
  replace fR := fR.keep hB
  replace hW := hW.trans (hB.mono hW.size)
  clear hB
  obtain ⟨-, k0, k1⟩ := id bA
  obtain ⟨hzr, r0, r1⟩ := id bR
  obtain ⟨-, hfr⟩ := id fR
  go_wp2
  refine bodyPost_ret (v := .tuple #[.agg #[.bool false, .slice none 0 0], .int .i64 3]) (by simp [results, Try.results6, go_sem, r0, r1, hzr]) rfl ⟨none, 0, rfl, Own.nil _ _, ?_⟩
  exact (hW.setCell (by show w.heap.size ≤ w.heap.size + 1; omega) _).setCell (by show w.heap.size ≤ w.heap.size + 1; omega) _

set_option maxHeartbeats 1000000 in
set_option maxRecDepth 100000 in
theorem sh_spec_up (p : Bool) (v : Value) (xs : List Int) (n : Int) (w : World) (hx : Rd w v xs) (m : Nat) (hnm : n = m) (hok : okB p xs = true) (h0 : ¬ xs.length = 0) (hm : m ≤ 4096) :
    Calls Try.prog 6 #[.agg #[.bool p, v], .int .i64 n] w fun e w' => ∃ a c, e = .returned (.tuple #[.agg #[.bool (fitS p (val xs * 2 ^ m)), .slice a (fitL (val xs * 2 ^ m)).length c], .int .i64 (fitC (val xs * 2 ^ m))]) ∧ Own w' w.heap.size (.slice a (fitL (val xs * 2 ^ m)).length c) (fitL (val xs * 2 ^ m)) ∧ Below w.heap.size w w' := by
  subst hnm
  have hokA := bigOkS_any p v xs ((w.alloc (Obj.cells #[.bool p, v] 26)).alloc (Obj.cells #[.bool false, .slice none 0 0] 26)) ((hx.alloc _).alloc _)
  rw [hok] at hokA
  have bA := (Box.new w (.bool p) v 26).alloc (Obj.cells #[.bool false, .slice none 0 0] 26)
  have bR := Box.new (w.alloc (Obj.cells #[.bool p, v] 26)) (.bool false) (.slice none 0 0) 26
  have fR := Unf.new (w.alloc (Obj.cells #[.bool p, v] 26)) #[.bool false, .slice none 0 0] 26
  have hW := ((Below.refl w.heap.size w).alloc (Nat.le_refl _) (Obj.cells #[.bool p, v] 26)).alloc (by simp) (Obj.cells #[.bool false, .slice none 0 0] 26)
  simp only [World.size_alloc] at bR fR
  have hx0 := hx
  obtain ⟨a, cap, rfl, hl, hz, hn0, hc⟩ := hx
  clear hc hn0
  have hnm := okB_norm hok
  have e0 : ((xs.length : Int) == 0) = false := beq_len0 h0
  have hSh := fun W h => shlMag_any (.slice a xs.length cap) xs m W h (by omega) (by omega)
  have hG := fun W v h => l1Big_lim p v (val xs * 2 ^ m) W h
  have hF := fun W (B n' c' : Nat) a' h hb => l1Fit_any p B n' c' a' (val xs * 2 ^ m) W h hb
  generalize fitS p (val xs * 2 ^ m) = S at hF ⊢
  generalize fitL (val xs * 2 ^ m) = L at hF ⊢
  generalize fitC (val xs * 2 ^ m) = C at hF ⊢
  generalize nz p (val xs * 2 ^ m) = sg at hF hG
  generalize lim (val xs * 2 ^ m) = M at hSh hG hF
  have hm1 : (m : Int) ≤ 4096 := by omega
  go_enter Try.func6, Try.ntmps6
  go_wp2_with fail
  refine hokA.mono ?_
  rintro e w1 ⟨rfl, hB⟩
  clear hokA
  replace bA := bA.keep hB
  replace bR := bR.keep hB
  replace fR := fR.keep hB
  replace hW := hW.trans (hB.mono hW.size)
  clear hB
  obtain ⟨-, k0, k1⟩ := id bA
  obtain ⟨hzr, r0, r1⟩ := id bR
  obtain ⟨-, hfr⟩ := id fR
  go_wp2_with fail
  go_region_held3 (fun W => W.cell? ⟨w.heap.size, 0, none⟩ = some (.bool p) ∧ W.cell? ⟨w.heap.size, 1, none⟩ = some (.slice a xs.length cap)) (go_keep) (first | (go_at_call 18; refine (hSh _ (hx0.keep hW).drew).mono ?_; rintro e w5 ⟨a5, c5, rfl, hO5, hB5⟩; have bA5 := bA.drew.keep hB5; have bR5 := bR.drew.keep hB5; have fR5 := fR.drew.keep hB5; have hW5 := hW.drew.trans (hB5.mono hW.size); obtain ⟨-, x0, x1⟩ := id bA5) | (go_at_call 17; refine (hG _ _ hO5.rd).mono ?_; rintro e w6 ⟨a6, c6, rfl, hO6, hB6⟩; have bA6 := bA5.keep hB6; have bR6 := bR5.keep hB6; have fR6 := fR5.keep hB6; have hW6 := hW5.trans (hB6.mono hW5.size); obtain ⟨-, x2, x3⟩ := id bA6) | (go_at_call 16; refine (hF _ _ _ _ _ hO6 hB6.size).mono ?_; rintro e w7 ⟨a7, c7, rfl, hO7, hB7⟩; have bA7 := bA6.keep hB7; have bR7 := bR6.keep hB7; have fR7 := fR6.keep hB7; have hW7 := hW6.trans (hB7.mono hW6.size); obtain ⟨-, x4, x5⟩ := id bA7; obtain ⟨hz7, y2, y3⟩ := id bR7; obtain ⟨-, hf7⟩ := id fR7))
  all_goals go_wp2
  all_goals refine bodyPost_ret (v := .tuple #[.agg #[.bool S, .slice a7 L.length c7], .int .i64 C]) (by simp [results, Try.results6, go_sem, y2, y3, hz7]) rfl ⟨a7, c7, rfl, ?_, ?_⟩
  all_goals first | exact ((hO7.setBelow (by show w.heap.size + 1 < _; exact bR5.1) _).setBelow (by show w.heap.size + 1 < _; exact bR5.1) _).mono hW5.size | exact (hW7.setCell (by show w.heap.size ≤ w.heap.size + 1; omega) _).setCell (by show w.heap.size ≤ w.heap.size + 1; omega) _

end Go.Proofs.Ytipoafmabiahoaa
