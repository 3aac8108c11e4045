import Derived.Test.YtkjbbmmidjeecaaDoorFM
import Derived.Test.YtkjbbmmidjeecaaDoorShl
import Derived.Laws.Externs
import Derived.Deep.RegionHeld3
namespace Go.Proofs.YtkjbbmmidjeecaaDoor
open Go.RowKit
set_option linter.unusedVariables false
set_option linter.unusedSimpArgs false

theorem frombits_run (n : Int) (w : World) : (callFunc 45 #[.int .u64 n]).run Tryd.prog w = .ok (.value (.float .f64 n.toNat)) w := by
  rw [run_callFunc_extern (e := Extern.MathFloatBits.float64frombits) Tryd.func45 (by kernel_rfl) (by kernel_rfl) (by kernel_rfl) (by kernel_rfl)]
  rfl

theorem isNanS_any (x : Int) (w : World) (h0 : 0 ≤ x) (h1 : x ≤ 18446744073709551615) :
    Calls Tryd.prog 27 #[.int .u64 x] w fun e w' => e = .returned (.bool (isN x.toNat)) ∧ w' = w := by
  have h := andNot_sign x h0 h1
  go_enter Tryd.func27, Tryd.ntmps27
  go_wp2
  go_ret
  refine ⟨congrArg (fun b => Ending.returned (Value.bool b)) (?_ : decide (9218868437227405312 < (frung x.toNat : Int)) = _), rfl⟩
  unfold isN
  rw [decide_eq_decide]
  omega

theorem isInfS_any (x : Int) (w : World) (h0 : 0 ≤ x) (h1 : x ≤ 18446744073709551615) :
    Calls Tryd.prog 28 #[.int .u64 x] w fun e w' => e = .returned (.bool (isI x.toNat)) ∧ w' = w := by
  have h := andNot_sign x h0 h1
  go_enter Tryd.func28, Tryd.ntmps28
  go_wp2
  go_ret
  refine ⟨congrArg (fun b => Ending.returned (Value.bool b)) (?_ : ((frung x.toNat : Int) == 9218868437227405312) = _), rfl⟩
  unfold isI
  by_cases h : frung x.toNat = 9218868437227405312
  · rw [h]; rfl
  · rw [decide_eq_false h, beq_eq_false_iff_ne]; omega

theorem negS_any (x : Int) (w : World) (h0 : 0 ≤ x) (h1 : x ≤ 18446744073709551615) :
    Calls Tryd.prog 33 #[.int .u64 x] w fun e w' => e = .returned (.bool (fneg x.toNat)) ∧ w' = w := by
  have h := and_sign x h0 h1
  cases hs : fneg x.toNat
  · rw [hs] at h
    rw [if_neg (by simp)] at h
    go_enter Tryd.func33, Tryd.ntmps33
    go_wp2
    go_ret
    exact ⟨rfl, rfl⟩
  · rw [hs, if_pos rfl] at h
    go_enter Tryd.func33, Tryd.ntmps33
    go_wp2
    go_ret
    exact ⟨rfl, rfl⟩

set_option maxRecDepth 100000 in
theorem magS_any (u : Int) (w : World) (h0 : 0 ≤ u) (h1 : u ≤ 18446744073709551615) :
    Calls Tryd.prog 73 #[.int .u64 u] w fun e w' => ∃ a c, e = .returned (.slice a (lim u.natAbs).length c) ∧ Own w' w.heap.size (.slice a (lim u.natAbs).length c) (lim u.natAbs) ∧ Below w.heap.size w w' := by
  have hK := fun W v hr => trimS_any v [u % 4294967296, u / 4294967296] W hr
  rw [val_two2 h0 h1] at hK
  generalize lim u.natAbs = L at hK ⊢
  have hK := hK _ _ (Rd.two w w.heap.size rfl (x := u % 4294967296) (y := u / 4294967296) (by omega) (by omega) (by omega) (by omega))
  go_enter Tryd.func73, Tryd.ntmps73
  go_wp2_with fail
  rw [low32 h0 h1]
  refine hK.mono ?_
  rintro e w1 ⟨a1, c1, rfl, hO, hB⟩
  clear hK
  go_wp2
  go_ret
  exact ⟨a1, c1, rfl, hO.mono (by simp), below_of_alloc hB⟩

set_option maxRecDepth 100000 in
theorem unitsS_any (x : Int) (w : World) (h0 : 0 ≤ x) (h1 : x ≤ 18446744073709551615) :
    Calls Tryd.prog 30 #[.int .u64 x] w fun e w' => ∃ a c, e = .returned (.slice a (lim (fu x.toNat)).length c) ∧ Own w' w.heap.size (.slice a (lim (fu x.toNat)).length c) (lim (fu x.toNat)) ∧ Below w.heap.size w w' := by
  have he := and_exp x h0 h1
  have hf := and_frac x h0 h1
  have hfl : ffrac x.toNat < 4503599627370496 := Nat.mod_lt _ (by decide)
  have hel : fexp x.toNat < 2048 := Nat.mod_lt _ (by decide)
  by_cases hx : fexp x.toNat = 0
  · have hfu : fu x.toNat = ffrac x.toNat := by unfold fu; rw [if_pos hx]
    have hK := magS_any (ffrac x.toNat : Int) w (by omega) (by omega)
    rw [Int.natAbs_natCast] at hK
    rw [hfu]
    rw [hx] at he
    generalize lim (ffrac x.toNat) = L at hK ⊢
    go_enter Tryd.func30, Tryd.ntmps30
    go_wp2_with fail
    refine hK.mono ?_
    rintro e w1 ⟨a1, c1, rfl, hO, hB⟩
    clear hK
    go_wp2
    go_ret
    exact ⟨a1, c1, rfl, hO, hB⟩
  · have hfu : fu x.toNat = (ffrac x.toNat + 4503599627370496) * 2 ^ (fexp x.toNat - 1) := by unfold fu; rw [if_neg hx]
    have hor := or_hidden x.toNat
    have hK := magS_any ((ffrac x.toNat + 4503599627370496 : Nat) : Int) w (by omega) (by omega)
    rw [Int.natAbs_natCast] at hK
    have hS := fun W v h => shlMag_any v (lim (ffrac x.toNat + 4503599627370496)) (fexp x.toNat - 1) W h (Nat.le_trans (lim_len_gen _ 11 2 (by omega) (by decide)) (by decide)) (by omega)
    rw [val_lim, ← hfu] at hS
    have hsub : ((fexp x.toNat : Int) - 1) = ((fexp x.toNat - 1 : Nat) : Int) := by omega
    generalize lim (fu x.toNat) = L at hS ⊢
    generalize lim (ffrac x.toNat + 4503599627370496) = M at hK hS
    generalize ffrac x.toNat + 4503599627370496 = fr at hor hK
    generalize fexp x.toNat - 1 = e1 at hS hsub
    generalize fexp x.toNat = ex at *
    go_enter Tryd.func30, Tryd.ntmps30
    go_wp2_with fail
    refine hK.mono ?_
    rintro e w1 ⟨a1, c1, rfl, hO, hB⟩
    clear hK
    go_wp2_with fail
    refine (hS _ _ hO.rd).mono ?_
    rintro e w2 ⟨a2, c2, rfl, hO2, hB2⟩
    clear hS
    go_wp2
    go_ret
    exact ⟨a2, c2, rfl, hO2.mono hB.size, hB.trans (hB2.mono hB.size)⟩

set_option maxHeartbeats 1000000 in
set_option maxRecDepth 100000 in
theorem orderS_any (p q : Bool) (v u : Value) (xs ys : List Int) (w : World) (hx : Rd w v xs) (hy : Rd w u ys) (nx : Norm xs) (ny : Norm ys) (hlx : xs.length ≤ 1048576) (hly : ys.length ≤ 1048576) (hpA : p = true → 0 < val xs) (hpB : q = true → 0 < val ys) :
    Calls Tryd.prog 41 #[.agg #[.bool p, v], .agg #[.bool q, u]] w fun e w' => e = .returned (.int .i64 (cmpR p (val xs) q (val ys))) ∧ Below w.heap.size w w' := by
  have hx' := hx
  have hy' := hy
  obtain ⟨a, cap, rfl, _, hzx, hnx, hcx⟩ := hx
  obtain ⟨a', cap', rfl, _, hzy, hny, hcy⟩ := hy
  clear hcx hcy hnx hny
  have bA := (Box.new w (.bool p) (.slice a xs.length cap) 25).alloc (Obj.cells #[.bool q, .slice a' ys.length cap'] 25)
  have bB := Box.new (w.alloc (Obj.cells #[.bool p, .slice a xs.length cap] 25)) (.bool q) (.slice a' ys.length cap') 25
  have rx := (hx'.alloc (Obj.cells #[.bool p, .slice a xs.length cap] 25)).alloc (Obj.cells #[.bool q, .slice a' ys.length cap'] 25)
  have ry := (hy'.alloc (Obj.cells #[.bool p, .slice a xs.length cap] 25)).alloc (Obj.cells #[.bool q, .slice a' ys.length cap'] 25)
  have hW := ((Below.refl w.heap.size w).alloc (Nat.le_refl _) (Obj.cells #[.bool p, .slice a xs.length cap] 25)).alloc (by simp) (Obj.cells #[.bool q, .slice a' ys.length cap'] 25)
  have fA := ((Unf.new w #[.bool p, .slice a xs.length cap] 25).keep ((Below.refl _ _).alloc (Nat.le_refl _) (Obj.cells #[.bool q, .slice a' ys.length cap'] 25)))
  have fB := (Unf.new (w.alloc (Obj.cells #[.bool p, .slice a xs.length cap] 25)) #[.bool q, .slice a' ys.length cap'] 25)
  simp only [World.size_alloc] at bB fB
  have hR := cmp_of_sum p (val xs) q (val ys) hpA hpB
  have hM := fun W h => l1Minus_any q (.slice a' ys.length cap') ys W h
  have hS := fun W v1 h1 h2 => l1Sum_any p (nz (!q) (val ys)) (.slice a xs.length cap) v1 xs (lim (val ys)) W h1 h2 nx (lim_norm _) hlx (by have := lim_length_le (val_lt hzy); omega)
  rw [val_lim, sumR_nz] at hS
  generalize nz (!q) (val ys) = m at hM hS
  generalize hLy : lim (val ys) = Ly at hM hS
  have hz0 : (sumR p (val xs) (!q) (val ys)).2 = 0 ↔ (lim (sumR p (val xs) (!q) (val ys)).2).length = 0 := by rw [List.length_eq_zero_iff, lim_eq_nil]
  generalize lim (sumR p (val xs) (!q) (val ys)).2 = L at hS hz0
  generalize nz (sumR p (val xs) (!q) (val ys)).1 (sumR p (val xs) (!q) (val ys)).2 = s at hS hR
  generalize cmpR p (val xs) q (val ys) = r at hR ⊢
  have HR : Hid ((if L.length = 0 then (0 : Int) else if s = true then -1 else 1) = r) := by
    rw [← hR]
    show _ = _
    by_cases h : L.length = 0
    · rw [if_pos h, if_pos (hz0.mpr h)]
    · rw [if_neg h, if_neg (fun e => h (hz0.mp e))]
  clear hR hz0 hLy hpA hpB nx ny
  go_enter Tryd.func41, Tryd.ntmps41
  go_wp2_with fail
  generalize (w.alloc (Obj.cells #[.bool p, .slice a xs.length cap] 25)).alloc (Obj.cells #[.bool q, .slice a' ys.length cap'] 25) = w2 at *
  obtain ⟨-, k0, k1⟩ := id bA
  obtain ⟨-, k2, k3⟩ := id bB
  have hg1 : ¬ (w2.heap.size = w.heap.size) := by have := bA.1; omega
  have hg2 : ¬ (w2.heap.size = w.heap.size + 1) := by have := bB.1; omega
  have hg3 : ¬ (w.heap.size = w2.heap.size) := by have := bA.1; omega
  have hg4 : ¬ (w.heap.size + 1 = w2.heap.size) := by have := bB.1; omega
  go_region_held3 (fun W => W.cell? ⟨w.heap.size, 0, none⟩ = some (.bool p) ∧ W.cell? ⟨w.heap.size, 1, none⟩ = some (.slice a xs.length cap) ∧ W.cell? ⟨w.heap.size + 1, 0, none⟩ = some (.bool q) ∧ W.cell? ⟨w.heap.size + 1, 1, none⟩ = some (.slice a' ys.length cap')) (go_keep) (first | (go_at_call 81; refine (hM _ ry.drew).mono ?_; rintro e w3 ⟨a3, c3, rfl, hO3, hB3⟩; have bA3 := bA.drew.keep hB3; have bB3 := bB.drew.keep hB3; obtain ⟨hza, x0, x1⟩ := id bA3; obtain ⟨hzb, y0, y1⟩ := id bB3; have hm4 : ¬ (w3.heap.size = w.heap.size) := (by omega); have hm5 : ¬ (w3.heap.size = w.heap.size + 1) := (by omega); have hm6 : ¬ (w.heap.size = w3.heap.size) := (by omega); have hm7 : ¬ (w.heap.size + 1 = w3.heap.size) := (by omega); have rx3 := rx.drew.keep hB3; have hW3 := hW.drew.trans (hB3.mono (by have := hW.size; simp; omega))) | (go_at_call 81; refine (hM _ (ry.alloc (Obj.cells #[.bool false, .slice none 0 0] 25)).drew).mono ?_; rintro e w3 ⟨a3, c3, rfl, hO3, hB3⟩; have bA3 := (bA.alloc (Obj.cells #[.bool false, .slice none 0 0] 25)).drew.keep hB3; have bB3 := (bB.alloc (Obj.cells #[.bool false, .slice none 0 0] 25)).drew.keep hB3; obtain ⟨hza, x0, x1⟩ := id bA3; obtain ⟨hzb, y0, y1⟩ := id bB3; have hm4 : ¬ (w3.heap.size = w.heap.size) := (by omega); have hm5 : ¬ (w3.heap.size = w.heap.size + 1) := (by omega); have hm6 : ¬ (w.heap.size = w3.heap.size) := (by omega); have hm7 : ¬ (w.heap.size + 1 = w3.heap.size) := (by omega); have rx3 := (rx.alloc (Obj.cells #[.bool false, .slice none 0 0] 25)).drew.keep hB3; have hW3 := (hW.alloc hW.size (Obj.cells #[.bool false, .slice none 0 0] 25)).drew.trans (hB3.mono (by have := hW.size; simp; omega)); have bD3 := (Box.new w2 (.bool false) (.slice none 0 0) 25).drew.keep hB3; have fD3 := (Unf.new w2 #[.bool false, .slice none 0 0] 25).drew.keep hB3; obtain ⟨hzd, d0, d1⟩ := id bD3; obtain ⟨-, hfd⟩ := id fD3) | (go_at_call 80; refine (hS _ _ rx3 hO3.rd).mono ?_; rintro e w4 ⟨a4, c4, rfl, hO4, hB4⟩; obtain ⟨hz4, x2, x3⟩ := bA3.keep hB4; obtain ⟨hz5, y2, y3⟩ := bB3.keep hB4; have hW4 := hW3.trans (hB4.mono (by have := hW3.size; simp; omega)); have hn4 : ¬ (w4.heap.size = w.heap.size) := (by omega); have hn5 : ¬ (w4.heap.size = w.heap.size + 1) := (by omega); have hn6 : ¬ (w.heap.size = w4.heap.size) := (by omega); have hn7 : ¬ (w.heap.size + 1 = w4.heap.size) := (by omega); try (obtain ⟨hzd4, d2, d3⟩ := bD3.keep hB4; obtain ⟨-, hfd4⟩ := fD3.keep hB4)) | (go_at_call 80; refine (hS _ _ (rx3.alloc (Obj.cells #[.bool false, .slice none 0 0] 25)) (hO3.rd.alloc _)).mono ?_; rintro e w4 ⟨a4, c4, rfl, hO4, hB4⟩; obtain ⟨hz4, x2, x3⟩ := (bA3.alloc _).keep hB4; obtain ⟨hz5, y2, y3⟩ := (bB3.alloc _).keep hB4; have hW4 := (hW3.alloc hW3.size _).trans (hB4.mono (by have := hW3.size; simp; omega)); have hn4 : ¬ (w4.heap.size = w.heap.size) := (by omega); have hn5 : ¬ (w4.heap.size = w.heap.size + 1) := (by omega); have hn6 : ¬ (w.heap.size = w4.heap.size) := (by omega); have hn7 : ¬ (w.heap.size + 1 = w4.heap.size) := (by omega); have bD3 := Box.new w3 (.bool false) (.slice none 0 0) 25; have fD3 := Unf.new w3 #[.bool false, .slice none 0 0] 25; obtain ⟨hzd4, d2, d3⟩ := bD3.keep hB4; obtain ⟨-, hfd4⟩ := fD3.keep hB4))
  all_goals go_wp2
  all_goals go_ret
  all_goals refine ⟨?_, ?_⟩
  all_goals first | (rw [pick0 HR.out (by assumption)]; rfl) | (rw [pick1 HR.out (by assumption) (by assumption)]; rfl) | (rw [pick2 HR.out (by assumption) (by assumption)]; rfl) | exact hW4.alloc hW4.size _ | exact (hW4.setCell (by show w.heap.size ≤ w3.heap.size; omega) _).setCell (by show w.heap.size ≤ w3.heap.size; omega) _ | exact (hW4.setCell (by show w.heap.size ≤ w2.heap.size; have := bA.1; omega) _).setCell (by show w.heap.size ≤ w2.heap.size; have := bA.1; omega) _

set_option maxRecDepth 100000 in
theorem wholeS_any (x : Int) (w : World) (h0 : 0 ≤ x) (h1 : x ≤ 18446744073709551615) :
    Calls Tryd.prog 43 #[.int .u64 x] w fun e w' => ∃ a c, e = .returned (.agg #[.bool (nz (fneg x.toNat) (fu x.toNat)), .slice a (lim (fu x.toNat)).length c]) ∧ Own w' w.heap.size (.slice a (lim (fu x.toNat)).length c) (lim (fu x.toNat)) ∧ Below w.heap.size w w' := by
  have hN := fun W => negS_any x W h0 h1
  have hU := fun W => unitsS_any x W h0 h1
  have hG := fun W v h => l1Big_lim (fneg x.toNat) v (fu x.toNat) W h
  generalize nz (fneg x.toNat) (fu x.toNat) = s at hG ⊢
  generalize lim (fu x.toNat) = L at hU hG ⊢
  have bR := Box.new w (.bool false) (.slice none 0 0) 25
  have fR := Unf.new w #[.bool false, .slice none 0 0] 25
  have hW := (Below.refl w.heap.size w).alloc (Nat.le_refl _) (Obj.cells #[.bool false, .slice none 0 0] 25)
  go_enter Tryd.func43, Tryd.ntmps43
  go_wp2_with fail
  refine (hN _).mono ?_
  rintro e w1 ⟨rfl, rfl⟩
  go_wp2_with fail
  refine (hU _).mono ?_
  rintro e w2 ⟨a2, c2, rfl, hO2, hB2⟩
  replace bR := bR.keep hB2
  replace fR := fR.keep hB2
  replace hW := hW.trans (hB2.mono hW.size)
  go_wp2_with fail
  refine (hG _ _ hO2.rd).mono ?_
  rintro e w3 ⟨a3, c3, rfl, hO3, hB3⟩
  replace bR := bR.keep hB3
  replace fR := fR.keep hB3
  have hlt := bR.1
  have hW3 := hW.trans (hB3.mono hW.size)
  obtain ⟨hz1, p0, p1⟩ := id bR
  obtain ⟨_, hf1⟩ := id fR
  clear hN hU hG
  go_wp2
  refine bodyPost_ret (v := .agg #[.bool s, .slice a3 L.length c3]) (by simp [results, Tryd.results43, go_sem, p0, p1, hz1]) rfl ⟨a3, c3, rfl, ?_, ?_⟩
  · exact ((hO3.setBelow (by have := hW.size; have := hB2.size; simp at *; omega) _).setBelow (by have := hW.size; have := hB2.size; simp at *; omega) _).mono hW.size
  · exact (hW3.setCell (by simp) _).setCell (by simp) _
end Go.Proofs.YtkjbbmmidjeecaaDoor
