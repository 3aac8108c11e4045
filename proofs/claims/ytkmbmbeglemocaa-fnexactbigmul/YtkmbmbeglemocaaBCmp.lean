import Derived.Test.YtkmbmbeglemocaaSum
import Derived.Test.YtkmbmbeglemocaaFit
import Derived.Test.YtkmbmbeglemocaaOk
import Derived.Deep.RegionHeld3
namespace Go.Proofs.Ytkmbmbeglemocaa
open Go.RowKit
set_option linter.unusedVariables false
set_option linter.unusedSimpArgs false

/-- What BigCmp answers of two numbers that are well formed. -/
def cmpR (p : Bool) (x : Nat) (q : Bool) (y : Nat) : Int := if p = q then (if p = true then cmpN y x else cmpN x y) else if p = true then -1 else 1
/-- What BigCmp answers. -/
def cmpA (p : Bool) (xs : List Int) (q : Bool) (ys : List Int) : Int := if okB p xs = true ∧ okB q ys = true then cmpR p (val xs) q (val ys) else 2

theorem sumR_nz (p : Bool) (x : Nat) (q : Bool) (y : Nat) : sumR p x (nz q y) y = sumR p x q y := by
  by_cases h : y = 0
  · subst h
    cases p <;> cases q <;> rfl
  · have : nz q y = q := by unfold nz; rw [decide_eq_true (by omega), Bool.and_true]
    rw [this]

theorem okB_pos {zs : List Int} (hz : Limbs zs) (h : okB true zs = true) : 0 < val zs := by
  have hn := (okB_norm h).1
  have h0 : ¬ zs.length = 0 := fun e => by rw [okB_nil e] at h; cases h
  have := le_val hz hn (by omega)
  have h1 : 0 < 4294967296 ^ (zs.length - 1) := Nat.pow_pos (by omega)
  omega

/-- The sign of a difference is the order. -/
theorem cmp_of_sum (p : Bool) (x : Nat) (q : Bool) (y : Nat) (hx : p = true → 0 < x) (hy : q = true → 0 < y) :
    (if (sumR p x (!q) y).2 = 0 then (0 : Int) else if nz (sumR p x (!q) y).1 (sumR p x (!q) y).2 = true then -1 else 1) = cmpR p x q y := by
  cases p <;> cases q <;> simp only [sumR, cmpR, nz, cmpN, Bool.not_true, Bool.not_false, if_true, if_false, reduceCtorEq, Bool.true_and, Bool.false_and] <;> simp at hx hy ⊢
  · by_cases h1 : y ≤ x
    · simp [h1]; by_cases h2 : x - y = 0
      · simp [h2]; omega
      · simp [h2]; omega
    · simp [h1]; omega
  · omega
  · omega
  · by_cases h1 : y ≤ x
    · simp [h1]; by_cases h2 : x - y = 0
      · simp [h2]; omega
      · simp [h2]; omega
    · simp [h1]; omega

theorem pick0 {n : Nat} {s : Bool} {r : Int} (h : (if n = 0 then (0 : Int) else if s = true then -1 else 1) = r) (h0 : ((n : Int) == 0) = true) : r = 0 := by
  have : n = 0 := by have := beq_iff_eq.mp h0; omega
  rw [← h, if_pos this]
theorem pick1 {n : Nat} {s : Bool} {r : Int} (h : (if n = 0 then (0 : Int) else if s = true then -1 else 1) = r) (h0 : ((n : Int) == 0) = false) (hs : s = true) : r = -1 := by
  have : ¬ n = 0 := fun e => by rw [e] at h0; cases h0
  rw [← h, if_neg this, if_pos hs]
theorem pick2 {n : Nat} {s : Bool} {r : Int} (h : (if n = 0 then (0 : Int) else if s = true then -1 else 1) = r) (h0 : ((n : Int) == 0) = false) (hs : s = false) : r = 1 := by
  have : ¬ n = 0 := fun e => by rw [e] at h0; cases h0
  rw [← h, if_neg this, if_neg (by rw [hs]; decide)]

set_option maxHeartbeats 1000000 in
set_option maxRecDepth 100000 in
theorem bigCmpS_any (p q : Bool) (v u : Value) (xs ys : List Int) (w : World) (hx : Rd w v xs) (hy : Rd w u ys) :
    Calls Try.prog 29 #[.agg #[.bool p, v], .agg #[.bool q, u]] w fun e w' => e = .returned (.int .i64 (cmpA p xs q ys)) ∧ Below w.heap.size w w' := by
  have hx' := hx
  have hy' := hy
  obtain ⟨a, cap, rfl, _, hzx, hnx, hcx⟩ := hx
  obtain ⟨a', cap', rfl, _, hzy, hny, hcy⟩ := hy
  clear hcx hcy hnx hny
  have bA := (Box.new w (.bool p) (.slice a xs.length cap) 27).alloc (Obj.cells #[.bool q, .slice a' ys.length cap'] 27)
  have bB := Box.new (w.alloc (Obj.cells #[.bool p, .slice a xs.length cap] 27)) (.bool q) (.slice a' ys.length cap') 27
  have rx := (hx'.alloc (Obj.cells #[.bool p, .slice a xs.length cap] 27)).alloc (Obj.cells #[.bool q, .slice a' ys.length cap'] 27)
  have ry := (hy'.alloc (Obj.cells #[.bool p, .slice a xs.length cap] 27)).alloc (Obj.cells #[.bool q, .slice a' ys.length cap'] 27)
  have hW := ((Below.refl w.heap.size w).alloc (Nat.le_refl _) (Obj.cells #[.bool p, .slice a xs.length cap] 27)).alloc (by simp) (Obj.cells #[.bool q, .slice a' ys.length cap'] 27)
  have fA := ((Unf.new w #[.bool p, .slice a xs.length cap] 27).keep ((Below.refl _ _).alloc (Nat.le_refl _) (Obj.cells #[.bool q, .slice a' ys.length cap'] 27)))
  have fB := (Unf.new (w.alloc (Obj.cells #[.bool p, .slice a xs.length cap] 27)) #[.bool q, .slice a' ys.length cap'] 27)
  simp only [World.size_alloc] at bB fB
  cases hoA : okB p xs with
  | false =>
    have HC : Hid (cmpA p xs q ys = 2) := by unfold cmpA; exact if_neg (by rw [hoA]; simp)
    have hokA := fun W h => bigOkS_any p (.slice a xs.length cap) xs W h
    rw [hoA] at hokA
    clear hoA hx' hy'
    go_enter Try.func29, Try.ntmps29
    go_wp2_with fail
    refine (hokA _ rx).mono ?_
    rintro e w1 ⟨rfl, hB⟩
    replace hW := hW.trans (hB.mono hW.size)
    replace bA := bA.keep hB
    replace bB := bB.keep hB
    replace fA := fA.keep hB
    replace fB := fB.keep hB
    replace rx := rx.keep hB
    replace ry := ry.keep hB
    clear hB
    obtain ⟨-, k0, k1⟩ := id bA
    obtain ⟨-, k2, k3⟩ := id bB
    go_wp2
    go_ret
    exact ⟨by rw [HC.out]; rfl, hW⟩
  | true =>
    cases hoB : okB q ys with
    | false =>
      have HC : Hid (cmpA p xs q ys = 2) := by unfold cmpA; exact if_neg (by rw [hoB]; simp)
      have hokA := fun W h => bigOkS_any p (.slice a xs.length cap) xs W h
      rw [hoA] at hokA
      have hokB := fun W h => bigOkS_any q (.slice a' ys.length cap') ys W h
      rw [hoB] at hokB
      clear hoA hoB hx' hy'
      go_enter Try.func29, Try.ntmps29
      go_wp2_with fail
      refine (hokA _ rx).mono ?_
      rintro e w1 ⟨rfl, hB⟩
      replace hW := hW.trans (hB.mono hW.size)
      replace bA := bA.keep hB
      replace bB := bB.keep hB
      replace fA := fA.keep hB
      replace fB := fB.keep hB
      replace rx := rx.keep hB
      replace ry := ry.keep hB
      clear hB
      obtain ⟨-, k0, k1⟩ := id bA
      obtain ⟨-, k2, k3⟩ := id bB
      go_wp2_with fail
      refine (hokB _ ry).mono ?_
      rintro e w2 ⟨rfl, hB⟩
      clear k0 k1 k2 k3
      replace hW := hW.trans (hB.mono hW.size)
      replace bA := bA.keep hB
      replace bB := bB.keep hB
      replace fA := fA.keep hB
      replace fB := fB.keep hB
      replace rx := rx.keep hB
      replace ry := ry.keep hB
      clear hB
      obtain ⟨-, k0, k1⟩ := id bA
      obtain ⟨-, k2, k3⟩ := id bB
      go_wp2
      go_ret
      exact ⟨by rw [HC.out]; rfl, hW⟩
    | true =>
      have HC : Hid (cmpA p xs q ys = cmpR p (val xs) q (val ys)) := by unfold cmpA; exact if_pos ⟨hoA, hoB⟩
      have hnA := okB_norm hoA
      have hnB := okB_norm hoB
      have hpA : p = true → 0 < val xs := fun e => by subst e; exact okB_pos hzx hoA
      have hpB : q = true → 0 < val ys := fun e => by subst e; exact okB_pos hzy hoB
      have hokA := fun W h => bigOkS_any p (.slice a xs.length cap) xs W h
      rw [hoA] at hokA
      have hokB := fun W h => bigOkS_any q (.slice a' ys.length cap') ys W h
      rw [hoB] at hokB
      clear hoA hoB
      have hR := cmp_of_sum p (val xs) q (val ys) hpA hpB
      rw [← HC.out] at hR
      have hM := fun W h => l1Minus_any q (.slice a' ys.length cap') ys W h
      have hS := fun W v1 h1 h2 => l1Sum_any p (nz (!q) (val ys)) (.slice a xs.length cap) v1 xs (lim (val ys)) W h1 h2 hnA.1 (lim_norm _) (by omega) (by have := lim_length_le (val_lt hzy); omega)
      rw [val_lim, sumR_nz] at hS
      generalize nz (!q) (val ys) = m at hM hS
      generalize hLy : lim (val ys) = Ly at hM hS
      have hz0 : (sumR p (val xs) (!q) (val ys)).2 = 0 ↔ (lim (sumR p (val xs) (!q) (val ys)).2).length = 0 := by rw [List.length_eq_zero_iff, lim_eq_nil]
      generalize lim (sumR p (val xs) (!q) (val ys)).2 = L at hS hz0
      generalize nz (sumR p (val xs) (!q) (val ys)).1 (sumR p (val xs) (!q) (val ys)).2 = s at hS hR
      generalize cmpA p xs q ys = r at hR ⊢
      have HR : Hid ((if L.length = 0 then (0 : Int) else if s = true then -1 else 1) = r) := by
        rw [← hR]
        show _ = _
        by_cases h : L.length = 0
        · rw [if_pos h, if_pos (hz0.mpr h)]
        · rw [if_neg h, if_neg (fun e => h (hz0.mp e))]
      clear hR hz0 hLy HC hpA hpB hnA hnB
      go_enter Try.func29, Try.ntmps29
      go_wp2_with fail
      refine (hokA _ rx).mono ?_
      rintro e w1 ⟨rfl, hB⟩
      replace hW := hW.trans (hB.mono hW.size)
      replace bA := bA.keep hB
      replace bB := bB.keep hB
      replace fA := fA.keep hB
      replace fB := fB.keep hB
      replace rx := rx.keep hB
      replace ry := ry.keep hB
      clear hB
      obtain ⟨-, k0, k1⟩ := id bA
      obtain ⟨-, k2, k3⟩ := id bB
      go_wp2_with fail
      refine (hokB _ ry).mono ?_
      rintro e w2 ⟨rfl, hB⟩
      clear k0 k1 k2 k3
      replace hW := hW.trans (hB.mono hW.size)
      replace bA := bA.keep hB
      replace bB := bB.keep hB
      replace fA := fA.keep hB
      replace fB := fB.keep hB
      replace rx := rx.keep hB
      replace ry := ry.keep hB
      clear hB
      obtain ⟨-, k0, k1⟩ := id bA
      obtain ⟨-, k2, k3⟩ := id bB
      clear hokA hokB
      have hg1 : ¬ (w2.heap.size = w.heap.size) := by have := bA.1; omega
      have hg2 : ¬ (w2.heap.size = w.heap.size + 1) := by have := bB.1; omega
      have hg3 : ¬ (w.heap.size = w2.heap.size) := by have := bA.1; omega
      have hg4 : ¬ (w.heap.size + 1 = w2.heap.size) := by have := bB.1; omega
      go_wp2_with fail
      go_region_held3 (fun W => W.cell? ⟨w.heap.size, 0, none⟩ = some (.bool p) ∧ W.cell? ⟨w.heap.size, 1, none⟩ = some (.slice a xs.length cap) ∧ W.cell? ⟨w.heap.size + 1, 0, none⟩ = some (.bool q) ∧ W.cell? ⟨w.heap.size + 1, 1, none⟩ = some (.slice a' ys.length cap')) (go_keep) (first | (go_at_call 64; refine (hM _ ry.drew).mono ?_; rintro e w3 ⟨a3, c3, rfl, hO3, hB3⟩; have bA3 := bA.drew.keep hB3; have bB3 := bB.drew.keep hB3; obtain ⟨hza, x0, x1⟩ := id bA3; obtain ⟨hzb, y0, y1⟩ := id bB3; have hm4 : ¬ (w3.heap.size = w.heap.size) := (by omega); have hm5 : ¬ (w3.heap.size = w.heap.size + 1) := (by omega); have hm6 : ¬ (w.heap.size = w3.heap.size) := (by omega); have hm7 : ¬ (w.heap.size + 1 = w3.heap.size) := (by omega); have rx3 := rx.drew.keep hB3; have hW3 := hW.drew.trans (hB3.mono (by have := hW.size; simp; omega))) | (go_at_call 64; refine (hM _ (ry.alloc (Obj.cells #[.bool false, .slice none 0 0] 27)).drew).mono ?_; rintro e w3 ⟨a3, c3, rfl, hO3, hB3⟩; have bA3 := (bA.alloc (Obj.cells #[.bool false, .slice none 0 0] 27)).drew.keep hB3; have bB3 := (bB.alloc (Obj.cells #[.bool false, .slice none 0 0] 27)).drew.keep hB3; obtain ⟨hza, x0, x1⟩ := id bA3; obtain ⟨hzb, y0, y1⟩ := id bB3; have hm4 : ¬ (w3.heap.size = w.heap.size) := (by omega); have hm5 : ¬ (w3.heap.size = w.heap.size + 1) := (by omega); have hm6 : ¬ (w.heap.size = w3.heap.size) := (by omega); have hm7 : ¬ (w.heap.size + 1 = w3.heap.size) := (by omega); have rx3 := (rx.alloc (Obj.cells #[.bool false, .slice none 0 0] 27)).drew.keep hB3; have hW3 := (hW.alloc hW.size (Obj.cells #[.bool false, .slice none 0 0] 27)).drew.trans (hB3.mono (by have := hW.size; simp; omega)); have bD3 := (Box.new w2 (.bool false) (.slice none 0 0) 27).drew.keep hB3; have fD3 := (Unf.new w2 #[.bool false, .slice none 0 0] 27).drew.keep hB3; obtain ⟨hzd, d0, d1⟩ := id bD3; obtain ⟨-, hfd⟩ := id fD3) | (go_at_call 63; refine (hS _ _ rx3 hO3.rd).mono ?_; rintro e w4 ⟨a4, c4, rfl, hO4, hB4⟩; obtain ⟨hz4, x2, x3⟩ := bA3.keep hB4; obtain ⟨hz5, y2, y3⟩ := bB3.keep hB4; have hW4 := hW3.trans (hB4.mono (by have := hW3.size; simp; omega)); have hn4 : ¬ (w4.heap.size = w.heap.size) := (by omega); have hn5 : ¬ (w4.heap.size = w.heap.size + 1) := (by omega); have hn6 : ¬ (w.heap.size = w4.heap.size) := (by omega); have hn7 : ¬ (w.heap.size + 1 = w4.heap.size) := (by omega); try (obtain ⟨hzd4, d2, d3⟩ := bD3.keep hB4; obtain ⟨-, hfd4⟩ := fD3.keep hB4)) | (go_at_call 63; refine (hS _ _ (rx3.alloc (Obj.cells #[.bool false, .slice none 0 0] 27)) (hO3.rd.alloc _)).mono ?_; rintro e w4 ⟨a4, c4, rfl, hO4, hB4⟩; obtain ⟨hz4, x2, x3⟩ := (bA3.alloc _).keep hB4; obtain ⟨hz5, y2, y3⟩ := (bB3.alloc _).keep hB4; have hW4 := (hW3.alloc hW3.size _).trans (hB4.mono (by have := hW3.size; simp; omega)); have hn4 : ¬ (w4.heap.size = w.heap.size) := (by omega); have hn5 : ¬ (w4.heap.size = w.heap.size + 1) := (by omega); have hn6 : ¬ (w.heap.size = w4.heap.size) := (by omega); have hn7 : ¬ (w.heap.size + 1 = w4.heap.size) := (by omega); have bD3 := Box.new w3 (.bool false) (.slice none 0 0) 27; have fD3 := Unf.new w3 #[.bool false, .slice none 0 0] 27; obtain ⟨hzd4, d2, d3⟩ := bD3.keep hB4; obtain ⟨-, hfd4⟩ := fD3.keep hB4))
      all_goals go_wp2
      all_goals go_ret
      all_goals refine ⟨?_, ?_⟩
      all_goals first | (rw [pick0 HR.out (by assumption)]; rfl) | (rw [pick1 HR.out (by assumption) (by assumption)]; rfl) | (rw [pick2 HR.out (by assumption) (by assumption)]; rfl) | exact hW4.alloc hW4.size _ | exact (hW4.setCell (by show w.heap.size ≤ w3.heap.size; omega) _).setCell (by show w.heap.size ≤ w3.heap.size; omega) _ | exact (hW4.setCell (by show w.heap.size ≤ w2.heap.size; have := bA.1; omega) _).setCell (by show w.heap.size ≤ w2.heap.size; have := bA.1; omega) _

set_option maxHeartbeats 1000000 in
set_option maxRecDepth 100000 in
theorem bigCmp_any (p q : Bool) (v u : Value) (xs ys : List Int) (w : World) (hx : Rd w v xs) (hy : Rd w u ys) :
    Calls Try.prog 30 #[.agg #[.bool p, v], .agg #[.bool q, u]] w fun e w' => e = .returned (.int .i64 (cmpA p xs q ys)) ∧ Below w.heap.size w w' := by
  have hx' := hx
  have hy' := hy
  obtain ⟨a, cap, rfl, _, hzx, hnx, hcx⟩ := hx
  obtain ⟨a', cap', rfl, _, hzy, hny, hcy⟩ := hy
  clear hcx hcy hnx hny
  have bA := (Box.new w (.bool p) (.slice a xs.length cap) 27).alloc (Obj.cells #[.bool q, .slice a' ys.length cap'] 27)
  have bB := Box.new (w.alloc (Obj.cells #[.bool p, .slice a xs.length cap] 27)) (.bool q) (.slice a' ys.length cap') 27
  have rx := (hx'.alloc (Obj.cells #[.bool p, .slice a xs.length cap] 27)).alloc (Obj.cells #[.bool q, .slice a' ys.length cap'] 27)
  have ry := (hy'.alloc (Obj.cells #[.bool p, .slice a xs.length cap] 27)).alloc (Obj.cells #[.bool q, .slice a' ys.length cap'] 27)
  have hW := ((Below.refl w.heap.size w).alloc (Nat.le_refl _) (Obj.cells #[.bool p, .slice a xs.length cap] 27)).alloc (by simp) (Obj.cells #[.bool q, .slice a' ys.length cap'] 27)
  have fA := ((Unf.new w #[.bool p, .slice a xs.length cap] 27).keep ((Below.refl _ _).alloc (Nat.le_refl _) (Obj.cells #[.bool q, .slice a' ys.length cap'] 27)))
  have fB := (Unf.new (w.alloc (Obj.cells #[.bool p, .slice a xs.length cap] 27)) #[.bool q, .slice a' ys.length cap'] 27)
  simp only [World.size_alloc] at bB fB
  cases hoA : okB p xs with
  | false =>
    have HC : Hid (cmpA p xs q ys = 2) := by unfold cmpA; exact if_neg (by rw [hoA]; simp)
    have hokA := fun W h => bigOk_any p (.slice a xs.length cap) xs W h
    rw [hoA] at hokA
    clear hoA hx' hy'
    go_enter Try.func30, Try.ntmps30
    go_wp2_with fail
    refine (hokA _ rx).mono ?_
    rintro e w1 ⟨rfl, hB⟩
    replace hW := hW.trans (hB.mono hW.size)
    replace bA := bA.keep hB
    replace bB := bB.keep hB
    replace fA := fA.keep hB
    replace fB := fB.keep hB
    replace rx := rx.keep hB
    replace ry := ry.keep hB
    clear hB
    obtain ⟨-, k0, k1⟩ := id bA
    obtain ⟨-, k2, k3⟩ := id bB
    go_wp2
    go_ret
    exact ⟨by rw [HC.out]; rfl, hW⟩
  | true =>
    cases hoB : okB q ys with
    | false =>
      have HC : Hid (cmpA p xs q ys = 2) := by unfold cmpA; exact if_neg (by rw [hoB]; simp)
      have hokA := fun W h => bigOk_any p (.slice a xs.length cap) xs W h
      rw [hoA] at hokA
      have hokB := fun W h => bigOk_any q (.slice a' ys.length cap') ys W h
      rw [hoB] at hokB
      clear hoA hoB hx' hy'
      go_enter Try.func30, Try.ntmps30
      go_wp2_with fail
      refine (hokA _ rx).mono ?_
      rintro e w1 ⟨rfl, hB⟩
      replace hW := hW.trans (hB.mono hW.size)
      replace bA := bA.keep hB
      replace bB := bB.keep hB
      replace fA := fA.keep hB
      replace fB := fB.keep hB
      replace rx := rx.keep hB
      replace ry := ry.keep hB
      clear hB
      obtain ⟨-, k0, k1⟩ := id bA
      obtain ⟨-, k2, k3⟩ := id bB
      go_wp2_with fail
      refine (hokB _ ry).mono ?_
      rintro e w2 ⟨rfl, hB⟩
      clear k0 k1 k2 k3
      replace hW := hW.trans (hB.mono hW.size)
      replace bA := bA.keep hB
      replace bB := bB.keep hB
      replace fA := fA.keep hB
      replace fB := fB.keep hB
      replace rx := rx.keep hB
      replace ry := ry.keep hB
      clear hB
      obtain ⟨-, k0, k1⟩ := id bA
      obtain ⟨-, k2, k3⟩ := id bB
      go_wp2
      go_ret
      exact ⟨by rw [HC.out]; rfl, hW⟩
    | true =>
      have HC : Hid (cmpA p xs q ys = cmpR p (val xs) q (val ys)) := by unfold cmpA; exact if_pos ⟨hoA, hoB⟩
      have hnA := okB_norm hoA
      have hnB := okB_norm hoB
      have hpA : p = true → 0 < val xs := fun e => by subst e; exact okB_pos hzx hoA
      have hpB : q = true → 0 < val ys := fun e => by subst e; exact okB_pos hzy hoB
      have hokA := fun W h => bigOk_any p (.slice a xs.length cap) xs W h
      rw [hoA] at hokA
      have hokB := fun W h => bigOk_any q (.slice a' ys.length cap') ys W h
      rw [hoB] at hokB
      clear hoA hoB
      have hCA := fun W h1 h2 => compare_any (.slice a xs.length cap) (.slice a' ys.length cap') xs ys W h1 h2 hnA.1 hnB.1
      have hCB := fun W h1 h2 => compare_any (.slice a' ys.length cap') (.slice a xs.length cap) ys xs W h1 h2 hnB.1 hnA.1
      by_cases hpq : p = q
      · subst hpq
        cases p with
        | true =>
          have HR : Hid (cmpA true xs true ys = cmpN (val ys) (val xs)) := HC.out
          generalize cmpA true xs true ys = r at HR ⊢
          generalize cmpN (val ys) (val xs) = cn at HR hCB
          clear HC hpA hpB hnA hnB hCA
          go_enter Try.func30, Try.ntmps30
          go_wp2_with fail
          refine (hokA _ rx).mono ?_
          rintro e w1 ⟨rfl, hB⟩
          replace hW := hW.trans (hB.mono hW.size)
          replace bA := bA.keep hB
          replace bB := bB.keep hB
          replace fA := fA.keep hB
          replace fB := fB.keep hB
          replace rx := rx.keep hB
          replace ry := ry.keep hB
          clear hB
          obtain ⟨-, k0, k1⟩ := id bA
          obtain ⟨-, k2, k3⟩ := id bB
          go_wp2_with fail
          refine (hokB _ ry).mono ?_
          rintro e w2 ⟨rfl, hB⟩
          clear k0 k1 k2 k3
          replace hW := hW.trans (hB.mono hW.size)
          replace bA := bA.keep hB
          replace bB := bB.keep hB
          replace fA := fA.keep hB
          replace fB := fB.keep hB
          replace rx := rx.keep hB
          replace ry := ry.keep hB
          clear hB
          obtain ⟨-, k0, k1⟩ := id bA
          obtain ⟨-, k2, k3⟩ := id bB
          clear hokA hokB
          have fa := fA.2 0
          have fb := fA.2 1
          have fc := fB.2 0
          have fd := fB.2 1
          go_wp2_with fail
          have hW9 := (((hW.setCell (p := ⟨w.heap.size, 0, none⟩) (Nat.le_refl _) (.bool true)).setCell (p := ⟨w.heap.size, 1, none⟩) (Nat.le_refl _) (.slice a' ys.length cap')).setCell (p := ⟨w.heap.size + 1, 0, none⟩) (Nat.le_succ _) (.bool true)).setCell (p := ⟨w.heap.size + 1, 1, none⟩) (Nat.le_succ _) (.slice a xs.length cap)
          refine (hCB _ (hy'.keep hW9) (hx'.keep hW9)).mono ?_
          rintro e w3 ⟨rfl, hB⟩
          go_wp2
          go_ret
          exact ⟨by rw [HR.out]; rfl, hW9.trans (hB.mono hW9.size)⟩
        | false =>
          have HR : Hid (cmpA false xs false ys = cmpN (val xs) (val ys)) := HC.out
          generalize cmpA false xs false ys = r at HR ⊢
          generalize cmpN (val xs) (val ys) = cn at HR hCA
          clear HC hpA hpB hnA hnB hCB
          go_enter Try.func30, Try.ntmps30
          go_wp2_with fail
          refine (hokA _ rx).mono ?_
          rintro e w1 ⟨rfl, hB⟩
          replace hW := hW.trans (hB.mono hW.size)
          replace bA := bA.keep hB
          replace bB := bB.keep hB
          replace fA := fA.keep hB
          replace fB := fB.keep hB
          replace rx := rx.keep hB
          replace ry := ry.keep hB
          clear hB
          obtain ⟨-, k0, k1⟩ := id bA
          obtain ⟨-, k2, k3⟩ := id bB
          go_wp2_with fail
          refine (hokB _ ry).mono ?_
          rintro e w2 ⟨rfl, hB⟩
          clear k0 k1 k2 k3
          replace hW := hW.trans (hB.mono hW.size)
          replace bA := bA.keep hB
          replace bB := bB.keep hB
          replace fA := fA.keep hB
          replace fB := fB.keep hB
          replace rx := rx.keep hB
          replace ry := ry.keep hB
          clear hB
          obtain ⟨-, k0, k1⟩ := id bA
          obtain ⟨-, k2, k3⟩ := id bB
          clear hokA hokB
          go_wp2_with fail
          refine (hCA _ rx ry).mono ?_
          rintro e w3 ⟨rfl, hB⟩
          go_wp2
          go_ret
          exact ⟨by rw [HR.out]; rfl, hW.trans (hB.mono hW.size)⟩
      · have HR : Hid (cmpA p xs q ys = if p = true then -1 else 1) := by
          show _ = _
          rw [HC.out]; unfold cmpR; rw [if_neg hpq]
        generalize cmpA p xs q ys = r at HR ⊢
        have hpqb : (p == q) = false := by cases p <;> cases q <;> simp_all
        clear HC hpA hpB hnA hnB hCA hCB hpq
        cases p with
        | true =>
          go_enter Try.func30, Try.ntmps30
          go_wp2_with fail
          refine (hokA _ rx).mono ?_
          rintro e w1 ⟨rfl, hB⟩
          replace hW := hW.trans (hB.mono hW.size)
          replace bA := bA.keep hB
          replace bB := bB.keep hB
          replace fA := fA.keep hB
          replace fB := fB.keep hB
          replace rx := rx.keep hB
          replace ry := ry.keep hB
          clear hB
          obtain ⟨-, k0, k1⟩ := id bA
          obtain ⟨-, k2, k3⟩ := id bB
          go_wp2_with fail
          refine (hokB _ ry).mono ?_
          rintro e w2 ⟨rfl, hB⟩
          clear k0 k1 k2 k3
          replace hW := hW.trans (hB.mono hW.size)
          replace bA := bA.keep hB
          replace bB := bB.keep hB
          replace fA := fA.keep hB
          replace fB := fB.keep hB
          replace rx := rx.keep hB
          replace ry := ry.keep hB
          clear hB
          obtain ⟨-, k0, k1⟩ := id bA
          obtain ⟨-, k2, k3⟩ := id bB
          clear hokA hokB
          go_wp2
          go_ret
          exact ⟨by rw [HR.out]; rfl, hW⟩
        | false =>
          go_enter Try.func30, Try.ntmps30
          go_wp2_with fail
          refine (hokA _ rx).mono ?_
          rintro e w1 ⟨rfl, hB⟩
          replace hW := hW.trans (hB.mono hW.size)
          replace bA := bA.keep hB
          replace bB := bB.keep hB
          replace fA := fA.keep hB
          replace fB := fB.keep hB
          replace rx := rx.keep hB
          replace ry := ry.keep hB
          clear hB
          obtain ⟨-, k0, k1⟩ := id bA
          obtain ⟨-, k2, k3⟩ := id bB
          go_wp2_with fail
          refine (hokB _ ry).mono ?_
          rintro e w2 ⟨rfl, hB⟩
          clear k0 k1 k2 k3
          replace hW := hW.trans (hB.mono hW.size)
          replace bA := bA.keep hB
          replace bB := bB.keep hB
          replace fA := fA.keep hB
          replace fB := fB.keep hB
          replace rx := rx.keep hB
          replace ry := ry.keep hB
          clear hB
          obtain ⟨-, k0, k1⟩ := id bA
          obtain ⟨-, k2, k3⟩ := id bB
          clear hokA hokB
          go_wp2
          go_ret
          exact ⟨by rw [HR.out]; rfl, hW⟩
end Go.Proofs.Ytkmbmbeglemocaa
