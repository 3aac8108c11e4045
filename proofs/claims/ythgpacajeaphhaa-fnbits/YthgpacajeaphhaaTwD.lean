import Derived.Test.YthgpacajeaphhaaDgD
import Derived.Test.YthgpacajeaphhaaOf
import Derived.Test.YthgpacajeaphhaaFit
import Derived.Test.YthgpacajeaphhaaTwT
import Derived.Test.YthgpacajeaphhaaTwC
import Derived.Deep.RegionHeld3
namespace Go.Proofs.Ythgpacajeaphhaa
open Go.RowKit
set_option linter.unusedVariables false
set_option linter.unusedSimpArgs false

def Two (w : World) (g : Nat) (a : Option Addr) (n c : Nat) (bs : List Int) (e : Ending) (w' : World) : Prop := ∃ p ad cp xs q ad' cp' ys, e = .returned (.tuple #[.agg #[.bool p, .slice ad (List.length xs) cp], .agg #[.bool q, .slice ad' (List.length ys) cp']]) ∧ Own w' w.heap.size (.slice ad (List.length xs) cp) xs ∧ Own w' w.heap.size (.slice ad' (List.length ys) cp') ys ∧ Drawn w w' g a n c bs
theorem two_end {w W : World} {g : Nat} {a : Option Addr} {n c : Nat} {bs : List Int} (hR : Rdr w g a n c bs) (D : Drawn w W g a n c bs) {p : Bool} {ad : Option Addr} {cp : Nat} {xs : List Int} {q : Bool} {ad' : Option Addr} {cp' : Nat} {ys : List Int} (u0 u1 u2 u3 : Value) (hx : Own W (w.heap.size + 2) (.slice ad xs.length cp) xs) (hy : Own W (w.heap.size + 2) (.slice ad' ys.length cp') ys) :
    Two w g a n c bs (.returned (.tuple #[.agg #[.bool p, .slice ad xs.length cp], .agg #[.bool q, .slice ad' ys.length cp']])) ((((W.setCell ⟨w.heap.size, 0, none⟩ u0).setCell ⟨w.heap.size, 1, none⟩ u1).setCell ⟨w.heap.size + 1, 0, none⟩ u2).setCell ⟨w.heap.size + 1, 1, none⟩ u3) := by
  have s0 : w.heap.size < w.heap.size + 2 := by omega
  have s1 : w.heap.size + 1 < w.heap.size + 2 := by omega
  refine ⟨p, ad, cp, xs, q, ad', cp', ys, rfl, ?_, ?_, D.belowB hR ?_⟩
  · exact ((((hx.setBelow (a := ⟨w.heap.size, 0, none⟩) s0 u0).setBelow (a := ⟨w.heap.size, 1, none⟩) s0 u1).setBelow (a := ⟨w.heap.size + 1, 0, none⟩) s1 u2).setBelow (a := ⟨w.heap.size + 1, 1, none⟩) s1 u3).mono (by omega)
  · exact ((((hy.setBelow (a := ⟨w.heap.size, 0, none⟩) s0 u0).setBelow (a := ⟨w.heap.size, 1, none⟩) s0 u1).setBelow (a := ⟨w.heap.size + 1, 0, none⟩) s1 u2).setBelow (a := ⟨w.heap.size + 1, 1, none⟩) s1 u3).mono (by omega)
  · have h1 : Below w.heap.size W (W.setCell ⟨w.heap.size, 0, none⟩ u0) := (Below.refl _ W).setCell (show w.heap.size ≤ (⟨w.heap.size, 0, none⟩ : Addr).block from Nat.le_refl _) u0
    have h2 := h1.setCell (show w.heap.size ≤ (⟨w.heap.size, 1, none⟩ : Addr).block from Nat.le_refl _) u1
    have h3 := h2.setCell (show w.heap.size ≤ (⟨w.heap.size + 1, 0, none⟩ : Addr).block from Nat.le_succ _) u2
    exact h3.setCell (show w.heap.size ≤ (⟨w.heap.size + 1, 1, none⟩ : Addr).block from Nat.le_succ _) u3

theorem own_ne_lt {v : Value} {X B : Nat} (h : ∀ k, v.ownBlock = some k → k < X) (h2 : X ≤ B) : v.ownBlock = none ∨ v.ownBlock ≠ some B := .inr (fun e => by have := h _ e; omega)
theorem own_ne_gt {v : Value} {X B N : Nat} (h : ∀ k, v.ownBlock = some k → X ≤ k ∧ k < N) (h2 : B < X) : v.ownBlock = none ∨ v.ownBlock ≠ some B := .inr (fun e => by have := h _ e; omega)
set_option maxRecDepth 100000 in
set_option maxHeartbeats 8000000 in
theorem drawTwo_any (w : World) (g : Nat) (a : Option Addr) (n c : Nat) (bs : List Int) (hR : Rdr w g a n c bs) :
    Calls Try.prog 27 #[.pointer (some ⟨g, 0, none⟩)] w fun e w' => Two w g a n c bs e w' := by
  have hgl := hR.lt
  have hA0 : Below w.heap.size w ((w.alloc (Obj.cells #[.bool false, .slice none 0 0] 26)).alloc (Obj.cells #[.bool false, .slice none 0 0] 26)) := ((Below.refl _ w).alloc (Nat.le_refl _) _).alloc (by simp) _
  have X0 := (Rbx.new w).at ((Below.refl _ _).alloc (Nat.le_refl _) (Obj.cells #[.bool false, .slice none 0 0] 26)) (show w.heap.size < _ by simp)
  have Y0 := Rbx.new (w.alloc (Obj.cells #[.bool false, .slice none 0 0] 26))
  have D0 := (Drawn.refl hR).below hA0
  have s0 : ((w.alloc (Obj.cells #[.bool false, .slice none 0 0] 26)).alloc (Obj.cells #[.bool false, .slice none 0 0] 26)).heap.size = w.heap.size + 2 := by simp
  simp only [World.size_alloc] at Y0
  clear hA0
  generalize hW0 : (w.alloc (Obj.cells #[.bool false, .slice none 0 0] 26)).alloc (Obj.cells #[.bool false, .slice none 0 0] 26) = W0 at X0 Y0 D0 s0
  go_enter Try.func27, Try.ntmps27
  go_upto_region 1 with fail
  clear hW0
  go_wp2_with fail
  refine (drawBig_any W0 g a n c bs D0.rd).mono ?_
  rintro e w1 ⟨p, ad, cp, xs, rfl, hl, hO, hD⟩
  have al : Below w1.heap.size w1 (w1.alloc (.cells #[.bool p, .slice ad xs.length cp] 26)) := (Below.refl _ _).alloc (Nat.le_refl _) _
  have bA := Box.new w1 (.bool p) (.slice ad xs.length cp) 26
  have X2 := (X0.gb hD.gb (by omega)).at al (X0.gb hD.gb (by omega)).lt
  have Y2 := (Y0.gb hD.gb (by omega)).at al (Y0.gb hD.gb (by omega)).lt
  have D2 := (D0.trans hD).below al
  have O2 := hO.alloc (.cells #[.bool p, .slice ad xs.length cp] 26)
  have s1 := hD.gb.size
  have hbA : ∀ k, (Value.slice ad xs.length cp).ownBlock = some k → k < w1.heap.size := fun k e => (hO.lt k e).2
  have s2 : (w1.alloc (.cells #[.bool p, .slice ad xs.length cp] 26)).heap.size = w1.heap.size + 1 := by simp
  clear X0 Y0 D0 hO hD al
  generalize hw2 : w1.alloc (.cells #[.bool p, .slice ad xs.length cp] 26) = w2 at bA X2 Y2 D2 O2 s2
  generalize hXA : w1.heap.size = XA at bA s1 s2 hbA
  go_upto_region 2 with fail
  clear hw2 hXA
  go_wp2_with fail
  refine (drawBig_any w2 g a n c bs D2.rd).mono ?_
  rintro e w3 ⟨q, ad', cp', ys, rfl, hl', hO', hD⟩
  have al : Below w3.heap.size w3 (w3.alloc (.cells #[.bool q, .slice ad' ys.length cp'] 26)) := (Below.refl _ _).alloc (Nat.le_refl _) _
  have bB := Box.new w3 (.bool q) (.slice ad' ys.length cp') 26
  have fB := Unf.new w3 #[.bool q, .slice ad' ys.length cp'] 26
  have bA4 := (bA.but hD.gb (by simp; omega)).keep al
  have X4 := (X2.gb hD.gb (by omega)).at al (X2.gb hD.gb (by omega)).lt
  have Y4 := (Y2.gb hD.gb (by omega)).at al (Y2.gb hD.gb (by omega)).lt
  have D4 := (D2.trans hD).below al
  have O4 := (O2.drawn (by omega) hD).alloc (.cells #[.bool q, .slice ad' ys.length cp'] 26)
  have P4 := hO'.alloc (.cells #[.bool q, .slice ad' ys.length cp'] 26)
  have s3 := hD.gb.size
  have s4 : (w3.alloc (.cells #[.bool q, .slice ad' ys.length cp'] 26)).heap.size = w3.heap.size + 1 := by simp
  clear X2 Y2 D2 O2 hO' hD al bA
  generalize hw4 : w3.alloc (.cells #[.bool q, .slice ad' ys.length cp'] 26) = w4 at bA4 bB fB X4 Y4 D4 O4 P4 s4
  generalize hXB : w3.heap.size = XB at bB fB s3 s4
  go_upto_region 3 with fail
  clear hw4 hXB
  go_wp2_with fail
  refine (below_any w4 g a n c bs 10 (by omega) (by omega) D4.rd).mono ?_
  rintro e w5 ⟨x, rfl, hx, hD⟩
  have bA5 := bA4.but hD.gb (by simp; omega)
  have bB5 := bB.but hD.gb (by simp; omega)
  have fB5 := fB.but' hD.gb (by simp; omega)
  have X5 := X4.gb hD.gb (by omega)
  have Y5 := Y4.gb hD.gb (by omega)
  have D5 := D4.trans hD
  have O5 := O4.drawn (by omega) hD
  have P5 := P4.drawn (by omega) hD
  have s5 := hD.gb.size
  clear bA4 bB fB X4 Y4 D4 O4 P4 hD
  by_cases h0 : x = 0
  · subst h0
    obtain ⟨lA, k0, k1⟩ := id bA5
    have HC := copy_any p _ xs w5 O5.rd
    go_wp2_with fail
    refine HC.mono ?_
    rintro e w6 ⟨a6, c6, rfl, hO6, hB6⟩
    clear HC
    have s6 := hB6.size
    obtain ⟨q6, hq6⟩ : ∃ q6, p = q6 := ⟨_, rfl⟩
    obtain ⟨zs, hzs⟩ : ∃ zs, xs = zs := ⟨_, rfl⟩
    have hzs2 := congrArg List.length hzs
    rw [show (Value.agg #[.bool p, .slice a6 xs.length c6]) = .agg #[.bool q6, .slice a6 zs.length c6] from by rw [hq6, hzs]]
    rw [hzs] at hO6
    clear hzs hzs2 hq6
    have b6 : Box w6 XB (.bool q) (.slice ad' ys.length cp') := bB5.keep hB6
    have f6 := (fB5.keep hB6).2
    have gX : w6.grownBy ((w6.setCell ⟨XB, 0, none⟩ (.bool q6)).setCell ⟨XB, 1, none⟩ (.slice a6 zs.length c6)) (some XB) := gb_trans (gb_set _ _ _ _) (gb_set _ _ _ _)
    have bB6 := Box.set b6 (.bool q6) (.slice a6 zs.length c6)
    have bA6 := (bA5.keep hB6).but gX (by simp; omega)
    have X6 := (X5.at hB6 X5.lt).gb gX (by omega)
    have Y6 := (Y5.at hB6 Y5.lt).gb gX (by omega)
    have D6 := (D5.below hB6).belowB hR (gb_to gX (fun k hk => by cases hk; omega) (by omega))
    have O6 := ((O5.keep hB6).but gX (own_ne_lt hbA (by omega))).mono (B' := w.heap.size + 2) (by omega)
    have P6 := (hO6.but gX (own_ne_gt (hO6.lt) (by omega))).mono (B' := w.heap.size + 2) (by omega)
    obtain ⟨lB, j0, j1⟩ := id b6
    have g0 := f6 0
    have g1 := f6 1
    generalize hw7 : (w6.setCell ⟨XB, 0, none⟩ (.bool q6)).setCell ⟨XB, 1, none⟩ (.slice a6 zs.length c6) = w7 at bB6 bA6 X6 Y6 D6 O6 P6
    clear X5 Y5 D5 O5 P5 bA5 bB5 fB5 gX hO6 hB6 b6 f6 lA k0 k1
    obtain ⟨zl, hzl⟩ : ∃ zl, zs.length = zl := ⟨_, rfl⟩
    have HZL : Hid (zs.length = zl) := hzl
    rw [hzl] at hw7 bB6 P6 ⊢
    clear hzl
    go_upto_region 10 with fail
    clear hw7 j0 j1 g0 g1 lB
    rw [← HZL.out] at bB6 P6 ⊢
    clear HZL

    obtain ⟨lA, k0, k1⟩ := id bA6
    obtain ⟨lB, k2, k3⟩ := id bB6
    obtain ⟨lX, c0, c1, f0, f1⟩ := id X6
    obtain ⟨lY, c2, c3, f2, f3⟩ := id Y6
    have hE := fun u0 u1 u2 u3 => two_end (p := p) (q := q6) hR D6 u0 u1 u2 u3 O6 P6
    have hE2 := fun u0 u1 u2 u3 => two_end (p := p) (q := q6) hR (D6.below (Below.refl _ _).drew) u0 u1 u2 u3 O6.drew P6.drew
    have n1 : ¬ (w.heap.size + 1 = w.heap.size) := by omega
    have n2 : ¬ (w.heap.size = w.heap.size + 1) := by omega
    have n3 : ¬ (XA = w.heap.size) := by omega
    have n4 : ¬ (XB = w.heap.size) := by omega
    have n5 : ¬ (XA = w.heap.size + 1) := by omega
    have n6 : ¬ (XB = w.heap.size + 1) := by omega
    have n7 : ¬ (w.heap.size = XA) := by omega
    have n8 : ¬ (w.heap.size = XB) := by omega
    have n9 : ¬ (w.heap.size + 1 = XA) := by omega
    have n10 : ¬ (w.heap.size + 1 = XB) := by omega
    clear bA6 bB6 X6 Y6 D6 O6 P6
    generalize hXL : xs.length = XL at *
    generalize hZL : zs.length = ZL at *
    go_region_held3 (fun W => W.cell? ⟨XA, 0, none⟩ = some (.bool p) ∧ W.cell? ⟨XA, 1, none⟩ = some (.slice ad XL cp) ∧ W.cell? ⟨XB, 0, none⟩ = some (.bool q6) ∧ W.cell? ⟨XB, 1, none⟩ = some (.slice a6 ZL c6)) (go_keep) (fail)
    all_goals go_wp2
    all_goals refine bodyPost_ret (v := .tuple #[.agg #[.bool p, .slice ad XL cp], .agg #[.bool q6, .slice a6 ZL c6]]) (by simp [results, Try.results27, go_sem, c0, c1, c2, c3, lX, lY, f0, f1, f2, f3, n1, n2]) rfl ?_
    all_goals first | exact hE _ _ _ _ | exact hE2 _ _ _ _
  by_cases h1 : x = 1
  · subst h1
    obtain ⟨lA, k0, k1⟩ := id bA5
    have HC := l1Minus_any p _ xs w5 O5.rd
    generalize nz (!p) (val xs) = q6 at HC
    generalize lim (val xs) = zs at HC
    go_wp2_with fail
    refine HC.mono ?_
    rintro e w6 ⟨a6, c6, rfl, hO6, hB6⟩
    clear HC
    have s6 := hB6.size
    have b6 : Box w6 XB (.bool q) (.slice ad' ys.length cp') := bB5.keep hB6
    have f6 := (fB5.keep hB6).2
    have gX : w6.grownBy ((w6.setCell ⟨XB, 0, none⟩ (.bool q6)).setCell ⟨XB, 1, none⟩ (.slice a6 zs.length c6)) (some XB) := gb_trans (gb_set _ _ _ _) (gb_set _ _ _ _)
    have bB6 := Box.set b6 (.bool q6) (.slice a6 zs.length c6)
    have bA6 := (bA5.keep hB6).but gX (by simp; omega)
    have X6 := (X5.at hB6 X5.lt).gb gX (by omega)
    have Y6 := (Y5.at hB6 Y5.lt).gb gX (by omega)
    have D6 := (D5.below hB6).belowB hR (gb_to gX (fun k hk => by cases hk; omega) (by omega))
    have O6 := ((O5.keep hB6).but gX (own_ne_lt hbA (by omega))).mono (B' := w.heap.size + 2) (by omega)
    have P6 := (hO6.but gX (own_ne_gt (hO6.lt) (by omega))).mono (B' := w.heap.size + 2) (by omega)
    obtain ⟨lB, j0, j1⟩ := id b6
    have g0 := f6 0
    have g1 := f6 1
    generalize hw7 : (w6.setCell ⟨XB, 0, none⟩ (.bool q6)).setCell ⟨XB, 1, none⟩ (.slice a6 zs.length c6) = w7 at bB6 bA6 X6 Y6 D6 O6 P6
    clear X5 Y5 D5 O5 P5 bA5 bB5 fB5 gX hO6 hB6 b6 f6 lA k0 k1
    obtain ⟨zl, hzl⟩ : ∃ zl, zs.length = zl := ⟨_, rfl⟩
    have HZL : Hid (zs.length = zl) := hzl
    rw [hzl] at hw7 bB6 P6 ⊢
    clear hzl
    go_upto_region 10 with fail
    clear hw7 j0 j1 g0 g1 lB
    rw [← HZL.out] at bB6 P6 ⊢
    clear HZL

    obtain ⟨lA, k0, k1⟩ := id bA6
    obtain ⟨lB, k2, k3⟩ := id bB6
    obtain ⟨lX, c0, c1, f0, f1⟩ := id X6
    obtain ⟨lY, c2, c3, f2, f3⟩ := id Y6
    have hE := fun u0 u1 u2 u3 => two_end (p := p) (q := q6) hR D6 u0 u1 u2 u3 O6 P6
    have hE2 := fun u0 u1 u2 u3 => two_end (p := p) (q := q6) hR (D6.below (Below.refl _ _).drew) u0 u1 u2 u3 O6.drew P6.drew
    have n1 : ¬ (w.heap.size + 1 = w.heap.size) := by omega
    have n2 : ¬ (w.heap.size = w.heap.size + 1) := by omega
    have n3 : ¬ (XA = w.heap.size) := by omega
    have n4 : ¬ (XB = w.heap.size) := by omega
    have n5 : ¬ (XA = w.heap.size + 1) := by omega
    have n6 : ¬ (XB = w.heap.size + 1) := by omega
    have n7 : ¬ (w.heap.size = XA) := by omega
    have n8 : ¬ (w.heap.size = XB) := by omega
    have n9 : ¬ (w.heap.size + 1 = XA) := by omega
    have n10 : ¬ (w.heap.size + 1 = XB) := by omega
    clear bA6 bB6 X6 Y6 D6 O6 P6
    generalize hXL : xs.length = XL at *
    generalize hZL : zs.length = ZL at *
    go_region_held3 (fun W => W.cell? ⟨XA, 0, none⟩ = some (.bool p) ∧ W.cell? ⟨XA, 1, none⟩ = some (.slice ad XL cp) ∧ W.cell? ⟨XB, 0, none⟩ = some (.bool q6) ∧ W.cell? ⟨XB, 1, none⟩ = some (.slice a6 ZL c6)) (go_keep) (fail)
    all_goals go_wp2
    all_goals refine bodyPost_ret (v := .tuple #[.agg #[.bool p, .slice ad XL cp], .agg #[.bool q6, .slice a6 ZL c6]]) (by simp [results, Try.results27, go_sem, c0, c1, c2, c3, lX, lY, f0, f1, f2, f3, n1, n2]) rfl ?_
    all_goals first | exact hE _ _ _ _ | exact hE2 _ _ _ _
  by_cases h2 : x = 2
  · subst h2
    obtain ⟨lA, k0, k1⟩ := id bA5
    have HB := below_any w5.drew g a n c bs 3 (by omega) (by omega) (D5.below (Below.refl _ _).drew).rd
    have HO : ∀ (y : Nat) (W : World), y < 3 → Calls Try.prog 36 #[.int .i64 (IntKind.i64.wrap ((y : Int) - 1))] W fun e w' => ∃ q a c L, e = .returned (.agg #[.bool q, .slice a (List.length L) c]) ∧ L.length ≤ 1 ∧ Own w' W.heap.size (.slice a (List.length L) c) L ∧ Below W.heap.size W w' := fun y W h => by
      have hwr : ∀ y : Nat, y < 3 → IntKind.i64.wrap ((y : Int) - 1) = (y : Int) - 1 := fun y h => by
        match y, h with
        | 0, _ => rfl
        | 1, _ => rfl
        | 2, _ => rfl
      rw [hwr y h]
      refine (bigOfS_any ((y : Int) - 1) W (by omega) (by omega)).mono ?_
      rintro e w' ⟨a, c, rfl, h1, h2⟩
      exact ⟨_, a, c, _, rfl, lim_length_le (by omega), h1, h2⟩
    have HS := fun (W : World) (q : Bool) (v u : Value) (L : List Int) (h1 : Rd W v xs) (h2 : Rd W u L) (h3 : L.length ≤ 1) => sumW_any p q v u xs L W h1 h2 (by omega) (by omega)
    have sd : w5.drew.heap.size = w5.heap.size := rfl
    have nAB : ¬ (XA = XB) := by omega
    have nBA : ¬ (XB = XA) := by omega
    go_upto_region 9 with fail
    go_region_held3 (fun W => W.cell? ⟨XA, 0, none⟩ = some (.bool p) ∧ W.cell? ⟨XA, 1, none⟩ = some (.slice ad xs.length cp)) (go_keep) (first | (go_at_call 37; refine HB.mono ?_; rintro e v6 ⟨y, rfl, hy, hD6⟩; have bA6 := bA5.drew.but hD6.gb (by simp; omega); obtain ⟨-, x0, x1⟩ := id bA6; have t6 := hD6.gb.size; have D6 := (D5.below (Below.refl _ _).drew).trans hD6; have O6 := O5.drew.drawn (by omega) hD6; have bB6 := bB5.drew.but hD6.gb (by simp; omega); have fB6 := fB5.drew.but' hD6.gb (by simp; omega); have X6 := (X5.at (Below.refl _ _).drew X5.lt).gb hD6.gb (by omega); have Y6 := (Y5.at (Below.refl _ _).drew Y5.lt).gb hD6.gb (by omega)) | (go_at_call 36; refine (HO y _ hy).mono ?_; rintro e v7 ⟨q7, a7, c7, L7, rfl, hL7, hO7, hB7⟩; have bA7 := bA6.keep hB7; obtain ⟨-, x2, x3⟩ := id bA7; have O7 := O6.keep hB7; have t7 := hB7.size) | (go_at_call 60; refine (HS _ _ _ _ _ O7.rd hO7.rd hL7).mono ?_; rintro e w6 ⟨q6, a6, c6, zs, rfl, hO6, hB6⟩; have bA8 := bA7.keep hB6; obtain ⟨-, x4, x5⟩ := id bA8; have t8 := hB6.size; have hz8 := ((fB6.keep hB7).keep hB6).2; obtain ⟨hy8, y0, y1⟩ := (bB6.keep hB7).keep hB6))
    all_goals (

    have b6 : Box w6 XB (.bool q) (.slice ad' ys.length cp') := (bB6.keep hB7).keep hB6
    have f6 := ((fB6.keep hB7).keep hB6).2
    have gX : w6.grownBy ((w6.setCell ⟨XB, 0, none⟩ (.bool q6)).setCell ⟨XB, 1, none⟩ (.slice a6 zs.length c6)) (some XB) := gb_trans (gb_set _ _ _ _) (gb_set _ _ _ _)
    have bB6z := Box.set b6 (.bool q6) (.slice a6 zs.length c6)
    have bA6z := ((bA6.keep hB7).keep hB6).but gX (by simp; omega)
    have X6z := ((X6.at hB7 X6.lt).at hB6 (X6.at hB7 X6.lt).lt).gb gX (by omega)
    have Y6z := ((Y6.at hB7 Y6.lt).at hB6 (Y6.at hB7 Y6.lt).lt).gb gX (by omega)
    have D6z := ((D6.below hB7).below hB6).belowB hR (gb_to gX (fun k hk => by cases hk; omega) (by omega))
    have O6z := ((O7.keep hB6).but gX (own_ne_lt hbA (by omega))).mono (B' := w.heap.size + 2) (by omega)
    have P6 := (hO6.but gX (own_ne_gt (hO6.lt) (by omega))).mono (B' := w.heap.size + 2) (by omega)
    obtain ⟨lB, j0, j1⟩ := id b6
    have g0 := f6 0
    have g1 := f6 1
    generalize hw7 : (w6.setCell ⟨XB, 0, none⟩ (.bool q6)).setCell ⟨XB, 1, none⟩ (.slice a6 zs.length c6) = w7 at bB6z bA6z X6z Y6z D6z O6z P6
    clear X6 Y6 D6 O6 bA6 bB6
    have bA6 := bA6z
    have bB6 := bB6z
    have X6 := X6z
    have Y6 := Y6z
    have D6 := D6z
    have O6 := O6z
    clear bA6z bB6z X6z Y6z D6z O6z
    clear X5 Y5 D5 O5 P5 bA5 bB5 fB5 gX hO6 hB6 b6 f6 lA k0 k1 bA7 O7 hO7 hB7 hD6 fB6 x0 x1 x2 x3 bA8 x4 x5 hz8 hy8 y0 y1 HB HO HS
    obtain ⟨zl, hzl⟩ : ∃ zl, zs.length = zl := ⟨_, rfl⟩
    have HZL : Hid (zs.length = zl) := hzl
    rw [hzl] at hw7 bB6 P6 ⊢
    clear hzl
    go_upto_region 10 with fail
    clear hw7 j0 j1 g0 g1 lB
    rw [← HZL.out] at bB6 P6 ⊢
    clear HZL

    obtain ⟨lA, k0, k1⟩ := id bA6
    obtain ⟨lB, k2, k3⟩ := id bB6
    obtain ⟨lX, c0, c1, f0, f1⟩ := id X6
    obtain ⟨lY, c2, c3, f2, f3⟩ := id Y6
    have hE := fun u0 u1 u2 u3 => two_end (p := p) (q := q6) hR D6 u0 u1 u2 u3 O6 P6
    have hE2 := fun u0 u1 u2 u3 => two_end (p := p) (q := q6) hR (D6.below (Below.refl _ _).drew) u0 u1 u2 u3 O6.drew P6.drew
    have n1 : ¬ (w.heap.size + 1 = w.heap.size) := by omega
    have n2 : ¬ (w.heap.size = w.heap.size + 1) := by omega
    have n3 : ¬ (XA = w.heap.size) := by omega
    have n4 : ¬ (XB = w.heap.size) := by omega
    have n5 : ¬ (XA = w.heap.size + 1) := by omega
    have n6 : ¬ (XB = w.heap.size + 1) := by omega
    have n7 : ¬ (w.heap.size = XA) := by omega
    have n8 : ¬ (w.heap.size = XB) := by omega
    have n9 : ¬ (w.heap.size + 1 = XA) := by omega
    have n10 : ¬ (w.heap.size + 1 = XB) := by omega
    clear bA6 bB6 X6 Y6 D6 O6 P6
    generalize hXL : xs.length = XL at *
    generalize hZL : zs.length = ZL at *
    go_region_held3 (fun W => W.cell? ⟨XA, 0, none⟩ = some (.bool p) ∧ W.cell? ⟨XA, 1, none⟩ = some (.slice ad XL cp) ∧ W.cell? ⟨XB, 0, none⟩ = some (.bool q6) ∧ W.cell? ⟨XB, 1, none⟩ = some (.slice a6 ZL c6)) (go_keep) (fail)
    all_goals go_wp2
    all_goals refine bodyPost_ret (v := .tuple #[.agg #[.bool p, .slice ad XL cp], .agg #[.bool q6, .slice a6 ZL c6]]) (by simp [results, Try.results27, go_sem, c0, c1, c2, c3, lX, lY, f0, f1, f2, f3, n1, n2]) rfl ?_
    all_goals first | exact hE _ _ _ _ | exact hE2 _ _ _ _
)
  · have e0 : ¬ (x : Int) = 0 := by omega
    have e1 : ¬ (x : Int) = 1 := by omega
    have e2 : ¬ (x : Int) = 2 := by omega
    have r0 : ((x : Int) == 0) = false := by simp; omega
    have r1 : ((x : Int) == 1) = false := by simp; omega
    have r2 : ((x : Int) == 2) = false := by simp; omega
    go_upto_region 10 with fail
    have bA6 := bA5
    have bB6 := bB5
    have X6 := X5
    have Y6 := Y5
    have D6 := D5
    have O6 := O5.mono (B' := w.heap.size + 2) (by omega)
    have P6 := P5.mono (B' := w.heap.size + 2) (by omega)
    clear X5 Y5 D5 O5 P5 bA5 bB5 fB5
    generalize hq : q = q6 at *
    generalize ha : ad' = a6 at *
    generalize hc : cp' = c6 at *
    generalize hz : ys = zs at *

    obtain ⟨lA, k0, k1⟩ := id bA6
    obtain ⟨lB, k2, k3⟩ := id bB6
    obtain ⟨lX, c0, c1, f0, f1⟩ := id X6
    obtain ⟨lY, c2, c3, f2, f3⟩ := id Y6
    have hE := fun u0 u1 u2 u3 => two_end (p := p) (q := q6) hR D6 u0 u1 u2 u3 O6 P6
    have hE2 := fun u0 u1 u2 u3 => two_end (p := p) (q := q6) hR (D6.below (Below.refl _ _).drew) u0 u1 u2 u3 O6.drew P6.drew
    have n1 : ¬ (w.heap.size + 1 = w.heap.size) := by omega
    have n2 : ¬ (w.heap.size = w.heap.size + 1) := by omega
    have n3 : ¬ (XA = w.heap.size) := by omega
    have n4 : ¬ (XB = w.heap.size) := by omega
    have n5 : ¬ (XA = w.heap.size + 1) := by omega
    have n6 : ¬ (XB = w.heap.size + 1) := by omega
    have n7 : ¬ (w.heap.size = XA) := by omega
    have n8 : ¬ (w.heap.size = XB) := by omega
    have n9 : ¬ (w.heap.size + 1 = XA) := by omega
    have n10 : ¬ (w.heap.size + 1 = XB) := by omega
    clear bA6 bB6 X6 Y6 D6 O6 P6
    generalize hXL : xs.length = XL at *
    generalize hZL : zs.length = ZL at *
    go_region_held3 (fun W => W.cell? ⟨XA, 0, none⟩ = some (.bool p) ∧ W.cell? ⟨XA, 1, none⟩ = some (.slice ad XL cp) ∧ W.cell? ⟨XB, 0, none⟩ = some (.bool q6) ∧ W.cell? ⟨XB, 1, none⟩ = some (.slice a6 ZL c6)) (go_keep) (fail)
    all_goals go_wp2
    all_goals refine bodyPost_ret (v := .tuple #[.agg #[.bool p, .slice ad XL cp], .agg #[.bool q6, .slice a6 ZL c6]]) (by simp [results, Try.results27, go_sem, c0, c1, c2, c3, lX, lY, f0, f1, f2, f3, n1, n2]) rfl ?_
    all_goals first | exact hE _ _ _ _ | exact hE2 _ _ _ _
end Go.Proofs.Ythgpacajeaphhaa
