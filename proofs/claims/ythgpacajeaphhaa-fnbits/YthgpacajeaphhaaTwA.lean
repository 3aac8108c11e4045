import Derived.Test.YthgpacajeaphhaaTwD
namespace Go.Proofs.Ythgpacajeaphhaa
open Go.RowKit
set_option linter.unusedVariables false
set_option linter.unusedSimpArgs false

def DTwo (w : World) (e : Ending) (w' : World) : Prop := ∃ p ad cp xs q ad' cp' ys, e = .returned (.tuple #[.agg #[.bool p, .slice ad (List.length xs) cp], .agg #[.bool q, .slice ad' (List.length ys) cp']]) ∧ Own w' w.heap.size (.slice ad (List.length xs) cp) xs ∧ Own w' w.heap.size (.slice ad' (List.length ys) cp') ys ∧ Below w.heap.size w w'
theorem dtwo_end {w W : World} {p : Bool} {ad : Option Addr} {cp : Nat} {xs : List Int} {q : Bool} {ad' : Option Addr} {cp' : Nat} {ys : List Int} (u0 u1 u2 u3 : Value) (hb : Below w.heap.size w W) (hx : Own W (w.heap.size + 2) (.slice ad xs.length cp) xs) (hy : Own W (w.heap.size + 2) (.slice ad' ys.length cp') ys) :
    DTwo w (.returned (.tuple #[.agg #[.bool p, .slice ad xs.length cp], .agg #[.bool q, .slice ad' ys.length cp']])) ((((W.setCell ⟨w.heap.size, 0, none⟩ u0).setCell ⟨w.heap.size, 1, none⟩ u1).setCell ⟨w.heap.size + 1, 0, none⟩ u2).setCell ⟨w.heap.size + 1, 1, none⟩ u3) := by
  have s0 : w.heap.size < w.heap.size + 2 := by omega
  have s1 : w.heap.size + 1 < w.heap.size + 2 := by omega
  refine ⟨p, ad, cp, xs, q, ad', cp', ys, rfl, ?_, ?_, ?_⟩
  · exact ((((hx.setBelow (a := ⟨w.heap.size, 0, none⟩) s0 u0).setBelow (a := ⟨w.heap.size, 1, none⟩) s0 u1).setBelow (a := ⟨w.heap.size + 1, 0, none⟩) s1 u2).setBelow (a := ⟨w.heap.size + 1, 1, none⟩) s1 u3).mono (by omega)
  · exact ((((hy.setBelow (a := ⟨w.heap.size, 0, none⟩) s0 u0).setBelow (a := ⟨w.heap.size, 1, none⟩) s0 u1).setBelow (a := ⟨w.heap.size + 1, 0, none⟩) s1 u2).setBelow (a := ⟨w.heap.size + 1, 1, none⟩) s1 u3).mono (by omega)
  · have h1 := hb.setCell (show w.heap.size ≤ (⟨w.heap.size, 0, none⟩ : Addr).block from Nat.le_refl _) u0
    have h2 := h1.setCell (show w.heap.size ≤ (⟨w.heap.size, 1, none⟩ : Addr).block from Nat.le_refl _) u1
    have h3 := h2.setCell (show w.heap.size ≤ (⟨w.heap.size + 1, 0, none⟩ : Addr).block from Nat.le_succ _) u2
    exact h3.setCell (show w.heap.size ≤ (⟨w.heap.size + 1, 1, none⟩ : Addr).block from Nat.le_succ _) u3

set_option maxRecDepth 100000 in
set_option maxHeartbeats 2000000 in
theorem drawAdd_any (w : World) (a : Option Addr) (n c : Nat) (bs : List Int) (h : Src w a n c bs) :
    Calls Try.prog 8 #[.slice a n c] w fun e w' => DTwo w e w' := by
  have hA0 : Below w.heap.size w ((w.alloc (Obj.cells #[.bool false, .slice none 0 0] 26)).alloc (Obj.cells #[.bool false, .slice none 0 0] 26)) := ((Below.refl _ w).alloc (Nat.le_refl _) _).alloc (by simp) _
  have X0 := (Rbx.new w).at ((Below.refl _ _).alloc (Nat.le_refl _) (Obj.cells #[.bool false, .slice none 0 0] 26)) (show w.heap.size < _ by simp)
  have Y0 := Rbx.new (w.alloc (Obj.cells #[.bool false, .slice none 0 0] 26))
  have h0 := h.keep hA0
  have s0 : ((w.alloc (Obj.cells #[.bool false, .slice none 0 0] 26)).alloc (Obj.cells #[.bool false, .slice none 0 0] 26)).heap.size = w.heap.size + 2 := by simp
  simp only [World.size_alloc] at Y0
  generalize hW0 : (w.alloc (Obj.cells #[.bool false, .slice none 0 0] 26)).alloc (Obj.cells #[.bool false, .slice none 0 0] 26) = W0 at X0 Y0 h0 s0 hA0
  go_enter Try.func8, Try.ntmps8
  go_upto_region 1 with fail
  clear hW0
  go_wp2_with fail
  refine (open_any W0 a n c bs h0).mono ?_
  rintro e w1 ⟨g, rfl, hg, hR, hB1⟩
  have X1 := X0.at hB1 X0.lt
  have Y1 := Y0.at hB1 Y0.lt
  have b1 := hA0.trans (hB1.mono (by omega))
  have t1 := hB1.size
  clear X0 Y0 hA0 hB1 h0
  go_wp2_with fail
  refine (drawTwo_any w1 g a n c bs hR).mono ?_
  rintro e w2 ⟨p, ad, cp, xs, q, ad', cp', ys, rfl, hx, hy, hD⟩
  have X2 := X1.gb hD.gb (by omega)
  have Y2 := Y1.gb hD.gb (by omega)
  have b2 := b1.trans (gb_to hD.gb (fun k hk => by cases hk; omega) (by omega))
  have hE := fun u0 u1 u2 u3 => dtwo_end (p := p) (q := q) u0 u1 u2 u3 b2 (hx.mono (by omega)) (hy.mono (by omega))
  obtain ⟨lX, c0, c1, f0, f1⟩ := id X2
  obtain ⟨lY, c2, c3, f2, f3⟩ := id Y2
  have n1 : ¬ (w.heap.size + 1 = w.heap.size) := by omega
  have n2 : ¬ (w.heap.size = w.heap.size + 1) := by omega
  clear X1 Y1 b1 X2 Y2 b2 hx hy hD hR
  generalize hXL : xs.length = XL at *
  generalize hZL : ys.length = ZL at *
  go_wp2
  refine bodyPost_ret (v := .tuple #[.agg #[.bool p, .slice ad XL cp], .agg #[.bool q, .slice ad' ZL cp']]) (by simp [results, Try.results8, go_sem, c0, c1, c2, c3, lX, lY, f0, f1, f2, f3, n1, n2]) rfl ?_
  exact hE _ _ _ _
end Go.Proofs.Ythgpacajeaphhaa
