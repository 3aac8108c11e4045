import Derived.Test.YthgpacajeaphhaaFloorA
import Derived.Test.YthgpacajeaphhaaFloorX
namespace Go.Proofs.Ythgpacajeaphhaa
open Go.RowKit
set_option linter.unusedVariables false
set_option linter.unusedSimpArgs false

/-- How a world stands behind the calls of a statement that lays two answers into boxes: r the box of the result. -/
def PK7 (w w7 : World) (B7 : Nat) (v : Value) (L : List Int) : Prop :=
  Box w7 (w.heap.size + 1) (.bool false) (.slice none 0 0) ∧ Unf w7 (w.heap.size + 1) ∧ Own w7 B7 v L ∧ Below w.heap.size w w7 ∧ w.heap.size + 1 < B7
/-- What is wanted of the world behind that statement: b the first box. -/
def FIN (w wc : World) (b : Nat) (x v : Value) (L : List Int) : Prop :=
  Box wc b x v ∧ Box wc (w.heap.size + 1) (.bool false) (.slice none 0 0) ∧ Unf wc (w.heap.size + 1) ∧ Own wc (w.heap.size + 2) v L ∧ Below w.heap.size w wc ∧ w.heap.size + 1 < b
theorem PK7.alloc {w w7 : World} {B7 : Nat} {v : Value} {L : List Int} (h : PK7 w w7 B7 v L) (o : Obj) : PK7 w (w7.alloc o) B7 v L :=
  ⟨h.1.alloc o, h.2.1.keep ((Below.refl _ _).alloc (Nat.le_refl _) o), h.2.2.1.alloc o, h.2.2.2.1.alloc h.2.2.2.1.size o, h.2.2.2.2⟩
theorem PK7.set {w w7 : World} {B7 : Nat} {v : Value} {L : List Int} (h : PK7 w w7 B7 v L) {X : Nat} (hX : w.heap.size + 1 < X) (hb : X < B7) (o : Nat) (u : Value) : PK7 w (w7.setCell ⟨X, o, none⟩ u) B7 v L :=
  ⟨h.1.setOther (by omega) o u, h.2.1.set _ _, h.2.2.1.setBelow (by show X < B7; exact hb) u, h.2.2.2.1.setCell (by show w.heap.size ≤ X; omega) u, h.2.2.2.2⟩
theorem PK7.fin {w w7 : World} {B7 b : Nat} {x v : Value} {L : List Int} (h : PK7 w w7 B7 v L) (hb : Box w7 b x v) (hr : w.heap.size + 1 < b) : FIN w w7 b x v L :=
  ⟨hb, h.1, h.2.1, h.2.2.1.mono (by have := h.2.2.2.2; omega), h.2.2.2.1, hr⟩
theorem BoxN {W : World} {b : Nat} {x y : Value} {t : TypeId} (hb : b = W.heap.size) : Box (W.alloc (.cells #[x, y] t)) b x y := by subst hb; exact Box.new W x y t
theorem own_ne {v : Value} {B n : Nat} (h : ∀ k, v.ownBlock = some k → B ≤ k ∧ k < n) : v.ownBlock = none ∨ v.ownBlock ≠ some n := by
  cases hv : v.ownBlock with
  | none => exact .inl rfl
  | some k => exact .inr (by have := h k hv; simp; omega)
section
variable {w w7 : World} {B7 : Nat} {x v x2 v2 z1 z2 y1 y2 : Value} {L : List Int} {X Y : Nat} {t t2 : TypeId} (P : PK7 w w7 B7 v L) (hB7 : B7 ≤ w7.heap.size)
include P hB7
theorem fin_a : FIN w ((w7.alloc (.cells #[x, v] t)).alloc (.cells #[x2, v2] t2)) w7.heap.size x v L :=
  ((P.alloc _).alloc _).fin ((Box.new w7 x v t).alloc _) (by have := P.2.2.2.2; omega)
theorem fin_b : FIN w ((w7.alloc (.cells #[x2, v2] t2)).alloc (.cells #[x, v] t)) (w7.heap.size + 1) x v L :=
  ((P.alloc _).alloc _).fin (BoxN (by simp)) (by have := P.2.2.2.2; omega)
theorem fin_e (h1 : w.heap.size + 1 < X) (h2 : X < B7) : FIN w (((w7.setCell ⟨X, 0, none⟩ x2).setCell ⟨X, 1, none⟩ v2).alloc (.cells #[x, v] t)) w7.heap.size x v L :=
  (((P.set h1 h2 _ _).set h1 h2 _ _).alloc _).fin (BoxN (by simp [World.setCell])) (by have := P.2.2.2.2; omega)
theorem fin_f (hX : Box w7 X z1 z2) (h1 : w.heap.size + 1 < X) (h2 : X < B7) : FIN w ((((w7.alloc (.cells #[y1, y2] t)).setCell ⟨X, 0, none⟩ x).setCell ⟨X, 1, none⟩ v |>.setCell ⟨w7.heap.size, 0, none⟩ x2).setCell ⟨w7.heap.size, 1, none⟩ v2) X x v L := by
  have hb := ((Box.set (hX.alloc (.cells #[y1, y2] t)) x v).setOther (c := w7.heap.size) (by have := hX.1; omega) 0 x2).setOther (c := w7.heap.size) (by have := hX.1; omega) 1 v2
  have Q := ((P.alloc (.cells #[y1, y2] t)).set h1 h2 0 x).set h1 h2 1 v
  have hr : ¬ w.heap.size + 1 = w7.heap.size := by have := P.2.2.2.2; omega
  have hw : w.heap.size ≤ w7.heap.size := P.2.2.2.1.size
  refine ⟨hb, (Q.1.setOther hr _ _).setOther hr _ _, (Q.2.1.set _ _).set _ _, ?_, (Q.2.2.2.1.setCell hw _).setCell hw _, h1⟩
  have hlt := Q.2.2.1.lt
  have ho := P.2.2.1.lt
  exact ((Q.2.2.1.but (gb_set _ w7.heap.size 0 x2) (own_ne ho)).but (gb_set _ w7.heap.size 1 v2) (own_ne ho)).mono (by have := P.2.2.2.2; omega)
theorem fin_g (h1 : w.heap.size + 1 < X) (h2 : X < B7) : FIN w (((w7.alloc (.cells #[x, v] t)).setCell ⟨X, 0, none⟩ x2).setCell ⟨X, 1, none⟩ v2) w7.heap.size x v L :=
  (((P.alloc _).set h1 h2 _ _).set h1 h2 _ _).fin (((Box.new w7 x v t).setOther (by omega) _ _).setOther (by omega) _ _) (by have := P.2.2.2.2; omega)
end
section
variable {w w7 : World} {B7 : Nat} {x v x2 v2 z1 z2 : Value} {L : List Int} {X Y : Nat} {t2 : TypeId} (P : PK7 w w7 B7 v L)
include P
theorem fin_c (hX : Box w7 X z1 z2) (h1 : w.heap.size + 1 < X) (h2 : X < B7) : FIN w (((w7.setCell ⟨X, 0, none⟩ x).setCell ⟨X, 1, none⟩ v).alloc (.cells #[x2, v2] t2)) X x v L :=
  (((P.set h1 h2 _ _).set h1 h2 _ _).alloc _).fin ((Box.set hX x v).alloc _) h1
theorem fin_d (hX : Box w7 X z1 z2) (h1 : w.heap.size + 1 < X) (h2 : X < B7) (k1 : w.heap.size + 1 < Y) (k2 : Y < B7) (hne : ¬ X = Y) : FIN w ((((w7.setCell ⟨X, 0, none⟩ x).setCell ⟨X, 1, none⟩ v).setCell ⟨Y, 0, none⟩ x2).setCell ⟨Y, 1, none⟩ v2) X x v L :=
  ((((P.set h1 h2 _ _).set h1 h2 _ _).set k1 k2 _ _).set k1 k2 _ _).fin (((Box.set hX x v).setOther hne _ _).setOther hne _ _) h1
end
end Go.Proofs.Ythgpacajeaphhaa
