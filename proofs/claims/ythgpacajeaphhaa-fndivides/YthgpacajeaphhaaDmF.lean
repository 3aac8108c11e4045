import Derived.Test.YthgpacajeaphhaaDmA
import Derived.Test.YthgpacajeaphhaaShiftF
namespace Go.Proofs.Ythgpacajeaphhaa
open Go.RowKit
set_option linter.unusedVariables false
set_option linter.unusedSimpArgs false

/-- Behind the calls of a statement that lays two numbers into new boxes: wp the world ahead of it. -/
def PK2 (wp v5 : World) (B : Nat) (u1 u2 : Value) (L1 L2 : List Int) : Prop :=
  Below wp.heap.size wp v5 ∧ Own v5 B u1 L1 ∧ Own v5 B u2 L2 ∧ wp.heap.size ≤ B ∧ B ≤ v5.heap.size
/-- Behind that statement: both boxes, and what they hold. -/
def FIN2 (wp wc : World) (b1 b2 : Nat) (x1 u1 x2 u2 : Value) (L1 L2 : List Int) : Prop :=
  Below wp.heap.size wp wc ∧ wp.heap.size ≤ b1 ∧ wp.heap.size ≤ b2 ∧ Box wc b1 x1 u1 ∧ Box wc b2 x2 u2 ∧ Own wc wp.heap.size u1 L1 ∧ Own wc wp.heap.size u2 L2
theorem Box.set2 {w : World} {b : Nat} {x y : Value} (h : Box w b x y) (x' y' : Value) : Box ((w.setCell ⟨b, 0, none⟩ x').setCell ⟨b, 1, none⟩ y') b x' y' := Box.set h x' y'
/-- The same, but for the boxes. -/
def PKB (wp v5 : World) (u1 u2 : Value) (L1 L2 : List Int) (B : Nat) : Prop := Below wp.heap.size wp v5 ∧ Own v5 B u1 L1 ∧ Own v5 B u2 L2
theorem PKB.alloc {wp v5 : World} {u1 u2 : Value} {L1 L2 : List Int} {B : Nat} (h : PKB wp v5 u1 u2 L1 L2 B) (o : Obj) : PKB wp (v5.alloc o) u1 u2 L1 L2 B := ⟨h.1.alloc h.1.size o, h.2.1.alloc o, h.2.2.alloc o⟩
theorem PKB.set {wp v5 : World} {u1 u2 : Value} {L1 L2 : List Int} {B X : Nat} (h : PKB wp v5 u1 u2 L1 L2 B) (h1 : wp.heap.size ≤ X) (h2 : X < B) (o : Nat) (u : Value) : PKB wp (v5.setCell ⟨X, o, none⟩ u) u1 u2 L1 L2 B :=
  ⟨h.1.setCell (by show wp.heap.size ≤ X; exact h1) u, h.2.1.setBelow (by show X < B; exact h2) u, h.2.2.setBelow (by show X < B; exact h2) u⟩
theorem PKB.fin {wp v5 : World} {u1 u2 x1 x2 : Value} {L1 L2 : List Int} {B b1 b2 : Nat} (h : PKB wp v5 u1 u2 L1 L2 B) (hB : wp.heap.size ≤ B) (k1 : wp.heap.size ≤ b1) (k2 : wp.heap.size ≤ b2) (c1 : Box v5 b1 x1 u1) (c2 : Box v5 b2 x2 u2) : FIN2 wp v5 b1 b2 x1 u1 x2 u2 L1 L2 :=
  ⟨h.1, k1, k2, c1, c2, h.2.1.mono hB, h.2.2.mono hB⟩
theorem PK2.b {wp v5 : World} {B : Nat} {u1 u2 : Value} {L1 L2 : List Int} (h : PK2 wp v5 B u1 u2 L1 L2) : PKB wp v5 u1 u2 L1 L2 B := ⟨h.1, h.2.1, h.2.2.1⟩
section
variable {wp v5 : World} {B X Y : Nat} {x1 u1 x2 u2 z1 z2 y1 y2 : Value} {L1 L2 : List Int} {t t2 : TypeId} (P : PK2 wp v5 B u1 u2 L1 L2)
include P
theorem fin2_a : FIN2 wp ((v5.alloc (.cells #[x1, u1] t)).alloc (.cells #[x2, u2] t2)) v5.heap.size (v5.heap.size + 1) x1 u1 x2 u2 L1 L2 :=
  ((P.b.alloc _).alloc _).fin P.2.2.2.1 P.1.size (by have := P.1.size; omega) ((Box.new v5 x1 u1 t).alloc _) (BoxN (by simp))
theorem fin2_b : FIN2 wp ((v5.alloc (.cells #[x2, u2] t2)).alloc (.cells #[x1, u1] t)) (v5.heap.size + 1) v5.heap.size x1 u1 x2 u2 L1 L2 :=
  ((P.b.alloc _).alloc _).fin P.2.2.2.1 (by have := P.1.size; omega) P.1.size (BoxN (by simp)) ((Box.new v5 x2 u2 t2).alloc _)
theorem fin2_c (hX : Box v5 X z1 z2) (h1 : wp.heap.size ≤ X) (h2 : X < B) : FIN2 wp (((v5.setCell ⟨X, 0, none⟩ x1).setCell ⟨X, 1, none⟩ u1).alloc (.cells #[x2, u2] t2)) X v5.heap.size x1 u1 x2 u2 L1 L2 :=
  (((P.b.set h1 h2 _ _).set h1 h2 _ _).alloc _).fin P.2.2.2.1 h1 P.1.size ((Box.set hX x1 u1).alloc _) (BoxN (by simp [World.setCell]))
theorem fin2_d (hX : Box v5 X z1 z2) (hY : Box v5 Y y1 y2) (h1 : wp.heap.size ≤ X) (h2 : X < B) (k1 : wp.heap.size ≤ Y) (k2 : Y < B) (hne : ¬ X = Y) : FIN2 wp ((((v5.setCell ⟨X, 0, none⟩ x1).setCell ⟨X, 1, none⟩ u1).setCell ⟨Y, 0, none⟩ x2).setCell ⟨Y, 1, none⟩ u2) X Y x1 u1 x2 u2 L1 L2 :=
  ((((P.b.set h1 h2 _ _).set h1 h2 _ _).set k1 k2 _ _).set k1 k2 _ _).fin P.2.2.2.1 h1 k1 (((Box.set hX x1 u1).setOther hne _ _).setOther hne _ _) (Box.set ((hY.setOther (fun e => hne e.symm) _ _).setOther (fun e => hne e.symm) _ _) x2 u2)
theorem fin2_e (hX : Box v5 X z1 z2) (h1 : wp.heap.size ≤ X) (h2 : X < B) : FIN2 wp (((v5.setCell ⟨X, 0, none⟩ x2).setCell ⟨X, 1, none⟩ u2).alloc (.cells #[x1, u1] t)) v5.heap.size X x1 u1 x2 u2 L1 L2 :=
  (((P.b.set h1 h2 _ _).set h1 h2 _ _).alloc _).fin P.2.2.2.1 P.1.size h1 (BoxN (by simp [World.setCell])) ((Box.set hX x2 u2).alloc _)
theorem fin2_g (hX : Box v5 X z1 z2) (h1 : wp.heap.size ≤ X) (h2 : X < B) : FIN2 wp (((v5.alloc (.cells #[x1, u1] t)).setCell ⟨X, 0, none⟩ x2).setCell ⟨X, 1, none⟩ u2) v5.heap.size X x1 u1 x2 u2 L1 L2 :=
  have hn : ¬ v5.heap.size = X := by have := hX.1; omega
  (((P.b.alloc _).set h1 h2 _ _).set h1 h2 _ _).fin P.2.2.2.1 P.1.size h1 (((Box.new v5 x1 u1 t).setOther hn _ _).setOther hn _ _) (Box.set (hX.alloc _) x2 u2)
theorem fin2_f (hX : Box v5 X z1 z2) (h1 : wp.heap.size ≤ X) (h2 : X < B) : FIN2 wp ((((v5.alloc (.cells #[y1, y2] t)).setCell ⟨X, 0, none⟩ x1).setCell ⟨X, 1, none⟩ u1 |>.setCell ⟨v5.heap.size, 0, none⟩ x2).setCell ⟨v5.heap.size, 1, none⟩ u2) X v5.heap.size x1 u1 x2 u2 L1 L2 := by
  have hn : ¬ X = v5.heap.size := by have := hX.1; omega
  have hn' : ¬ v5.heap.size = X := by have := hX.1; omega
  have hb := ((Box.set (hX.alloc (.cells #[y1, y2] t)) x1 u1).setOther hn 0 x2).setOther hn 1 u2
  have hc := Box.set (((Box.new v5 y1 y2 t).setOther hn' 0 x1).setOther hn' 1 u1) x2 u2
  have Q := ((P.b.alloc (.cells #[y1, y2] t)).set h1 h2 0 x1).set h1 h2 1 u1
  have o1 := P.2.1.lt
  have o2 := P.2.2.1.lt
  have hw := P.1.size
  exact ⟨(Q.1.setCell hw _).setCell hw _, h1, hw, hb, hc, ((Q.2.1.but (gb_set _ v5.heap.size 0 x2) (own_ne o1)).but (gb_set _ v5.heap.size 1 u2) (own_ne o1)).mono P.2.2.2.1, ((Q.2.2.but (gb_set _ v5.heap.size 0 x2) (own_ne o2)).but (gb_set _ v5.heap.size 1 u2) (own_ne o2)).mono P.2.2.2.1⟩
end
end Go.Proofs.Ythgpacajeaphhaa
