import Derived.Test.YtnpjlmnhailipaaHelE
namespace Go.Proofs.Ytnpjlmnhailipaa
open Go.RowKit
set_option linter.unusedVariables false
set_option linter.unusedSimpArgs false

/-- A dict as it is read: its slots, its entries, how many live. -/
structure Dt where
  s : List Int
  e : List En
  l : Int
  deriving DecidableEq

def dv (vs ve : Value) (l : Int) : Value := .agg #[vs, ve, .int .i64 l]

/-- The value v reads, in w, as the dict d. -/
def RdD (w : World) (v : Value) (d : Dt) : Prop := ∃ vs ve, v = dv vs ve d.l ∧ Rd w vs d.s ∧ RdE w ve d.e
/-- The value v owns, from B on, the dict d (its two rows are two blocks). -/
def OwnD (w : World) (B : Nat) (v : Value) (d : Dt) : Prop := ∃ vs ve, v = dv vs ve d.l ∧ Own w B vs d.s ∧ OwnE 63 w B ve d.e ∧ (vs.ownBlock = none ∨ vs.ownBlock ≠ ve.ownBlock)
theorem RdD.keep {w w' : World} {v : Value} {d : Dt} (h : RdD w v d) (hb : Below w.heap.size w w') : RdD w' v d := by
  obtain ⟨vs, ve, rfl, h1, h2⟩ := h; exact ⟨vs, ve, rfl, h1.keep hb, h2.keep hb⟩
theorem RdD.drew {w : World} {v : Value} {d : Dt} (h : RdD w v d) : RdD w.drew v d := h.keep (Below.refl _ _).drew
theorem RdD.alloc {w : World} {v : Value} {d : Dt} (h : RdD w v d) (o : Obj) : RdD (w.alloc o) v d := h.keep ((Below.refl _ _).alloc (Nat.le_refl _) o)
theorem OwnD.keep {w w' : World} {B : Nat} {v : Value} {d : Dt} (h : OwnD w B v d) (hb : Below w.heap.size w w') : OwnD w' B v d := by
  obtain ⟨vs, ve, rfl, h1, h2, h3⟩ := h; exact ⟨vs, ve, rfl, h1.keep hb, h2.keep hb, h3⟩
theorem OwnD.drew {w : World} {B : Nat} {v : Value} {d : Dt} (h : OwnD w B v d) : OwnD w.drew B v d := h.keep (Below.refl _ _).drew
theorem OwnD.mono {w : World} {B B' : Nat} {v : Value} {d : Dt} (h : OwnD w B v d) (hb : B' ≤ B) : OwnD w B' v d := by
  obtain ⟨vs, ve, rfl, h1, h2, h3⟩ := h; exact ⟨vs, ve, rfl, h1.mono hb, h2.mono hb, h3⟩
theorem OwnD.rd {w : World} {B : Nat} {v : Value} {d : Dt} (h : OwnD w B v d) : RdD w v d := by
  obtain ⟨vs, ve, rfl, h1, h2, _⟩ := h; exact ⟨vs, ve, rfl, h1.rd, h2.rd⟩

/-- Three cells of a block. -/
def Box3 (w : World) (b : Nat) (x y z : Value) : Prop := b < w.heap.size ∧ w.cell? ⟨b, 0, none⟩ = some x ∧ w.cell? ⟨b, 1, none⟩ = some y ∧ w.cell? ⟨b, 2, none⟩ = some z
theorem Box3.keep {w w' : World} {b : Nat} {x y z : Value} (h : Box3 w b x y z) (hb : Below w.heap.size w w') : Box3 w' b x y z :=
  ⟨Nat.lt_of_lt_of_le h.1 hb.size, (hb.cell (p := ⟨b, 0, none⟩) h.1).trans h.2.1, (hb.cell (p := ⟨b, 1, none⟩) h.1).trans h.2.2.1, (hb.cell (p := ⟨b, 2, none⟩) h.1).trans h.2.2.2⟩
theorem Box3.new (w : World) (x y z : Value) (t : TypeId) : Box3 (w.alloc (.cells #[x, y, z] t)) w.heap.size x y z :=
  ⟨by simp, by rw [World.cell?_alloc_at _ _ _ _ rfl]; rfl, by rw [World.cell?_alloc_at _ _ _ _ rfl]; rfl, by rw [World.cell?_alloc_at _ _ _ _ rfl]; rfl⟩
theorem Box3.alloc {w : World} {b : Nat} {x y z : Value} (h : Box3 w b x y z) (o : Obj) : Box3 (w.alloc o) b x y z := h.keep ((Below.refl _ _).alloc (Nat.le_refl _) o)
theorem Box3.drew {w : World} {b : Nat} {x y z : Value} (h : Box3 w b x y z) : Box3 w.drew b x y z := h.keep (Below.refl _ _).drew
theorem Box3.but {w w' : World} {b : Nat} {x y z : Value} {row : Option Nat} (h : Box3 w b x y z) (hg : w.grownBy w' row) (hne : some b ≠ row) : Box3 w' b x y z :=
  ⟨Nat.lt_of_lt_of_le h.1 hg.size, hg.cell h.2.1 hne, hg.cell h.2.2.1 hne, hg.cell h.2.2.2 hne⟩

theorem Below.three {w : World} (x y z : Value) (T : TypeId) : Below w.heap.size w (w.alloc (.cells #[x, y, z] T)) := (Below.refl _ w).alloc (Nat.le_refl _) _

set_option maxRecDepth 100000 in
theorem eqD_any (v u : Value) (x y : Dt) (w : World) (hx : RdD w v x) (hy : RdD w u y) :
    Calls Try.prog 13 #[v, u] w fun e w' => e = .returned (.bool (decide (x = y))) ∧ Below w.heap.size w w' := by
  obtain ⟨xs, xe, xl⟩ := x
  obtain ⟨ys, ye, yl⟩ := y
  obtain ⟨vs, ve, rfl, h1, h2⟩ := hx
  obtain ⟨us, ue, rfl, g1, g2⟩ := hy
  simp only [Dt.mk.injEq] at *
  have bW : Below w.heap.size w ((w.alloc (.cells #[vs, ve, .int .i64 xl] 25)).alloc (.cells #[us, ue, .int .i64 yl] 25)) := ((Below.refl _ w).alloc (Nat.le_refl _) _).alloc (by simp) _
  have bX := (Box3.new w vs ve (.int .i64 xl) 25).alloc (.cells #[us, ue, .int .i64 yl] 25)
  have bY := Box3.new (w.alloc (.cells #[vs, ve, .int .i64 xl] 25)) us ue (.int .i64 yl) 25
  simp only [World.size_alloc] at bY
  have hQ := fun W h h' => eqS_any vs us xs ys W h h'
  have hR := fun W h h' => eqES_any ve ue xe ye W h h'
  obtain ⟨a1, c1, e1⟩ : ∃ a c, vs = .slice a xs.length c := by obtain ⟨a, c, e, _⟩ := id h1; exact ⟨a, c, e⟩
  obtain ⟨a2, c2, e2⟩ := h2.form
  obtain ⟨a3, c3, e3⟩ : ∃ a c, us = .slice a ys.length c := by obtain ⟨a, c, e, _⟩ := id g1; exact ⟨a, c, e⟩
  obtain ⟨a4, c4, e4⟩ := g2.form
  subst e1 e2 e3 e4
  unfold dv
  go_enter Try.func13, Try.ntmps13
  go_wp2_with fail
  refine (hQ _ (h1.keep bW) (g1.keep bW)).mono ?_
  rintro e w1 ⟨rfl, hB1⟩
  have hW1 := bW.trans (hB1.mono bW.size)
  have bX1 := bX.keep hB1
  have bY1 := bY.keep hB1
  have r2 := (h2.keep bW).keep hB1
  have q2 := (g2.keep bW).keep hB1
  clear hB1 bX bY bW h1 g1 h2 g2 hQ
  by_cases E1 : xs = ys
  · rw [decide_eq_true E1]
    obtain ⟨-, k0, k1, k2⟩ := id bX1
    obtain ⟨-, k3, k4, k5⟩ := id bY1
    go_wp2_with fail
    refine (hR _ r2 q2).mono ?_
    rintro e w2 ⟨rfl, hB2⟩
    have hW2 := hW1.trans (hB2.mono hW1.size)
    have bX2 := bX1.keep hB2
    have bY2 := bY1.keep hB2
    clear hB2 k0 k1 k2 k3 k4 k5 bX1 bY1 hR
    by_cases E2 : xe = ye
    · rw [decide_eq_true E2]
      obtain ⟨-, k0, k1, k2⟩ := id bX2
      obtain ⟨-, k3, k4, k5⟩ := id bY2
      by_cases E3 : xl = yl
      · subst E3
        go_wp2
        go_ret
        exact ⟨by simp [E1, E2], hW2⟩
      · go_wp2
        go_ret
        exact ⟨by simp [E3], hW2⟩
    · rw [decide_eq_false E2]
      go_wp2
      go_ret
      exact ⟨by simp [E2], hW2⟩
  · rw [decide_eq_false E1]
    go_wp2
    go_ret
    exact ⟨by simp [E1], hW1⟩

/-- The marked dict. -/
def markedD (d : Dt) (k : Int) : Dt := ⟨marks k d.s.length, marksE (k + d.s.length) d.e.length, d.l⟩

set_option maxRecDepth 100000 in
theorem markD_any (B : Nat) (v : Value) (d : Dt) (k : Int) (w : World) (hO : OwnD w B v d) (h0 : 0 ≤ k) (h1 : k + d.s.length ≤ 33554432) (hB : B ≤ w.heap.size) :
    Calls Try.prog 14 #[v, .int .i64 k] w fun e w' => e = .returned (.int .i64 (k + d.s.length + 4 * d.e.length)) ∧ OwnD w' B v (markedD d k) ∧ Below B w w' ∧
      (∀ g, g < w.heap.size → (∀ vs ve l, v = dv vs ve l → vs.ownBlock ≠ some g ∧ ve.ownBlock ≠ some g) → w'.heap[g]? = w.heap[g]?) := by
  obtain ⟨ds, de, dl⟩ := d
  obtain ⟨vs, ve, rfl, g1, g2, g3⟩ := hO
  simp only at g1 g2 g3 h1 ⊢
  have lo1 := g1.lt
  have lo2 := g2.lt
  have hl1 := g1.2.1
  have hl2 := g2.2.1
  have bX := Box3.new w vs ve (.int .i64 dl) 25
  have gW := World.grownBy_alloc w (.cells #[vs, ve, .int .i64 dl] 25) none
  have bW := Below.three (w := w) vs ve (.int .i64 dl) 25
  obtain ⟨a1, c1, e1⟩ := g1.form
  obtain ⟨a2, c2, e2⟩ := g2.form
  subst e1 e2
  unfold dv
  go_enter Try.func14, Try.ntmps14
  go_wp2_with fail
  refine (markS_any B _ _ _ ds k _ (g1.keep bW) h0 (by omega)).mono ?_
  rintro e w1 ⟨rfl, o1, hg1⟩
  have o2 := (g2.keep bW).but hg1 (by
    rcases g3 with h | h
    · rw [h]; cases (Value.slice a2 de.length c2).ownBlock <;> simp
    · exact .inr (Ne.symm h))
  have bX1 := bX.but hg1 (fun e => by have := lo1 _ e.symm; omega)
  obtain ⟨-, k0, k1, k2⟩ := id bX1
  clear g1 g2 bX
  go_wp2_with fail
  refine (markES_any _ B _ _ _ de _ _ o2 (by omega) (by omega) rfl).mono ?_
  rintro e w2 ⟨rfl, p2, hg2⟩
  have p1 := o1.but hg2 g3
  go_wp2
  go_ret
  have bB : Below B w w1 := ((bW.mono hB).grown hg1 (Nat.le_trans hB bW.size) (fun k hk => (lo1 k hk).1))
  refine ⟨rfl, ⟨_, _, rfl, p1, p2, g3⟩, bB.grown hg2 (Nat.le_trans hB bB.size) (fun k hk => (lo2 k hk).1), fun g hg hne => ?_⟩
  obtain ⟨n1, n2⟩ := hne _ _ _ rfl
  rw [hg2.block g (Nat.lt_of_lt_of_le hg (Nat.le_trans bW.size hg1.size)) (Ne.symm n2), hg1.block g (Nat.lt_of_lt_of_le hg bW.size) (Ne.symm n1), bW.block g hg]

set_option maxRecDepth 100000 in
theorem heldD_any (v : Value) (d : Dt) (k : Int) (w : World) (hr : RdD w v (markedD d k)) (h0 : 0 ≤ k) (h1 : k + d.s.length ≤ 33554432) :
    Calls Try.prog 15 #[v, .int .i64 k] w fun e w' => e = .returned (.int .i64 (k + d.s.length + 4 * d.e.length)) ∧ Below w.heap.size w w' := by
  obtain ⟨ds, de, dl⟩ := d
  obtain ⟨vs, ve, rfl, g1, g2⟩ := hr
  simp only [markedD] at g1 g2 h1 ⊢
  have bX := Box3.new w vs ve (.int .i64 dl) 25
  have bW := Below.three (w := w) vs ve (.int .i64 dl) 25
  have hl2 : de.length ≤ 16777216 := by obtain ⟨_, _, _, h, _⟩ := g2; simpa [marksE_length] using h
  obtain ⟨a1, c1, e1⟩ : ∃ a c, vs = .slice a ds.length c := by obtain ⟨a, c, e, _⟩ := id g1; exact ⟨a, c, by simpa [marks_length] using e⟩
  obtain ⟨a2, c2, e2⟩ : ∃ a c, ve = .slice a de.length c := by obtain ⟨a, c, e, _⟩ := id g2; exact ⟨a, c, by simpa [marksE_length] using e⟩
  subst e1 e2
  unfold dv
  go_enter Try.func15, Try.ntmps15
  go_wp2_with fail
  refine (heldS_any _ _ k ds.length _ (g1.keep bW) h0 (by omega) rfl).mono ?_
  rintro e w1 ⟨rfl, hB1⟩
  have bX1 := bX.keep hB1
  have hW1 := bW.trans (hB1.mono bW.size)
  have r2 := (g2.keep bW).keep hB1
  obtain ⟨-, k0, k1, k2⟩ := id bX1
  have hk1 : ¬ (k + (ds.length : Int)) < 0 := by omega
  clear g1 g2 bX hB1
  go_wp2_with fail
  refine (heldES_any _ _ _ de.length _ r2 (by omega) (by omega) rfl).mono ?_
  rintro e w2 ⟨rfl, hB2⟩
  have hk2 : ¬ (k + (ds.length : Int) + 4 * de.length) < 0 := by omega
  go_wp2
  go_ret
  exact ⟨rfl, hW1.trans (hB2.mono hW1.size)⟩
end Go.Proofs.Ytnpjlmnhailipaa
