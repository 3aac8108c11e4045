import Derived.Test.YtjoddjejobdcoaaKpE
namespace Go.Proofs.Ytjoddjejobdcoaa
open Go.RowKit Go.Maps
set_option linter.unusedVariables false
set_option linter.unusedSimpArgs false

theorem OwnD.drawn {w w' : World} {B g : Nat} {a : Option Addr} {n c : Nat} {bs : List Int} {v : Value} {d : Dt} (h : OwnD w B v d) (hB : g < B) (hD : Drawn w w' g a n c bs) : OwnD w' B v d := by
  obtain ⟨vs, ve, rfl, h1, h2, h3⟩ := h
  exact ⟨vs, ve, rfl, h1.drawn hB hD, h2.drawn hB hD, h3⟩

theorem froz_al {w w' : World} (o : Obj) (ho : ∃ cs t, o = .cells cs t) (hB : Below (w.alloc o).drew.heap.size (w.alloc o).drew w') (j : Nat) : w'.frozen? ⟨w.heap.size, j, none⟩ = false := by
  obtain ⟨cs, t, rfl⟩ := ho
  rw [hB.frozen (p := ⟨w.heap.size, j, none⟩) (by simp)]
  exact World.frozen?_alloc_at _ _ _ _ rfl
theorem cell_al {w : World} {a : Addr} {x : Value} (o : Obj) (h : w.cell? a = some x) : (w.alloc o).cell? a = some x := by
  rw [World.cell?_alloc_old w o a (Nat.ne_of_lt (World.block_lt_of_cell? w a h))]; exact h

theorem OwnD.setB {w : World} {B b o : Nat} {v : Value} {d : Dt} (h : OwnD w B v d) (hb : b < B) (u : Value) : OwnD (w.setCell ⟨b, o, none⟩ u) B v d := by
  obtain ⟨vs, ve, rfl, h1, h2, h3⟩ := h
  exact ⟨vs, ve, rfl, h1.setBelow hb u, h2.setBelow hb u, h3⟩
/-- Behind a call whose answer went into a new variable. -/
structure Aft (wr Wf : World) (E : Nat) (x y z : Value) (u : Value) (d : Dt) : Prop where
  V : Below wr.heap.size wr Wf
  bx : Box3 Wf E x y z
  ge : wr.heap.size ≤ E
  ow : OwnD Wf wr.heap.size u d
theorem aft1 {wr w4 : World} {x0 y0 z0 x y z u : Value} {T : TypeId} {d : Dt} (hB : Below (wr.alloc (.cells #[x0, y0, z0] T)).drew.heap.size (wr.alloc (.cells #[x0, y0, z0] T)).drew w4) (hO : OwnD w4 (wr.alloc (.cells #[x0, y0, z0] T)).drew.heap.size u d) :
    Aft wr (((w4.setCell ⟨wr.heap.size, 0, none⟩ x).setCell ⟨wr.heap.size, 1, none⟩ y).setCell ⟨wr.heap.size, 2, none⟩ z) wr.heap.size x y z u d := by
  have bN := ((Box3.new wr x0 y0 z0 T).drew).keep hB
  have V4 : Below wr.heap.size wr w4 := (((Below.refl _ wr).alloc (Nat.le_refl _) (.cells #[x0, y0, z0] T)).drew).trans (hB.mono (by simp))
  have hz := V4.size
  refine ⟨below_set (below_set (below_set V4 hz (Nat.le_refl _) _) (by simpa [World.setCell] using hz) (Nat.le_refl _) _) (by simpa [World.setCell] using hz) (Nat.le_refl _) _, ((bN.p0 x).p1 y).p2 z, Nat.le_refl _, ?_⟩
  have hO' : OwnD w4 (wr.heap.size + 1) u d := by simpa using hO
  exact (((hO'.setB (by omega) _).setB (by omega) _).setB (by omega) _).mono (by omega)
theorem aft2 {wr w4 : World} {x y z u : Value} {T : TypeId} {d : Dt} (hB : Below wr.drew.heap.size wr.drew w4) (hO : OwnD w4 wr.drew.heap.size u d) :
    Aft wr (w4.alloc (.cells #[x, y, z] T)) w4.heap.size x y z u d := by
  have V4 : Below wr.heap.size wr w4 := (Below.refl _ wr).drew.trans hB
  exact ⟨V4.alloc V4.size _, Box3.new w4 x y z T, V4.size, (by simpa using hO : OwnD w4 wr.heap.size u d).keep ((Below.refl _ _).alloc (Nat.le_refl _) _)⟩

set_option maxRecDepth 100000 in
set_option maxHeartbeats 1000000 in
theorem l7Draw_any (w : World) (g : Nat) (a : Option Addr) (n c : Nat) (bs : List Int) (hR : Rdr w g a n c bs) (hbz : ∀ b off, 0 < n → a = some ⟨b, off, none⟩ → b < w.heap.size) :
    Calls Try.prog 88 #[.pointer (some ⟨g, 0, none⟩)] w fun e w' => ∃ v d, e = .returned v ∧ OwnD w' w.heap.size v d ∧ Dr d 40 ∧ Drawn w w' g a n c bs := by
  have hglt := hR.lt
  have hOps := fun W h hb => drawOps_any W g a n c bs 40 (by omega) (by omega) h hb
  go_enter Try.func88, Try.ntmps88
  go_wp2_with fail
  have bW0 : Below w.heap.size w (w.alloc (Obj.cells #[Value.slice none 0 0, Value.slice none 0 0, Value.int IntKind.i64 0] 25)) := (Below.refl _ w).alloc (Nat.le_refl _) _
  refine (newSO_any _).mono ?_
  rintro e w1 ⟨v0, rfl, hO1, hB1⟩
  obtain ⟨a1, n1, c1, a2, n2, c2, e0⟩ := hO1.rd.form
  subst e0
  have V1 := bW0.trans (hB1.mono bW0.size)
  have bR0 := (Box3.new w (.slice none 0 0) (.slice none 0 0) (.int .i64 0) 25).keep hB1
  simp only
  go_wp2_with fail
  obtain ⟨D0, hD0⟩ : ∃ D0, w1.heap.size = D0 := ⟨_, rfl⟩
  have bD := Box3.new w1 (.slice a1 n1 c1) (.slice a2 n2 c2) (.int .i64 0) 25
  have fD : ∀ o, (w1.alloc (.cells #[.slice a1 n1 c1, .slice a2 n2 c2, .int .i64 0] 25)).frozen? ⟨w1.heap.size, o, none⟩ = false := fun o => World.frozen?_alloc_at _ _ _ _ rfl
  have fR : ∀ o, w1.frozen? ⟨w.heap.size, o, none⟩ = false := fun o => (hB1.frozen (p := ⟨w.heap.size, o, none⟩) (by simp)).trans (World.frozen?_alloc_at _ _ _ _ rfl)
  have V2 := V1.alloc V1.size (.cells #[.slice a1 n1 c1, .slice a2 n2 c2, .int .i64 0] 25)
  have hO2 := hO1.keep ((Below.refl _ w1).alloc (Nat.le_refl _) (.cells #[.slice a1 n1 c1, .slice a2 n2 c2, .int .i64 0] 25))
  have bR2 := bR0.alloc (.cells #[.slice a1 n1 c1, .slice a2 n2 c2, .int .i64 0] 25)
  have fR2 : ∀ o, (w1.alloc (.cells #[.slice a1 n1 c1, .slice a2 n2 c2, .int .i64 0] 25)).frozen? ⟨w.heap.size, o, none⟩ = false := fun o => by rw [World.frozen?_alloc_past _ _ _ bR0.1]; exact fR o
  have hRD := hR.keep V2
  have hDw := (Drawn.refl hR).below V2
  have hsz : w.heap.size < D0 := by have := bR0.1; omega
  have hsz2 : (w1.alloc (.cells #[.slice a1 n1 c1, .slice a2 n2 c2, .int .i64 0] 25)).heap.size = D0 + 1 := by simp [hD0]
  rw [hD0] at bD fD
  simp only [World.size_alloc] at hO2
  rw [hD0]
  generalize hWW : w1.alloc (.cells #[.slice a1 n1 c1, .slice a2 n2 c2, .int .i64 0] 25) = W2 at *
  clear hWW bR0 fR hO1 hB1 V1 bW0
  refine (hOps _ hRD (fun b off h0 e => by have := hbz b off h0 e; omega)).mono ?_
  rintro e w3 ⟨oa, oc, ops, rfl, hol, hOO, hD3⟩
  rw [hsz2] at hOO
  have hg2 : g < D0 := by omega
  have bD3 := bD.but hD3.gb (by simp; omega)
  have fD3 : ∀ o, w3.frozen? ⟨D0, o, none⟩ = false := fun o => dr_gb_frozen hD3.gb (by omega) (by omega) (fD o)
  have bR3 := bR2.but hD3.gb (by simp; omega)
  have fR3 : ∀ o, w3.frozen? ⟨w.heap.size, o, none⟩ = false := fun o => dr_gb_frozen hD3.gb (by omega) (by omega) (fR2 o)
  have hO3 := hO2.drawn (g := g) (by omega) hD3
  have hDw3 := hDw.trans hD3
  clear bD fD bR2 fR2 hO2 hDw hD3 hRD hOps
  go_wp2
  go_loopw [5] (fun i wr => ∃ (k : Nat) (a1 : Option Addr) (n1 c1 : Nat) (a2 : Option Addr) (n2 c2 : Nat) (d : Dt), k ≤ ops.length ∧ i = .int .i64 k ∧ Box3 wr D0 (.slice a1 n1 c1) (.slice a2 n2 c2) (.int .i64 d.l) ∧ (∀ o, wr.frozen? ⟨D0, o, none⟩ = false) ∧ Box3 wr w.heap.size (.slice none 0 0) (.slice none 0 0) (.int .i64 0) ∧ (∀ o, wr.frozen? ⟨w.heap.size, o, none⟩ = false) ∧ OwnD wr (w.heap.size + 1) (.agg #[.slice a1 n1 c1, .slice a2 n2 c2, .int .i64 d.l]) d ∧ Dr d k ∧ OwnO 59 wr (D0 + 1) (.slice oa ops.length oc) ops ∧ Drawn w wr g a n c bs) (fun i _ => ops.length - (RowKit.intOf i).toNat)
  case atStart => exact ⟨0, a1, n1, c1, a2, n2, c2, ⟨tabOf 8 [], [], 0⟩, Nat.zero_le _, rfl, bD3, fD3, bR3, fR3, hO3, Dr.new, hOO, hDw3⟩
  case round =>
    obtain ⟨k, a1, n1, c1, a2, n2, c2, d, hk, rfl, bD, fD, bR, fR, hOd, hDr, hOo, hDr2⟩ := hrel
    clear bD3 fD3 bR3 fR3 hO3 hOO hDw3
    by_cases hlt : k < ops.length
    · obtain ⟨xa, xcp, ex, hxl, hxz, hxn, hxc⟩ := hOo.rd
      simp only [Value.slice.injEq, true_and] at ex
      obtain ⟨rfl, rfl⟩ := ex
      obtain ⟨b, off, rfl, hb, hcell⟩ := hxc (by omega)
      obtain ⟨d0, d1, d2, d3⟩ := RdO.at hcell k hlt
      have hok : Op.ok ops[k] := hxz ops[k] (List.getElem_mem hlt)
      clear hcell hxc hxz
      generalize ops[k] = O at *
      obtain ⟨Oc, Oh, Ok, Ov⟩ := O
      obtain ⟨ok1, ok2, ok3, ok4⟩ := hok
      simp only at ok1 ok2 ok3 ok4 d0 d1 d2 d3
      obtain ⟨-, k0, k1, k2⟩ := id bD
      have hrd := hOd.rd
      by_cases h3 : Oc = 3
      · subst h3
        have HC := fun W h => l7Cut_any (.agg #[.slice a1 n1 c1, .slice a2 n2 c2, .int .i64 d.l]) d Oh Ok W h hDr.ok ok2.1 ok2.2
        have hDr' := hDr.cut Oh Ok ok2.1 ok2.2
        have ne0 := World.new_ne wr _ k0
        have ne1 := World.new_ne wr _ k1
        have ne2 := World.new_ne wr _ k2
        have ne3 := World.new_ne wr _ d1
        have ne4 := World.new_ne wr _ d2
        go_wp2_with fail
        go_region_held3 (fun W => W.cell? ⟨D0, 0, none⟩ = some (.slice a1 n1 c1) ∧ W.cell? ⟨D0, 1, none⟩ = some (.slice a2 n2 c2) ∧ W.cell? ⟨D0, 2, none⟩ = some (.int .i64 d.l) ∧ W.cell? ⟨b, off + k * 4 + 1, none⟩ = some (.int .u64 Oh) ∧ W.cell? ⟨b, off + k * 4 + 2, none⟩ = some (.int .i64 Ok)) (go_keep) (first | (go_at_call 55; refine (HC _ (by first | exact hrd.drew | exact (hrd.alloc _).drew)).mono ?_; rintro e w4 ⟨u, rfl, hOu, hB4⟩; obtain ⟨b1, m1, e1, b2, m2, e2, e0⟩ := hOu.rd.form; subst e0; simp only; (first | have y0 := keepc hB4 k0 | have y0 := keepc hB4 (cell_al _ k0)); (first | have y1 := keepc hB4 k1 | have y1 := keepc hB4 (cell_al _ k1)); (first | have y2 := keepc hB4 k2 | have y2 := keepc hB4 (cell_al _ k2)); (first | have y3 := keepc hB4 d1 | have y3 := keepc hB4 (cell_al _ d1)); (first | have y4 := keepc hB4 d2 | have y4 := keepc hB4 (cell_al _ d2)); (first | (have bN := ((Box3.new wr (.slice none 0 0) (.slice none 0 0) (.int .i64 0) 25).drew).keep hB4; obtain ⟨-, z0, z1, z2⟩ := id bN; have f0 := froz_al _ ⟨_, _, rfl⟩ hB4 0; have f1 := froz_al _ ⟨_, _, rfl⟩ hB4 1; have f2 := froz_al _ ⟨_, _, rfl⟩ hB4 2) | skip)))
        · have A : Aft wr (w4.alloc (.cells #[.slice b1 m1 e1, .slice b2 m2 e2, .int .i64 (cutD d Oh Ok).1.l] 25)) w4.heap.size (.slice b1 m1 e1) (.slice b2 m2 e2) (.int .i64 (cutD d Oh Ok).1.l) (.agg #[.slice b1 m1 e1, .slice b2 m2 e2, .int .i64 (cutD d Oh Ok).1.l]) (cutD d Oh Ok).1 := aft2 hB4 hOu
          generalize hWf : (w4.alloc (.cells #[.slice b1 m1 e1, .slice b2 m2 e2, .int .i64 (cutD d Oh Ok).1.l] 25)) = Wf at A ⊢
          generalize hEE : w4.heap.size = EE at A ⊢
          clear hWf
          obtain ⟨V, bx, ge, ow⟩ := A
          have hDlt := bD.1
          have bD' := bD.keep V
          have bR' := bR.keep V
          have fD' : ∀ o, Wf.frozen? ⟨D0, o, none⟩ = false := fun o => (V.frozen (p := ⟨D0, o, none⟩) bD.1).trans (fD o)
          have fR' : ∀ o, Wf.frozen? ⟨w.heap.size, o, none⟩ = false := fun o => (V.frozen (p := ⟨w.heap.size, o, none⟩) bR.1).trans (fR o)
          have oo' := hOo.keep V
          have dr' := hDr2.below V
          have hne : EE ≠ D0 := by omega
          clear hEE hB4 hOu bD bR fD fR hOo hDr2 k0 k1 k2 hrd HC V
          obtain ⟨-, q0, q1, q2⟩ := id bD'
          obtain ⟨-, r0, r1, r2⟩ := id bx
          have f0 := fD' 0
          have f1 := fD' 1
          have f2 := fD' 2
          go_wp2
          go_roundw
          case rel =>
            refine ⟨k + 1, b1, m1, e1, b2, m2, e2, (cutD d Oh Ok).1, by omega, by go_num, ((bD'.p0 _).p1 _).p2 _, fun o => by simp only [World.frozen?_setCell]; exact fD' o, ((bR'.far (by omega) _).far (by omega) _).far (by omega) _, fun o => by simp only [World.frozen?_setCell]; exact fR' o, ?_, hDr', ?_, ?_⟩
            · exact ((((ow.mono (B' := D0 + 1) (by omega)).setB (by omega) _).setB (by omega) _).setB (by omega) _).mono (by omega)
            · exact ((oo'.setBelow (by simp) _).setBelow (by simp) _).setBelow (by simp) _
            · exact ((dr'.grown (gb_set _ D0 _ _) (fun j hj => by cases hj; omega) hglt hbz).grown (gb_set _ D0 _ _) (fun j hj => by cases hj; omega) hglt hbz).grown (gb_set _ D0 _ _) (fun j hj => by cases hj; omega) hglt hbz
          case measure => simp [RowKit.intOf]; omega
        · have A : Aft wr (((w4.setCell ⟨wr.heap.size, 0, none⟩ (.slice b1 m1 e1)).setCell ⟨wr.heap.size, 1, none⟩ (.slice b2 m2 e2)).setCell ⟨wr.heap.size, 2, none⟩ (.int .i64 (cutD d Oh Ok).1.l)) wr.heap.size (.slice b1 m1 e1) (.slice b2 m2 e2) (.int .i64 (cutD d Oh Ok).1.l) (.agg #[.slice b1 m1 e1, .slice b2 m2 e2, .int .i64 (cutD d Oh Ok).1.l]) (cutD d Oh Ok).1 := aft1 hB4 hOu
          generalize hWf : (((w4.setCell ⟨wr.heap.size, 0, none⟩ (.slice b1 m1 e1)).setCell ⟨wr.heap.size, 1, none⟩ (.slice b2 m2 e2)).setCell ⟨wr.heap.size, 2, none⟩ (.int .i64 (cutD d Oh Ok).1.l)) = Wf at A ⊢
          generalize hEE : wr.heap.size = EE at A ⊢
          clear hWf
          obtain ⟨V, bx, ge, ow⟩ := A
          have hDlt := bD.1
          have bD' := bD.keep V
          have bR' := bR.keep V
          have fD' : ∀ o, Wf.frozen? ⟨D0, o, none⟩ = false := fun o => (V.frozen (p := ⟨D0, o, none⟩) bD.1).trans (fD o)
          have fR' : ∀ o, Wf.frozen? ⟨w.heap.size, o, none⟩ = false := fun o => (V.frozen (p := ⟨w.heap.size, o, none⟩) bR.1).trans (fR o)
          have oo' := hOo.keep V
          have dr' := hDr2.below V
          have hne : EE ≠ D0 := by omega
          clear hEE hB4 hOu bD bR fD fR hOo hDr2 k0 k1 k2 hrd HC V
          obtain ⟨-, q0, q1, q2⟩ := id bD'
          obtain ⟨-, r0, r1, r2⟩ := id bx
          have f0 := fD' 0
          have f1 := fD' 1
          have f2 := fD' 2
          go_wp2
          go_roundw
          case rel =>
            refine ⟨k + 1, b1, m1, e1, b2, m2, e2, (cutD d Oh Ok).1, by omega, by go_num, ((bD'.p0 _).p1 _).p2 _, fun o => by simp only [World.frozen?_setCell]; exact fD' o, ((bR'.far (by omega) _).far (by omega) _).far (by omega) _, fun o => by simp only [World.frozen?_setCell]; exact fR' o, ?_, hDr', ?_, ?_⟩
            · exact ((((ow.mono (B' := D0 + 1) (by omega)).setB (by omega) _).setB (by omega) _).setB (by omega) _).mono (by omega)
            · exact ((oo'.setBelow (by simp) _).setBelow (by simp) _).setBelow (by simp) _
            · exact ((dr'.grown (gb_set _ D0 _ _) (fun j hj => by cases hj; omega) hglt hbz).grown (gb_set _ D0 _ _) (fun j hj => by cases hj; omega) hglt hbz).grown (gb_set _ D0 _ _) (fun j hj => by cases hj; omega) hglt hbz
          case measure => simp [RowKit.intOf]; omega
      · have h3' : (Oc == 3) = false := by simpa using h3
        have HC := fun W h => l7Put_any (.agg #[.slice a1 n1 c1, .slice a2 n2 c2, .int .i64 d.l]) d Oh Ok Ov W h hDr.ok ok2.1 ok2.2 ok3 ok4
        have hDr' := hDr.put (by omega) Oh Ok Ov ⟨ok2, ok3, ok4⟩
        clear h3
        have ne0 := World.new_ne wr _ k0
        have ne1 := World.new_ne wr _ k1
        have ne2 := World.new_ne wr _ k2
        have ne3 := World.new_ne wr _ d1
        have ne4 := World.new_ne wr _ d2
        have ne5 := World.new_ne wr _ d3
        go_wp2_with fail
        go_region_held3 (fun W => W.cell? ⟨D0, 0, none⟩ = some (.slice a1 n1 c1) ∧ W.cell? ⟨D0, 1, none⟩ = some (.slice a2 n2 c2) ∧ W.cell? ⟨D0, 2, none⟩ = some (.int .i64 d.l) ∧ W.cell? ⟨b, off + k * 4 + 1, none⟩ = some (.int .u64 Oh) ∧ W.cell? ⟨b, off + k * 4 + 2, none⟩ = some (.int .i64 Ok) ∧ W.cell? ⟨b, off + k * 4 + 3, none⟩ = some (.int .i64 Ov)) (go_keep) (first | (go_at_call 53; refine (HC _ (by first | exact hrd.drew | exact (hrd.alloc _).drew)).mono ?_; rintro e w4 ⟨u, rfl, hOu, hB4⟩; obtain ⟨b1, m1, e1, b2, m2, e2, e0⟩ := hOu.rd.form; subst e0; simp only; (first | have y0 := keepc hB4 k0 | have y0 := keepc hB4 (cell_al _ k0)); (first | have y1 := keepc hB4 k1 | have y1 := keepc hB4 (cell_al _ k1)); (first | have y2 := keepc hB4 k2 | have y2 := keepc hB4 (cell_al _ k2)); (first | have y3 := keepc hB4 d1 | have y3 := keepc hB4 (cell_al _ d1)); (first | have y4 := keepc hB4 d2 | have y4 := keepc hB4 (cell_al _ d2)); (first | have y5 := keepc hB4 d3 | have y5 := keepc hB4 (cell_al _ d3)); (first | (have bN := ((Box3.new wr (.slice none 0 0) (.slice none 0 0) (.int .i64 0) 25).drew).keep hB4; obtain ⟨-, z0, z1, z2⟩ := id bN; have f0 := froz_al _ ⟨_, _, rfl⟩ hB4 0; have f1 := froz_al _ ⟨_, _, rfl⟩ hB4 1; have f2 := froz_al _ ⟨_, _, rfl⟩ hB4 2) | skip)))
        · have A : Aft wr (w4.alloc (.cells #[.slice b1 m1 e1, .slice b2 m2 e2, .int .i64 (putD d Oh Ok Ov).1.l] 25)) w4.heap.size (.slice b1 m1 e1) (.slice b2 m2 e2) (.int .i64 (putD d Oh Ok Ov).1.l) (.agg #[.slice b1 m1 e1, .slice b2 m2 e2, .int .i64 (putD d Oh Ok Ov).1.l]) (putD d Oh Ok Ov).1 := aft2 hB4 hOu
          generalize hWf : (w4.alloc (.cells #[.slice b1 m1 e1, .slice b2 m2 e2, .int .i64 (putD d Oh Ok Ov).1.l] 25)) = Wf at A ⊢
          generalize hEE : w4.heap.size = EE at A ⊢
          clear hWf
          obtain ⟨V, bx, ge, ow⟩ := A
          have hDlt := bD.1
          have bD' := bD.keep V
          have bR' := bR.keep V
          have fD' : ∀ o, Wf.frozen? ⟨D0, o, none⟩ = false := fun o => (V.frozen (p := ⟨D0, o, none⟩) bD.1).trans (fD o)
          have fR' : ∀ o, Wf.frozen? ⟨w.heap.size, o, none⟩ = false := fun o => (V.frozen (p := ⟨w.heap.size, o, none⟩) bR.1).trans (fR o)
          have oo' := hOo.keep V
          have dr' := hDr2.below V
          have hne : EE ≠ D0 := by omega
          clear hEE hB4 hOu bD bR fD fR hOo hDr2 k0 k1 k2 hrd HC V
          obtain ⟨-, q0, q1, q2⟩ := id bD'
          obtain ⟨-, r0, r1, r2⟩ := id bx
          have f0 := fD' 0
          have f1 := fD' 1
          have f2 := fD' 2
          go_wp2
          go_roundw
          case rel =>
            refine ⟨k + 1, b1, m1, e1, b2, m2, e2, (putD d Oh Ok Ov).1, by omega, by go_num, ((bD'.p0 _).p1 _).p2 _, fun o => by simp only [World.frozen?_setCell]; exact fD' o, ((bR'.far (by omega) _).far (by omega) _).far (by omega) _, fun o => by simp only [World.frozen?_setCell]; exact fR' o, ?_, hDr', ?_, ?_⟩
            · exact ((((ow.mono (B' := D0 + 1) (by omega)).setB (by omega) _).setB (by omega) _).setB (by omega) _).mono (by omega)
            · exact ((oo'.setBelow (by simp) _).setBelow (by simp) _).setBelow (by simp) _
            · exact ((dr'.grown (gb_set _ D0 _ _) (fun j hj => by cases hj; omega) hglt hbz).grown (gb_set _ D0 _ _) (fun j hj => by cases hj; omega) hglt hbz).grown (gb_set _ D0 _ _) (fun j hj => by cases hj; omega) hglt hbz
          case measure => simp [RowKit.intOf]; omega
        · have A : Aft wr (((w4.setCell ⟨wr.heap.size, 0, none⟩ (.slice b1 m1 e1)).setCell ⟨wr.heap.size, 1, none⟩ (.slice b2 m2 e2)).setCell ⟨wr.heap.size, 2, none⟩ (.int .i64 (putD d Oh Ok Ov).1.l)) wr.heap.size (.slice b1 m1 e1) (.slice b2 m2 e2) (.int .i64 (putD d Oh Ok Ov).1.l) (.agg #[.slice b1 m1 e1, .slice b2 m2 e2, .int .i64 (putD d Oh Ok Ov).1.l]) (putD d Oh Ok Ov).1 := aft1 hB4 hOu
          generalize hWf : (((w4.setCell ⟨wr.heap.size, 0, none⟩ (.slice b1 m1 e1)).setCell ⟨wr.heap.size, 1, none⟩ (.slice b2 m2 e2)).setCell ⟨wr.heap.size, 2, none⟩ (.int .i64 (putD d Oh Ok Ov).1.l)) = Wf at A ⊢
          generalize hEE : wr.heap.size = EE at A ⊢
          clear hWf
          obtain ⟨V, bx, ge, ow⟩ := A
          have hDlt := bD.1
          have bD' := bD.keep V
          have bR' := bR.keep V
          have fD' : ∀ o, Wf.frozen? ⟨D0, o, none⟩ = false := fun o => (V.frozen (p := ⟨D0, o, none⟩) bD.1).trans (fD o)
          have fR' : ∀ o, Wf.frozen? ⟨w.heap.size, o, none⟩ = false := fun o => (V.frozen (p := ⟨w.heap.size, o, none⟩) bR.1).trans (fR o)
          have oo' := hOo.keep V
          have dr' := hDr2.below V
          have hne : EE ≠ D0 := by omega
          clear hEE hB4 hOu bD bR fD fR hOo hDr2 k0 k1 k2 hrd HC V
          obtain ⟨-, q0, q1, q2⟩ := id bD'
          obtain ⟨-, r0, r1, r2⟩ := id bx
          have f0 := fD' 0
          have f1 := fD' 1
          have f2 := fD' 2
          go_wp2
          go_roundw
          case rel =>
            refine ⟨k + 1, b1, m1, e1, b2, m2, e2, (putD d Oh Ok Ov).1, by omega, by go_num, ((bD'.p0 _).p1 _).p2 _, fun o => by simp only [World.frozen?_setCell]; exact fD' o, ((bR'.far (by omega) _).far (by omega) _).far (by omega) _, fun o => by simp only [World.frozen?_setCell]; exact fR' o, ?_, hDr', ?_, ?_⟩
            · exact ((((ow.mono (B' := D0 + 1) (by omega)).setB (by omega) _).setB (by omega) _).setB (by omega) _).mono (by omega)
            · exact ((oo'.setBelow (by simp) _).setBelow (by simp) _).setBelow (by simp) _
            · exact ((dr'.grown (gb_set _ D0 _ _) (fun j hj => by cases hj; omega) hglt hbz).grown (gb_set _ D0 _ _) (fun j hj => by cases hj; omega) hglt hbz).grown (gb_set _ D0 _ _) (fun j hj => by cases hj; omega) hglt hbz
          case measure => simp [RowKit.intOf]; omega
    · obtain rfl : k = ops.length := by omega
      obtain ⟨-, q0, q1, q2⟩ := id bD
      obtain ⟨-, r0, r1, r2⟩ := id bR
      have f0 := fR 0
      have f1 := fR 1
      have f2 := fR 2
      have s0 := bR.p0 (.slice a1 n1 c1)
      have s1 := s0.p1 (.slice a2 n2 c2)
      have s2 := s1.p2 (.int .i64 d.l)
      go_wp2
      refine bodyPost_ret (v := .agg #[.slice a1 n1 c1, .slice a2 n2 c2, .int .i64 d.l]) (by simp [results, Try.results88, go_sem, s0.2.1, s1.2.2.1, s2.2.2.2]) rfl ⟨_, d, rfl, ?_, ⟨hDr.ok, hDr.eok, by have := hDr.len; omega, hDr.sl⟩, ?_⟩
      · exact (((hOd.setB (by omega) _).setB (by omega) _).setB (by omega) _).mono (by omega)
      · exact ((hDr2.grown (gb_set _ _ _ _) (fun j hj => by cases hj; omega) hglt hbz).grown (gb_set _ _ _ _) (fun j hj => by cases hj; omega) hglt hbz).grown (gb_set _ _ _ _) (fun j hj => by cases hj; omega) hglt hbz
end Go.Proofs.Ytjoddjejobdcoaa
