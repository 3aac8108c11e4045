import Derived.Test.YtnpjlmnhailipaaLyP
import Derived.Maps.OwnSet
import Derived.Maps.OwnOps
namespace Go.Proofs.Ytnpjlmnhailipaa
open Go.RowKit Go.Maps
set_option linter.unusedVariables false
set_option linter.unusedSimpArgs false

/-- How an element of a map reads: as itself. -/
def heldR (v : Value) : Option (DataW Value × List MemPlace) := some (.held v, [])
theorem zeroRow (w : World) : (zeroValue 106).run Try.prog w = .ok (.agg #[.int .u64 0, .int .u64 0, .int .u64 0]) w := by kernel_rfl
theorem keyed64 : Keyed Try.prog 37 := int_keyed Try.underlying37

theorem FF.tail {n : Nat} {L : List Int} {p : Nat × Nat} {J j : Nat} (hF : FF n L p J) (ho : ∀ i, i < j → L.getD (it n p i).1 0 ≠ -1) : FF n L (it n p j) (J - j) ∧ it n (it n p j) (J - j) = it n p J := by
  have hJ : j ≤ J := by
    rcases Nat.lt_or_ge J j with h | h
    · exact absurd hF.1 (ho J h)
    · exact h
  have e : it n (it n p j) (J - j) = it n p J := by rw [it_add, show j + (J - j) = J by omega]
  exact ⟨⟨by rw [e]; exact hF.1, fun i hi => by rw [it_add]; exact hF.2 _ (by omega)⟩, e⟩
/-- What the map of rows says: where a hash was put last, all that its row came by is taken. -/
def RowsOk (n : Nat) (L : List Int) (D : DataW Value) : Prop :=
  ∀ h : Nat, h < 2 ^ 64 → has D (.int .u64 (h : Int)) = true → ∃ j, (∀ z, D.atKey (.int .u64 (h : Int)) z = .held (rowv n (it n (r0 n h) j))) ∧ ∀ i, i < j → L.getD (it n (r0 n h) i).1 0 ≠ -1

/-- Four cells of a block. -/
def Box4 (w : World) (b : Nat) (x y z t : Value) : Prop := b < w.heap.size ∧ w.cell? ⟨b, 0, none⟩ = some x ∧ w.cell? ⟨b, 1, none⟩ = some y ∧ w.cell? ⟨b, 2, none⟩ = some z ∧ w.cell? ⟨b, 3, none⟩ = some t
theorem Box4.keep {w w' : World} {b : Nat} {x y z t : Value} (h : Box4 w b x y z t) (hb : Below w.heap.size w w') : Box4 w' b x y z t :=
  ⟨Nat.lt_of_lt_of_le h.1 hb.size, (hb.cell (p := ⟨b, 0, none⟩) h.1).trans h.2.1, (hb.cell (p := ⟨b, 1, none⟩) h.1).trans h.2.2.1, (hb.cell (p := ⟨b, 2, none⟩) h.1).trans h.2.2.2.1, (hb.cell (p := ⟨b, 3, none⟩) h.1).trans h.2.2.2.2⟩
theorem Box4.new (w : World) (x y z u : Value) (t : TypeId) : Box4 (w.alloc (.cells #[x, y, z, u] t)) w.heap.size x y z u :=
  ⟨by simp, by rw [World.cell?_alloc_at _ _ _ _ rfl]; rfl, by rw [World.cell?_alloc_at _ _ _ _ rfl]; rfl, by rw [World.cell?_alloc_at _ _ _ _ rfl]; rfl, by rw [World.cell?_alloc_at _ _ _ _ rfl]; rfl⟩
theorem Box4.alloc {w : World} {b : Nat} {x y z t : Value} (h : Box4 w b x y z t) (o : Obj) : Box4 (w.alloc o) b x y z t := h.keep ((Below.refl _ _).alloc (Nat.le_refl _) o)
theorem Box4.drew {w : World} {b : Nat} {x y z t : Value} (h : Box4 w b x y z t) : Box4 w.drew b x y z t := h.keep (Below.refl _ _).drew
theorem Box4.far {w : World} {b c o : Nat} {x y z t : Value} (h : Box4 w b x y z t) (hne : c ≠ b) (u : Value) : Box4 (w.setCell ⟨c, o, none⟩ u) b x y z t :=
  ⟨by simpa [World.setCell] using h.1, (World.cell?_setCell_far _ _ _ _ hne).trans h.2.1, (World.cell?_setCell_far _ _ _ _ hne).trans h.2.2.1, (World.cell?_setCell_far _ _ _ _ hne).trans h.2.2.2.1, (World.cell?_setCell_far _ _ _ _ hne).trans h.2.2.2.2⟩
theorem frozen_new2 {w w' : World} {c : Array Value} {t : TypeId} (hB : Below (w.alloc (.cells c t)).heap.size (w.alloc (.cells c t)) w') : ∀ o, w'.frozen? ⟨w.heap.size, o, none⟩ = false := fun o => by
  rw [hB.frozen (p := ⟨w.heap.size, o, none⟩) (by simp)]; exact World.frozen?_alloc_at _ _ _ _ rfl

/-- What stands while the slots are laid. -/
structure LI (g n B M : Nat) (ve vl : Value) (w wr : World) (L : List Int) (k : Nat) (D : DataW Value) : Prop where
  box : Box3 wr g (.slice (some ⟨B, 0, none⟩) n n) ve vl
  fz : ∀ o, wr.frozen? ⟨g, o, none⟩ = false
  own : Own wr B (.slice (some ⟨B, 0, none⟩) n n) L
  map : wr.ownsMap Try.prog 37 heldR M k D
  gr : w.grownBy wr (some g)
  gw : g < w.heap.size
  wB : w.heap.size ≤ B
  BM : B < M
theorem LI.keep {g n B M : Nat} {ve vl : Value} {w wr w' : World} {L : List Int} {k : Nat} {D : DataW Value} (h : LI g n B M ve vl w wr L k D) (hb : Below wr.heap.size wr w') : LI g n B M ve vl w w' L k D :=
  ⟨h.box.keep hb, fun o => (hb.frozen (p := ⟨g, o, none⟩) h.box.1).trans (h.fz o), h.own.keep hb, h.map.kept (gb_below none hb) (by simp), gb_trans h.gr (gb_below _ hb), h.gw, h.wB, h.BM⟩
theorem LI.alloc {g n B M : Nat} {ve vl : Value} {w wr : World} {L : List Int} {k : Nat} {D : DataW Value} (h : LI g n B M ve vl w wr L k D) (o : Obj) : LI g n B M ve vl w (wr.alloc o) L k D := h.keep ((Below.refl _ _).alloc (Nat.le_refl _) o)
theorem LI.drew {g n B M : Nat} {ve vl : Value} {w wr : World} {L : List Int} {k : Nat} {D : DataW Value} (h : LI g n B M ve vl w wr L k D) : LI g n B M ve vl w wr.drew L k D := h.keep (Below.refl _ _).drew
theorem LI.set {g n B M : Nat} {ve vl : Value} {w wr : World} {L : List Int} {k : Nat} {D : DataW Value} (h : LI g n B M ve vl w wr L k D) {c : Nat} (hc : M < c) (o : Nat) (u : Value) : LI g n B M ve vl w (wr.setCell ⟨c, o, none⟩ u) L k D := by
  have h1 := h.gw; have h2 := h.wB; have h3 := h.BM
  refine ⟨h.box.far (by omega) u, fun o' => (World.frozen?_setCell _ _ _ _).trans (h.fz o'), h.own.but (gb_set _ c o u) (.inr ?_), h.map.setCell (by show M ≠ c; omega) u, ?_, h.gw, h.wB, h.BM⟩
  · simp [Value.ownBlock]; omega
  · refine ⟨h.gr.os, h.gr.tape, h.gr.output, by simpa [World.setCell] using h.gr.size, fun i hi hne => ?_⟩
    rw [(gb_set wr c o u).block i (Nat.lt_of_lt_of_le hi h.gr.size) (by simp; omega)]
    exact h.gr.block i hi hne
theorem LI.store {g n B M : Nat} {ve vl : Value} {w wr : World} {L : List Int} {k : Nat} {D : DataW Value} (h : LI g n B M ve vl w wr L k D) (o : Nat) {z : Int} (h0 : -9223372036854775808 ≤ z) (h1 : z < 9223372036854775808) : LI g n B M ve vl w (wr.setCell ⟨B, o, none⟩ (.int .i64 z)) (L.set o z) k D := by
  have q1 := h.gw; have q2 := h.wB; have q3 := h.BM
  refine ⟨h.box.far (by omega) _, fun o' => (World.frozen?_setCell _ _ _ _).trans (h.fz o'), h.own.store o h0 h1, h.map.setCell (by show M ≠ B; omega) _, ?_, h.gw, h.wB, h.BM⟩
  refine ⟨h.gr.os, h.gr.tape, h.gr.output, by simpa [World.setCell] using h.gr.size, fun i hi hne => ?_⟩
  rw [(gb_set wr B o _).block i (Nat.lt_of_lt_of_le hi h.gr.size) (by simp; omega)]
  exact h.gr.block i hi hne
theorem LI.put {g n B M : Nat} {ve vl : Value} {w wr w' : World} {L : List Int} {k k' : Nat} {D D' : DataW Value} (h : LI g n B M ve vl w wr L k D) (hm : w'.ownsMap Try.prog 37 heldR M k' D') (hg : wr.grownBy w' (some M)) : LI g n B M ve vl w w' L k' D' := by
  have h1 := h.gw; have h2 := h.wB; have h3 := h.BM
  have hbg : w'.heap[g]? = wr.heap[g]? := hg.block g h.box.1 (by simp; omega)
  refine ⟨h.box.but hg (by simp; omega), fun o => (World.frozen?_of_block hbg).trans (h.fz o), h.own.but hg (.inr (by simp [Value.ownBlock]; omega)), hm, ?_, h.gw, h.wB, h.BM⟩
  refine ⟨hg.os.trans h.gr.os, hg.tape.trans h.gr.tape, hg.output.trans h.gr.output, Nat.le_trans h.gr.size hg.size, fun i hi hne => ?_⟩
  rw [hg.block i (Nat.lt_of_lt_of_le hi h.gr.size) (by simp; omega)]
  exact h.gr.block i hi hne

theorem rowsOk_put {n : Nat} {L : List Int} {D : DataW Value} (hR : RowsOk n L D) (hD : IsMap D) {H j : Nat} {s : Nat} {z : Int} (hz : z ≠ -1) (hs : s < L.length) (hF : FF n L (r0 n H) j) (hsj : s = (it n (r0 n H) j).1) :
    RowsOk n (L.set s z) (D.put (.int .u64 (H : Int)) (.held (rowv n (it n (r0 n H) j)))) := by
  have hocc : ∀ t, L.getD t 0 ≠ -1 → (L.set s z).getD t 0 ≠ -1 := by
    intro t ht
    rw [getD_set _ _ _ _ hs]
    split
    · exact hz
    · exact ht
  intro h hh hhas
  by_cases e : h = H
  · subst e
    exact ⟨j, fun z' => atKey_put_same hD (by trivial) _ _, fun i hi => hocc _ (hF.2 i hi)⟩
  · have hne : (Lit.int .u64 (h : Int)) ≠ .int .u64 (H : Int) := by
      intro e2; simp at e2; omega
    rw [has_put_other hne] at hhas
    obtain ⟨j', h1, h2⟩ := hR h hh hhas
    exact ⟨j', fun z' => (atKey_put_other hne _ _).trans (h1 z'), fun i hi => hocc _ (h2 i hi)⟩

set_option maxRecDepth 100000 in
set_option maxHeartbeats 2000000 in
theorem lay_any (g n : Nat) (vs ve vl : Value) (es : List En) (w : World) (hm : ∃ m, m ≤ 16 ∧ n = 2 ^ m) (hl : es.length < n) (hB : Box3 w g vs ve vl) (hfz : ∀ o, w.frozen? ⟨g, o, none⟩ = false) (hE : RdE w ve es) (hne : ∀ a l c, ve = .slice (some a) l c → a.block ≠ g) :
    Calls Try.prog 67 #[.pointer (some ⟨g, 0, none⟩), .int .i64 n] w fun e w' => e = .returned (.tuple #[]) ∧
      ∃ b, w.heap.size ≤ b ∧ Box3 w' g (.slice (some ⟨b, 0, none⟩) n n) ve vl ∧ (∀ o, w'.frozen? ⟨g, o, none⟩ = false) ∧ Own w' b (.slice (some ⟨b, 0, none⟩) n n) (tabOf n es) ∧ w.grownBy w' (some g) := by
  have hpos : 0 < n := by obtain ⟨m, _, rfl⟩ := hm; exact Nat.two_pow_pos m
  have hn : n ≤ 65536 := by obtain ⟨m, h, rfl⟩ := hm; exact sz_le h
  have HRep := fun v W h => repeat_any v n W hn hpos h
  have hmm := @run_makeMap Try.prog
  obtain ⟨hg, k0, k1, k2⟩ := id hB
  have f0 := hfz 0
  obtain ⟨a, cap, rfl, hlx, hzx, hnx, hcx⟩ := id hE
  have hone := Rd.one w w.heap.size rfl 2 (z := -1) (by omega) (by omega)
  go_enter Try.func67, Try.ntmps67
  go_wp2_with (go_at_call 85; refine (HRep _ _ hone).mono ?_; rintro e w1 ⟨rfl, hO1, hB1⟩; have hBx1 := (hB.alloc (Obj.cells #[.int .i64 (-1)] 2)).keep hB1; obtain ⟨hg1, m0, m1, m2⟩ := id hBx1; have f1 : w1.frozen? ⟨g, 0, none⟩ = false := by rw [hB1.frozen (p := ⟨g, 0, none⟩) (by simp; omega), World.frozen?_alloc_past _ _ _ hg]; exact f0)
  have hsz1 := hB1.size
  simp only [World.size_alloc] at hO1 hsz1 hB1
  obtain ⟨B, hBB⟩ : ∃ B, B = w.heap.size + 1 := ⟨_, rfl⟩
  obtain ⟨M, hMM⟩ : ∃ M, M = w1.heap.size := ⟨_, rfl⟩
  rw [← hBB] at hO1 ⊢
  have hBM : B < M := by have := (hO1.lt B rfl).2; omega
  have hL0 : LI g n B M (.slice a es.length cap) vl w ((w1.setCell ⟨g, 0, none⟩ (.slice (some ⟨B, 0, none⟩) n n)).alloc (Obj.map #[] 0)) (tabK n (hsOf es) 0) 0 (.map []) := by
    have hgr : w.grownBy w1 (some g) := gb_trans (World.grownBy_alloc w _ _) (gb_below _ (by simpa using hB1))
    refine ⟨(hBx1.p0 _).alloc _, fun o => ?_, ((hO1.but (gb_set w1 g 0 _) (.inr (by simp [Value.ownBlock]; omega))).alloc _).mono (Nat.le_refl _), ?_, gb_trans (gb_trans hgr (gb_set _ _ _ _)) (World.grownBy_alloc _ _ _), hg, by omega, hBM⟩
    · rw [World.frozen?_alloc_past _ _ _ (by simpa [World.setCell] using hg1), World.frozen?_setCell, hB1.frozen (p := ⟨g, o, none⟩) (by simp; omega), World.frozen?_alloc_past _ _ _ hg]; exact hfz o
    · have := World.ownsMap_made (H := Value) (w1.setCell ⟨g, 0, none⟩ (.slice (some ⟨B, 0, none⟩) n n)) Try.prog 37 heldR
      simpa [World.setCell, hMM] using this
  rw [← hMM]
  have HRow := fun h W hh => rowOf_any n h W hm hh
  have HFr := fun p j L W vs' ve' vl' hp hr hB hR hL hF => firstFree_any g n vs' ve' vl' L p j W hm hp hr hB hR hL hF
  clear hO1 hB1 hBx1 hone HRep k0 k1 k2 f0 m0 m1 m2 f1 hmm hBB hMM hsz1 hg1
  go_loopw [21] (fun i wr => ∃ (k : Nat) (D : DataW Value), k ≤ es.length ∧ i = .int .i64 k ∧ LI g n B M (.slice a es.length cap) vl w wr (tabK n (hsOf es) k) k D ∧ RowsOk n (tabK n (hsOf es) k) D) (fun i _ => es.length - (intOf i).toNat)
  case atStart => exact ⟨0, _, Nat.zero_le _, rfl, hL0, fun h _ hh => by simp [has] at hh⟩
  case round =>
    obtain ⟨k, D, hk, rfl, hLI, hRO⟩ := hrel
    clear hL0
    by_cases hlt : k < es.length
    · obtain ⟨b, off, rfl, hb, hcell⟩ := hcx (by omega)
      have hbg : b ≠ g := hne _ _ _ rfl
      have hcr : ∀ o, wr.cell? ⟨b, o, none⟩ = w.cell? ⟨b, o, none⟩ := fun o => World.cell?_of_block (hLI.gr.block b hb (by simp; omega))
      obtain ⟨d0, d1, d2, d3⟩ := RdE.at (w := wr) (fun k hk j hj => (hcr _).trans (hcell k hk j hj)) k hlt
      have hok := (hzx es[k] (List.getElem_mem hlt)).1
      obtain ⟨H, hH⟩ : ∃ H : Nat, H = es[k].h.toNat := ⟨_, rfl⟩
      have hHe : es[k].h = (H : Int) := by omega
      have hH64 : H < 2 ^ 64 := by omega
      have hgd : (hsOf es).getD k 0 = H := by rw [hsOf_getD es k hlt, hH]
      rw [hHe] at d0
      obtain ⟨m, hm16, hmn⟩ := id hm
      obtain ⟨J, hJ, hF⟩ := tab_ff (m := m) (hs := hsOf es) (k := k) (by omega) (p := r0 n H) (by rw [← hmn]; exact Nat.mod_lt _ hpos) hH64
      rw [← hmn] at hF hJ
      have hst : tabK n (hsOf es) (k + 1) = (tabK n (hsOf es) k).set (it n (r0 n H) J).1 k := by
        show (tabK n (hsOf es) k).set (slotOf n (tabK n (hsOf es) k) ((hsOf es).getD k 0)) k = _
        unfold slotOf; rw [hgd, ffj_eq hF]
      have hLl : (tabK n (hsOf es) k).length = n := tabK_length _ _ _
      have Hst : Hid (tabK n (hsOf es) (k + 1) = (tabK n (hsOf es) k).set (it n (r0 n H) J).1 k) := hst
      generalize tabK n (hsOf es) k = L at *
      have hwf : (Lit.int .u64 (H : Int)).wf = true := WalkArith.wf_u64 (by omega)
      have hkey : keyOf Try.prog 37 (.int .u64 (H : Int)) = some (.int .u64 (H : Int)) := keyOf_int_mk Try.underlying37 hwf
      generalize es[k] = E at *
      obtain ⟨Eh, Ek, Ev, Eg⟩ := E
      simp only at d0 d1 d2 d3
      clear hst hcell hcr hcx hok hH hHe hgd hzx hE hmn
      have hMc : M < wr.heap.size + 1 := Nat.lt_succ_of_lt hLI.map.lt
      simp only [rowv] at HRow HFr
      cases hhas : has D (.int .u64 (H : Int))
      · have hat : D.atKey (.int .u64 (H : Int)) (.held (.agg #[.int .u64 0, .int .u64 0, .int .u64 0])) = .held (.agg #[.int .u64 0, .int .u64 0, .int .u64 0]) := atKey_of_not_has hhas _
        go_wp2_with (first | (at_lookup; refine wpList_lookup_own_ok _ rfl _ _ 121 rfl 37 106 keyed64 Try.underlying121 heldR (zeroRow _) (.held (.agg #[.int .u64 0, .int .u64 0, .int .u64 0])) [] rfl M k D rfl (hLI.map.alloc _) _ _ rfl hkey ?_; intro v ps hv; obtain rfl : v = .agg #[.int .u64 0, .int .u64 0, .int .u64 0] := by (rw [hat] at hv; simp [heldR] at hv; exact hv.1)) | (go_at_call 75; refine (HRow H _ hH64).mono ?_; rintro e w2 ⟨rfl, hB2⟩; have I2 := ((hLI.alloc _).alloc _).keep hB2; have x2 := (((Box4.new wr (.int .u64 H) (.int .i64 Ek) (.int .i64 Ev) (.bool Eg) 97).alloc (.cells #[.int .u64 0, .int .u64 0, .int .u64 0] 106))).keep hB2; have r2 := (Box3.new (wr.alloc (.cells #[.int .u64 H, .int .i64 Ek, .int .i64 Ev, .bool Eg] 97)) (.int .u64 0) (.int .u64 0) (.int .u64 0) 106).keep hB2; have q2 := frozen_new2 hB2; simp only [World.size_alloc] at r2 q2; obtain ⟨-, y0, y1, y2⟩ := id r2; have p0 := q2 0; have p1 := q2 1; have p2 := q2 2; have I3 := ((I2.set hMc 0 (.int .u64 ((r0 n H).1 : Nat))).set hMc 1 (.int .u64 ((r0 n H).2 : Nat))).set hMc 2 (.int .u64 ((n : Int) - 1)); have r3 := ((r2.p0 (.int .u64 ((r0 n H).1 : Nat))).p1 (.int .u64 ((r0 n H).2 : Nat))).p2 (.int .u64 ((n : Int) - 1)); have x3 := ((x2.far (c := wr.heap.size + 1) (o := 0) (by omega) (.int .u64 ((r0 n H).1 : Nat))).far (c := wr.heap.size + 1) (o := 1) (by omega) (.int .u64 ((r0 n H).2 : Nat))).far (c := wr.heap.size + 1) (o := 2) (by omega) (.int .u64 ((n : Int) - 1)); obtain ⟨-, z0, z1, z2⟩ := id r3) | (go_at_call 79; refine (HFr (r0 n H) J L _ _ _ _ (Nat.mod_lt _ hpos) hH64 I3.box I3.own.rd hLl hF).mono ?_; rintro e w4 ⟨rfl, hB4⟩; have I4 := I3.keep hB4; have x4 := x3.keep hB4; have r4 := r3.keep hB4; have q4 : ∀ o, w4.frozen? ⟨wr.heap.size + 1, o, none⟩ = false := (fun o => by rw [hB4.frozen (p := ⟨wr.heap.size + 1, o, none⟩) r3.1, World.frozen?_setCell, World.frozen?_setCell, World.frozen?_setCell]; exact q2 o); clear y0 y1 y2 p0 p1 p2 z0 z1 z2; obtain ⟨-, y0, y1, y2⟩ := id r4; have p0 := q4 0; have p1 := q4 1; have p2 := q4 2))
        have I5 := ((I4.set hMc 0 (.int .u64 ((it n (r0 n H) J).1 : Nat))).set hMc 1 (.int .u64 ((it n (r0 n H) J).2 : Nat))).set hMc 2 (.int .u64 ((n : Int) - 1))
        have r5 := ((r4.p0 (.int .u64 ((it n (r0 n H) J).1 : Nat))).p1 (.int .u64 ((it n (r0 n H) J).2 : Nat))).p2 (.int .u64 ((n : Int) - 1))
        have x5 := ((x4.far (c := wr.heap.size + 1) (o := 0) (by omega) (.int .u64 ((it n (r0 n H) J).1 : Nat))).far (c := wr.heap.size + 1) (o := 1) (by omega) (.int .u64 ((it n (r0 n H) J).2 : Nat))).far (c := wr.heap.size + 1) (o := 2) (by omega) (.int .u64 ((n : Int) - 1))
        generalize (((w4.setCell ⟨wr.heap.size + 1, 0, none⟩ (.int .u64 ((it n (r0 n H) J).1 : Nat))).setCell ⟨wr.heap.size + 1, 1, none⟩ (.int .u64 ((it n (r0 n H) J).2 : Nat))).setCell ⟨wr.heap.size + 1, 2, none⟩ (.int .u64 ((n : Int) - 1))) = W5 at I5 r5 x5 ⊢
        have hsl : (it n (r0 n H) J).1 < n := it_lt hpos (Nat.mod_lt _ hpos) J
        obtain ⟨-, n0, n1, n2⟩ := id I5.box
        obtain ⟨-, t0, t1, t2⟩ := id r5
        have c5 := I5.own.cell (it n (r0 n H) J).1 (by omega)
        have f5 := I5.own.frozen (it n (r0 n H) J).1
        have hRB : B ≠ wr.heap.size + 1 := by omega
        have hRB' : B ≠ wr.heap.size := by have := hLI.map.lt; omega
        have hgB : B ≠ g := by have := hLI.wB; omega
        have I6 := (I5.store (it n (r0 n H) J).1 (z := k) (by omega) (by omega)).drew
        have r6 := (r5.far (c := B) (o := (it n (r0 n H) J).1) hRB (.int .i64 k)).drew
        have x6 := (x5.far (c := B) (o := (it n (r0 n H) J).1) hRB' (.int .i64 k)).drew
        clear y0 y1 y2 p0 p1 p2
        go_region
        clear n0 n1 n2 t0 t1 t2
        obtain ⟨-, t0, t1, t2⟩ := id r6
        obtain ⟨-, n0, -, -, -⟩ := id x6
        generalize hW6 : (W5.setCell ⟨B, (it n (r0 n H) J).1, none⟩ (.int .i64 (k : Int))).drew = W6 at *
        go_wp2_with (at_mapUpdate; refine wpList_mapUpdate_own _ rfl _ _ _ 121 rfl 37 106 keyed64 Try.underlying121 heldR M k D rfl I6.map (by unfold maxLen; omega) _ _ _ rfl rfl hkey _ [] rfl ?_; intro w7 hown7 hgrow7)
        go_roundw
        case rel =>
          refine ⟨k + 1, D.put (.int .u64 (H : Int)) (.held (rowv n (it n (r0 n H) J))), by omega, by go_num, ?_, ?_⟩
          · rw [Hst.out]; exact I6.put hown7 hgrow7
          · rw [Hst.out]; exact rowsOk_put hRO hLI.map.isMap (by omega) (by omega) hF rfl
        case measure => simp [intOf]; omega
      · obtain ⟨j0, hat0, hocc⟩ := hRO H hH64 hhas
        have hat := hat0 (.held (.agg #[.int .u64 0, .int .u64 0, .int .u64 0]))
        obtain ⟨hF0, hJ0⟩ := hF.tail hocc
        have hp0 : (it n (r0 n H) j0).1 < n := it_lt hpos (Nat.mod_lt _ hpos) j0
        have hr0 : (it n (r0 n H) j0).2 < 2 ^ 64 := by rw [it_rest]; exact Nat.lt_of_le_of_lt (Nat.div_le_self _ _) hH64
        have HF0 := fun W vs' ve' vl' hB hR => HFr (it n (r0 n H) j0) (J - j0) L W vs' ve' vl' hp0 hr0 hB hR hLl hF0
        rw [hJ0] at HF0
        clear hF0 hJ0 hat0 hocc
        simp only [rowv] at hat
        generalize hP : it n (r0 n H) j0 = P at *
        go_wp2_with (first | (at_lookup; refine wpList_lookup_own_ok _ rfl _ _ 121 rfl 37 106 keyed64 Try.underlying121 heldR (zeroRow _) (.held (.agg #[.int .u64 0, .int .u64 0, .int .u64 0])) [] rfl M k D rfl (hLI.map.alloc _) _ _ rfl hkey ?_; intro v ps hv; obtain rfl : v = .agg #[.int .u64 (P.1 : Nat), .int .u64 (P.2 : Nat), .int .u64 ((n : Int) - 1)] := by (rw [hat] at hv; simp [heldR] at hv; exact hv.1)) | (go_at_call 79; refine (HF0 _ _ _ _ ((hLI.alloc _).alloc _).box ((hLI.alloc _).alloc _).own.rd).mono ?_; rintro e w4 ⟨rfl, hB4⟩; have I4 := ((hLI.alloc _).alloc _).keep hB4; have x4 := (((Box4.new wr (.int .u64 H) (.int .i64 Ek) (.int .i64 Ev) (.bool Eg) 97).alloc (.cells #[.int .u64 (P.1 : Nat), .int .u64 (P.2 : Nat), .int .u64 ((n : Int) - 1)] 106))).keep hB4; have r4 := (Box3.new (wr.alloc (.cells #[.int .u64 H, .int .i64 Ek, .int .i64 Ev, .bool Eg] 97)) (.int .u64 (P.1 : Nat)) (.int .u64 (P.2 : Nat)) (.int .u64 ((n : Int) - 1)) 106).keep hB4; have q4 := frozen_new2 hB4; simp only [World.size_alloc] at r4 q4; obtain ⟨-, y0, y1, y2⟩ := id r4; have p0 := q4 0; have p1 := q4 1; have p2 := q4 2))
        have I5 := ((I4.set hMc 0 (.int .u64 ((it n (r0 n H) J).1 : Nat))).set hMc 1 (.int .u64 ((it n (r0 n H) J).2 : Nat))).set hMc 2 (.int .u64 ((n : Int) - 1))
        have r5 := ((r4.p0 (.int .u64 ((it n (r0 n H) J).1 : Nat))).p1 (.int .u64 ((it n (r0 n H) J).2 : Nat))).p2 (.int .u64 ((n : Int) - 1))
        have x5 := ((x4.far (c := wr.heap.size + 1) (o := 0) (by omega) (.int .u64 ((it n (r0 n H) J).1 : Nat))).far (c := wr.heap.size + 1) (o := 1) (by omega) (.int .u64 ((it n (r0 n H) J).2 : Nat))).far (c := wr.heap.size + 1) (o := 2) (by omega) (.int .u64 ((n : Int) - 1))
        generalize (((w4.setCell ⟨wr.heap.size + 1, 0, none⟩ (.int .u64 ((it n (r0 n H) J).1 : Nat))).setCell ⟨wr.heap.size + 1, 1, none⟩ (.int .u64 ((it n (r0 n H) J).2 : Nat))).setCell ⟨wr.heap.size + 1, 2, none⟩ (.int .u64 ((n : Int) - 1))) = W5 at I5 r5 x5 ⊢
        have hsl : (it n (r0 n H) J).1 < n := it_lt hpos (Nat.mod_lt _ hpos) J
        obtain ⟨-, n0, n1, n2⟩ := id I5.box
        obtain ⟨-, t0, t1, t2⟩ := id r5
        have c5 := I5.own.cell (it n (r0 n H) J).1 (by omega)
        have f5 := I5.own.frozen (it n (r0 n H) J).1
        have hRB : B ≠ wr.heap.size + 1 := by omega
        have hRB' : B ≠ wr.heap.size := by have := hLI.map.lt; omega
        have hgB : B ≠ g := by have := hLI.wB; omega
        have I6 := (I5.store (it n (r0 n H) J).1 (z := k) (by omega) (by omega)).drew
        have r6 := (r5.far (c := B) (o := (it n (r0 n H) J).1) hRB (.int .i64 k)).drew
        have x6 := (x5.far (c := B) (o := (it n (r0 n H) J).1) hRB' (.int .i64 k)).drew
        clear y0 y1 y2 p0 p1 p2
        go_region
        clear n0 n1 n2 t0 t1 t2
        obtain ⟨-, t0, t1, t2⟩ := id r6
        obtain ⟨-, n0, -, -, -⟩ := id x6
        generalize hW6 : (W5.setCell ⟨B, (it n (r0 n H) J).1, none⟩ (.int .i64 (k : Int))).drew = W6 at *
        go_wp2_with (at_mapUpdate; refine wpList_mapUpdate_own _ rfl _ _ _ 121 rfl 37 106 keyed64 Try.underlying121 heldR M k D rfl I6.map (by unfold maxLen; omega) _ _ _ rfl rfl hkey _ [] rfl ?_; intro w7 hown7 hgrow7)
        go_roundw
        case rel =>
          refine ⟨k + 1, D.put (.int .u64 (H : Int)) (.held (rowv n (it n (r0 n H) J))), by omega, by go_num, ?_, ?_⟩
          · rw [Hst.out]; exact I6.put hown7 hgrow7
          · rw [Hst.out]; exact rowsOk_put hRO hLI.map.isMap (by omega) (by omega) hF rfl
        case measure => simp [intOf]; omega
    · obtain rfl : k = es.length := by omega
      clear hcx
      go_wp2
      exact bodyPost_end (v := .tuple #[]) (by simp [results, Try.results67, go_sem]) rfl ⟨rfl, B, hLI.wB, hLI.box, hLI.fz, hLI.own, hLI.gr⟩
end Go.Proofs.Ytnpjlmnhailipaa
