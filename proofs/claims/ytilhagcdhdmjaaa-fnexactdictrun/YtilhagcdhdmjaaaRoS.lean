import Derived.Test.YtilhagcdhdmjaaaRoL
import Derived.Test.YtilhagcdhdmjaaaPuS
namespace Go.Proofs.Ytilhagcdhdmjaaa
open Go.RowKit Go.Maps
set_option linter.unusedVariables false
set_option linter.unusedSimpArgs false

set_option maxRecDepth 100000 in
theorem newSO_any (w : World) : Calls Try.prog 11 #[] w fun e w' => ∃ v, e = .returned v ∧ OwnD w' w.heap.size v ⟨tabOf 8 [], [], 0⟩ ∧ Below w.heap.size w w' := by
  have HT := fun v W h => l7Table_any v [] 3 W h (by omega) (by simp)
  simp only [show (2 ^ 3 : Nat) = 8 from rfl] at HT
  rw [show ((8 : Nat) : Int) = 8 from rfl] at HT
  go_enter Try.func11, Try.ntmps11
  go_wp2_with (go_at_call 39; refine (HT _ _ (rdE_empty _ _ _)).mono ?_; rintro e w2 ⟨ta, tc, rfl, hO, hB2⟩; have hR2 := ((Box3.new w (.slice none 0 0) (.slice none 0 0) (.int .i64 0) 25).alloc (Obj.cells #[] 63)).keep hB2; have hF2 : ∀ o, w2.frozen? ⟨w.heap.size, o, none⟩ = false := (fun o => by rw [hB2.frozen (p := ⟨w.heap.size, o, none⟩) (by simp; omega), World.frozen?_alloc_past _ _ _ (by simp)]; exact World.frozen?_alloc_at _ _ _ _ rfl); have hW2 : Below w.heap.size w w2 := (((Below.refl _ w).alloc (Nat.le_refl _) _).alloc (by simp) _).trans (hB2.mono (by simp; omega)); obtain ⟨-, n0, n1, n2⟩ := id hR2; have f0 := hF2 0; have f1 := hF2 1; have f2 := hF2 2; have hgl := hR2.1)
  have q0 := hR2.p0 (.slice ta 8 tc)
  have q1 := q0.p1 (.slice (some ⟨w2.heap.size, 0, none⟩) 0 0)
  have q2 := q1.p2 (.int .i64 0)
  have hz2 := hW2.size
  have hlo := hO.lt
  have q3 := q2.alloc (Obj.cells #[] 63)
  refine bodyPost_ret (v := dv (.slice ta 8 tc) (.slice (some ⟨w2.heap.size, 0, none⟩) 0 0) 0) (by
    simp [results, Try.results11, go_sem, dv, q3.2.1, q3.2.2.1, q3.2.2.2]) rfl ⟨_, rfl, ⟨_, _, rfl, ?_, OwnG.empty _ _ _ _ (by simp [World.setCell]) _ (by omega), ?_⟩, ?_⟩
  · have hne : (Value.slice ta 8 tc).ownBlock ≠ some w.heap.size := fun e => by have := hlo _ e; simp at this; omega
    exact ((((hO.but (gb_set _ _ _ _) (.inr hne)).but (gb_set _ _ _ _) (.inr hne)).but (gb_set _ _ _ _) (.inr hne)).alloc _).mono (by simp; omega)
  · right; intro e; have := (hlo w2.heap.size e).2; omega
  · refine Below.alloc (below_set (below_set (below_set hW2 hz2 (Nat.le_refl _) _) (by simpa [World.setCell] using hz2) (Nat.le_refl _) _) (by simpa [World.setCell] using hz2) (Nat.le_refl _) _) (by simpa [World.setCell] using hz2) _


theorem l7Num_any (b : Bool) (w : World) : Calls Try.prog 57 #[.bool b] w fun e w' => e = .returned (.int .i64 (if b then 1 else 0)) ∧ w' = w := by
  cases b
  · go_enter Try.func57, Try.ntmps57
    go_wp2
    go_ret
    exact ⟨rfl, rfl⟩
  · go_enter Try.func57, Try.ntmps57
    go_wp2
    go_ret
    exact ⟨rfl, rfl⟩
/-- The block D holds a dict. -/
def HasD (w : World) (D : Nat) : Prop := ∃ cur fz, w.heap[D]? = some (.cells cur 25 fz)
theorem HasD.ne {w : World} {D B : Nat} {v : Value} {xs : List Int} (h : HasD w D) (hO : Own w B v xs) : v.ownBlock ≠ some D := by
  obtain ⟨cur, fz, h⟩ := h
  rcases hO.1.2 with ⟨e, _⟩ | ⟨g', cap, cur', e, _, hh, _⟩
  · subst e; simp [Value.ownBlock]
  · subst e; intro e; simp [Value.ownBlock] at e; subst e; rw [h] at hh; simp at hh
theorem HasD.neE {w : World} {D B : Nat} {v : Value} {xs : List En} (h : HasD w D) (hO : OwnE 63 w B v xs) : v.ownBlock ≠ some D := by
  obtain ⟨cur, fz, h⟩ := h
  rcases hO.1.2 with ⟨e, _⟩ | ⟨g', cap, cur', e, _, hh, _⟩
  · subst e; simp [Value.ownBlock]
  · subst e; intro e; simp [Value.ownBlock] at e; subst e; rw [h] at hh; simp at hh
theorem HasD.of {w w' : World} {D : Nat} (h : HasD w D) (e : w'.heap[D]? = w.heap[D]?) : HasD w' D := by obtain ⟨c, f, h⟩ := h; exact ⟨c, f, e.trans h⟩
theorem HasD.lt {w : World} {D : Nat} (h : HasD w D) : D < w.heap.size := by
  obtain ⟨c, f, h⟩ := h
  rcases Nat.lt_or_ge D w.heap.size with k | k
  · exact k
  · rw [Array.getElem?_eq_none k] at h; cases h
theorem HasD.new (w : World) (cs : Array Value) (g : Nat) (hg : g = w.heap.size) : HasD (w.alloc (.cells cs 25)) g := by subst hg; exact ⟨cs, (0, 0), heap_alloc_new w _⟩
theorem HasD.set {w : World} {D o : Nat} (h : HasD w D) (u : Value) : HasD (w.setCell ⟨D, o, none⟩ u) D := by
  obtain ⟨c, f, h⟩ := h
  refine ⟨c.setIfInBounds o u, f, ?_⟩
  simp [World.setCell, Array.getElem?_modify, h]
theorem OwnD.setD {w : World} {B D o : Nat} {v : Value} {d : Dt} (h : OwnD w B v d) (hD : HasD w D) (u : Value) : OwnD (w.setCell ⟨D, o, none⟩ u) B v d := by
  obtain ⟨vs, ve, e, s, en, hne⟩ := h
  exact ⟨vs, ve, e, s.but (gb_set _ _ _ _) (.inr (hD.ne s)), en.but (gb_set _ _ _ _) (.inr (hD.neE en)), hne⟩

theorem OwnD.butO {w w' : World} {B C b n c : Nat} {us ue : Value} {l : Int} {d : Dt} {xs : List Int} (h : OwnD w B (.agg #[us, ue, .int .i64 l]) d) (hg : w.grownBy w' (some b)) (hO : Own w C (.slice (some ⟨b, 0, none⟩) n c) xs) (hd : us.ownBlock ≠ some b) : OwnD w' B (.agg #[us, ue, .int .i64 l]) d := by
  obtain ⟨vs, ve, e, s, en, hne⟩ := h
  have e' := e
  simp [dv] at e'
  obtain ⟨rfl, rfl, _⟩ := e'
  refine ⟨_, _, e, s.but hg (.inr hd), en.but hg (.inr (fun e => ?_)), hne⟩
  rcases apart hO en (by decide) with h | h
  · simp [Value.ownBlock] at h
  · exact h (by rw [e]; rfl)

set_option maxRecDepth 100000 in
set_option maxHeartbeats 2000000 in
theorem runS_any (v : Value) (ops : List Op) (w : World) (hr : RdO w v ops) :
    Calls Try.prog 27 #[v] w fun e w' => ∃ u, e = .returned u ∧ Own w' w.heap.size u (if 5000 < ops.length then [] else outK ops ops.length) ∧ Below w.heap.size w w' := by
  obtain ⟨a, cap, rfl, hlx, hzx, hnx, hcx⟩ := id hr
  by_cases hb : 5000 < ops.length
  · rw [if_pos hb]
    have hb' : (5000 : Int) < (ops.length : Int) := by omega
    go_enter Try.func27, Try.ntmps27
    go_wp2_with fail
    go_ret
    exact ⟨_, rfl, Own.empty _, (Below.refl _ _).alloc (Nat.le_refl _) _⟩
  · rw [if_neg hb]
    have hb' : ¬ ((5000 : Int) < (ops.length : Int)) := by omega
    go_enter Try.func27, Try.ntmps27
    go_wp2_with fail
    refine (newSO_any _).mono ?_
    rintro e w1 ⟨u0, rfl, hD1, hB1⟩
    obtain ⟨b1, m1, p1, b2, m2, p2, e1⟩ := hD1.rd.form
    subst e1
    have hz1 : w.heap.size + 1 ≤ w1.heap.size := by have := hB1.size; simpa using this
    have hV1 : Below w.heap.size w w1 := ((Below.refl _ w).alloc (Nat.le_refl _) _).trans (hB1.mono (by simp))
    have hO1 := ((Own.empty w).keep hB1).alloc (.cells #[.slice b1 m1 p1, .slice b2 m2 p2, .int .i64 0] 25)
    have bD1 := Box3.new w1 (.slice b1 m1 p1) (.slice b2 m2 p2) (.int .i64 0) 25
    have hH1 := HasD.new w1 #[.slice b1 m1 p1, .slice b2 m2 p2, .int .i64 0] _ rfl
    have fD1 : ∀ o, (w1.alloc (.cells #[.slice b1 m1 p1, .slice b2 m2 p2, .int .i64 0] 25)).frozen? ⟨w1.heap.size, o, none⟩ = false := fun o => World.frozen?_alloc_at _ _ _ _ rfl
    have hD1' := (hD1.keep ((Below.refl _ w1).alloc (Nat.le_refl _) (.cells #[.slice b1 m1 p1, .slice b2 m2 p2, .int .i64 0] 25))).mono (Nat.zero_le _)
    have hV1' := hV1.alloc hV1.size (.cells #[.slice b1 m1 p1, .slice b2 m2 p2, .int .i64 0] 25)
    have hdis1 : (Value.slice b1 m1 p1).ownBlock ≠ some w.heap.size := by
      obtain ⟨vs, ve, e, oS, _⟩ := hD1
      simp [dv] at e
      obtain ⟨rfl, _⟩ := e
      exact fun e => by have := (oS.lt _ e).1; simp at this; omega
    go_wp2_with fail
    go_loopw [3, 5] (fun out i wr => ∃ (k c0 b0 : Nat) (us ue : Value), k ≤ ops.length ∧ i = .int .i64 k ∧ out = .slice (some ⟨b0, 0, none⟩) k c0 ∧ us.ownBlock ≠ some b0 ∧ Own wr w.heap.size (.slice (some ⟨b0, 0, none⟩) k c0) (outK ops k) ∧ Box3 wr w1.heap.size us ue (.int .i64 (stK ops k).l) ∧ HasD wr w1.heap.size ∧ (∀ o, wr.frozen? ⟨w1.heap.size, o, none⟩ = false) ∧ OwnD wr 0 (.agg #[us, ue, .int .i64 (stK ops k).l]) (stK ops k) ∧ OkD (stK ops k) ∧ Below w.heap.size w wr) (fun _ i _ => ops.length - (intOf i).toNat)
    case atStart => exact ⟨0, _, _, _, _, Nat.zero_le _, rfl, rfl, hdis1, by simpa [outK] using hO1, bD1, hH1, fD1, hD1', d0_ok, hV1'⟩
    case round =>
      obtain ⟨k, c0, b0, us, ue, hk, rfl, rfl, hdis, hO, bD, hH, fD, hOD, hok, hBr⟩ := hrel
      clear hO1 bD1 hH1 fD1 hD1' hV1' hD1 hB1 hV1 hdis1
      by_cases hlt : k < ops.length
      · obtain ⟨b', off, rfl, hb'', hcell⟩ := hcx (by omega)
        obtain ⟨x0, x1, x2, x3⟩ := RdO.at (fun k hk j hj => (hBr.cell (p := ⟨b', _, none⟩) hb'').trans (hcell k hk j hj)) k hlt
        have hEok := hzx ops[k] (List.getElem_mem hlt)
        have hsK := stK_succ ops k hlt
        have hoK := outK_succ ops k hlt
        have heok : ∀ e ∈ (stK ops k).e, shE.ok e := by obtain ⟨_, _, _, _, oE, _⟩ := hOD; exact oE.2.2
        have hok' := hok.run heok ops[k] hEok
        have hrg := run_rng hok heok ops[k] hEok
        have hlK := outK_length ops k
        generalize ops[k] = E at *
        generalize outK ops k = OK at *
        generalize stK ops k = SK at *
        obtain ⟨Ec, Eh, Ek, Ev⟩ := E
        simp only at x0 x1 x2 x3
        have HsK : Hid _ := hsK
        have HoK : Hid _ := hoK
        clear hsK hoK hcell hcx
        subst hlK
        obtain ⟨hc, hh, hkk, hvv⟩ := id hEok
        simp only at hc hh hkk hvv
        obtain ⟨d1, m3, p3, d2, m4, p4, e2⟩ := hOD.rd.form
        simp only [Value.agg.injEq, List.toArray_eq_iff, Array.mk.injEq, List.cons.injEq, and_true] at e2
        obtain ⟨rfl, rfl⟩ := e2
        obtain ⟨hDz, y0, y1, y2⟩ := id bD
        have hA0 : Below wr.heap.size wr (wr.alloc (.cells #[.int .i64 Ec, .int .u64 Eh, .int .i64 Ek, .int .i64 Ev] 59)) := (Below.refl _ _).alloc (Nat.le_refl _) _
        have hO0 := hO.keep hA0
        have bD0 := bD.keep hA0
        have hH0 := hH.of (hA0.block _ hDz)
        have fD0 : ∀ o, (wr.alloc (.cells #[.int .i64 Ec, .int .u64 Eh, .int .i64 Ek, .int .i64 Ev] 59)).frozen? ⟨w1.heap.size, o, none⟩ = false := fun o => (hA0.frozen (p := ⟨w1.heap.size, o, none⟩) hDz).trans (fD o)
        have hOD0 := hOD.keep hA0
        have hV0 := hBr.trans (hA0.mono hBr.size)
        have bE0 := Box4.new wr (.int .i64 Ec) (.int .u64 Eh) (.int .i64 Ek) (.int .i64 Ev) 59
        have hz0 : wr.heap.size < (wr.alloc (.cells #[.int .i64 Ec, .int .u64 Eh, .int .i64 Ek, .int .i64 Ev] 59)).heap.size := by simp
        have hbz := (hO.lt b0 rfl).2
        by_cases h1 : Ec = 1
        · subst h1
          have hrd : runD SK ⟨1, Eh, Ek, Ev⟩ = ((putD SK Eh Ek Ev).1, if (putD SK Eh Ek Ev).2 then 1 else 0) := by simp [runD]
          rw [hrd] at hok' hrg HsK HoK
          have HP := fun W r => l7Put_any (.agg #[.slice d1 m3 p3, .slice d2 m4 p4, .int .i64 SK.l]) SK Eh Ek Ev W r hok hh.1 hh.2 hkk hvv
          generalize putD SK Eh Ek Ev = PP at *
          obtain ⟨Pd, Pb⟩ := PP
          simp only at hok' hrg HP HsK HoK
          obtain ⟨Ry, hRy⟩ : ∃ Ry : Int, Ry = (if Pb then 1 else 0) := ⟨_, rfl⟩
          have HNum := fun W => l7Num_any Pb W
          rw [← hRy] at hrg HoK
          simp only [← hRy] at HNum
          clear hrd hRy
          go_wp2_with fail
          refine (HP _ hOD0.rd).mono ?_
          rintro e w2 ⟨u2, rfl, hO2, hB2⟩
          have hOo := hO0.keep hB2
          have bD2 := bD0.keep hB2
          have hH2 := hH0.of (hB2.block _ hH0.lt)
          have fD2 : ∀ o, w2.frozen? ⟨w1.heap.size, o, none⟩ = false := fun o => (hB2.frozen (p := ⟨w1.heap.size, o, none⟩) hH0.lt).trans (fD0 o)
          have hV2 := hV0.trans (hB2.mono hV0.size)
          obtain ⟨q1, q2, q3, q4, q5, q6, e3⟩ := hO2.rd.form
          subst e3
          have hdis2 : (Value.slice q1 q2 q3).ownBlock ≠ some b0 := by
            obtain ⟨vs, ve, e, oS, _⟩ := hO2
            simp [dv] at e
            obtain ⟨rfl, _⟩ := e
            exact fun e => by have := (oS.lt _ e).1; omega
          clear x0 x1 x2 x3 y0 y1 y2
          obtain ⟨hDz2, y0, y1, y2⟩ := id bD2
          have g0 := fD2 0
          have g1 := fD2 1
          have g2 := fD2 2
          have hne2 : w1.heap.size ≠ w2.heap.size := by omega
          go_upto_region 14 with fail
          have hz2 := hV2.size
          have hs1 : ∀ (W : World) o u, (W.setCell ⟨w1.heap.size, o, none⟩ u).heap.size = W.heap.size := fun W o u => by simp [World.setCell]
          have ne0 : (Value.slice (some ⟨b0, 0, none⟩) OK.length c0).ownBlock ≠ some w1.heap.size := hH2.ne hOo
          have hO4 := (((hOo.but (gb_set w2 w1.heap.size 0 (.slice q1 q2 q3)) (.inr ne0)).but (gb_set _ w1.heap.size 1 (.slice q4 q5 q6)) (.inr ne0)).but (gb_set _ w1.heap.size 2 (.int .i64 Pd.l)) (.inr ne0)).alloc (.cells #[.slice q1 q2 q3, .slice q4 q5 q6, .int .i64 Pd.l] 25)
          have bD4 := (((bD2.p0 (.slice q1 q2 q3)).p1 (.slice q4 q5 q6)).p2 (.int .i64 Pd.l)).alloc (.cells #[.slice q1 q2 q3, .slice q4 q5 q6, .int .i64 Pd.l] 25)
          have hH3 := ((hH2.set (o := 0) (.slice q1 q2 q3)).set (o := 1) (.slice q4 q5 q6)).set (o := 2) (.int .i64 Pd.l)
          have hA4 := (Below.refl _ _).alloc (Nat.le_refl (((w2.setCell ⟨w1.heap.size, 0, none⟩ (.slice q1 q2 q3)).setCell ⟨w1.heap.size, 1, none⟩ (.slice q4 q5 q6)).setCell ⟨w1.heap.size, 2, none⟩ (.int .i64 Pd.l)).heap.size) (.cells #[.slice q1 q2 q3, .slice q4 q5 q6, .int .i64 Pd.l] 25)
          have hH4 := hH3.of (hA4.block _ hH3.lt)
          have fD4 : ∀ o, ((((w2.setCell ⟨w1.heap.size, 0, none⟩ (.slice q1 q2 q3)).setCell ⟨w1.heap.size, 1, none⟩ (.slice q4 q5 q6)).setCell ⟨w1.heap.size, 2, none⟩ (.int .i64 Pd.l)).alloc (.cells #[.slice q1 q2 q3, .slice q4 q5 q6, .int .i64 Pd.l] 25)).frozen? ⟨w1.heap.size, o, none⟩ = false := fun o => by
            rw [World.frozen?_alloc_past _ _ _ (by simp only [hs1]; exact hDz2), World.frozen?_setCell, World.frozen?_setCell, World.frozen?_setCell]; exact fD2 o
          have hOD4 := ((((hO2.setD (o := 0) hH2 (.slice q1 q2 q3)).setD (o := 1) (hH2.set (o := 0) (.slice q1 q2 q3)) (.slice q4 q5 q6)).setD (o := 2) ((hH2.set (o := 0) (.slice q1 q2 q3)).set (o := 1) (.slice q4 q5 q6)) (.int .i64 Pd.l)).keep hA4).mono (Nat.zero_le _)
          have hV3 := below_set (o := 2) (below_set (o := 1) (below_set (o := 0) hV2 hz2 (show w.heap.size ≤ w1.heap.size by omega) (.slice q1 q2 q3)) (by simpa [World.setCell] using hz2) (show w.heap.size ≤ w1.heap.size by omega) (.slice q4 q5 q6)) (by simpa [World.setCell] using hz2) (show w.heap.size ≤ w1.heap.size by omega) (.int .i64 Pd.l)
          have hV4 := hV3.alloc hV3.size (.cells #[.slice q1 q2 q3, .slice q4 q5 q6, .int .i64 Pd.l] 25)
          clear y0 y1 y2 g0 g1 g2 hH3 hA4 hV3 hs1 hOo bD2 hH2 fD2 hO2 hB2 hV2
          generalize ((((w2.setCell ⟨w1.heap.size, 0, none⟩ (.slice q1 q2 q3)).setCell ⟨w1.heap.size, 1, none⟩ (.slice q4 q5 q6)).setCell ⟨w1.heap.size, 2, none⟩ (.int .i64 Pd.l)).alloc (.cells #[.slice q1 q2 q3, .slice q4 q5 q6, .int .i64 Pd.l] 25)) = W4 at *
          have hz9 : b0 < W4.heap.size := (hO4.lt b0 rfl).2
          have hA9 : Below W4.heap.size W4 (W4.alloc (.cells #[.int .i64 Ry] 2)) := (Below.refl _ _).alloc (Nat.le_refl _) _
          have hO9 := hO4.keep hA9
          have hcy : (W4.alloc (.cells #[.int .i64 Ry] 2)).cell? ⟨W4.heap.size, 0, none⟩ = some (.int .i64 Ry) := by rw [World.cell?_alloc_at _ _ _ _ (by first | rfl | simp)]; rfl
          have hVz := hV4.size
          go_wp2_with (first | (go_at_call 57; refine (HNum _).mono ?_; rintro e W4 ⟨rfl, rfl⟩) | (at_builtin; refine wpList_append_intL rfl _ _ 22 rfl Try.underlying22 w.heap.size _ OK Ry hrg (W4.heap.size) 1 rfl rfl hO9 hcy (by omega) (by simp; omega) ?_; intro b5 c5 w5 hO6 hg6 hb6 hbz6))
          have hb7 : b0 = b5 ∨ b5 = W4.heap.size + 1 := by
            rcases hb6 with h | h
            · exact .inl (Option.some.inj (show some b0 = some b5 from h))
            · exact .inr (by simpa using h)
          clear hb6
          have hnD : some w1.heap.size ≠ some b0 := fun e => hH4.ne hO4 e.symm
          have bD6 := (bD4.keep hA9).but hg6 hnD
          have hH9 := hH4.of (hA9.block _ hH4.lt)
          have hH6 := hH9.of (hg6.block _ hH9.lt hnD)
          have fD6 : ∀ o, w5.frozen? ⟨w1.heap.size, o, none⟩ = false := fun o => ((World.frozen?_of_block (hg6.block _ hH9.lt hnD)).trans (hA9.frozen (p := ⟨w1.heap.size, o, none⟩) hH4.lt)).trans (fD4 o)
          have hOD6 := (hOD4.keep hA9).butO hg6 hO9 hdis2
          have hdis6 : (Value.slice q1 q2 q3).ownBlock ≠ some b5 := by
            rcases hb7 with h | h
            · subst h; exact hdis2
            · obtain ⟨vs, ve, e, oS, _⟩ := hOD4
              simp [dv] at e
              obtain ⟨rfl, _⟩ := e
              exact fun e => by have := (oS.lt _ e).2; (try simp only [World.size_alloc] at this); omega
          have hV9 := hV4.trans (hA9.mono hV4.size)
          have hV6 : Below w.heap.size w w5 := hV9.grown hg6 hV9.size (fun k hk => by cases hk; exact (hO9.lt _ rfl).1)
          go_roundw
          case rel =>
            refine ⟨OK.length + 1, c5, b5, (.slice q1 q2 q3), (.slice q4 q5 q6), by omega, by go_num, rfl, hdis6, ?_, ?_, hH6, fD6, ?_, ?_, hV6⟩
            · rw [HoK.out]; exact hO6
            · rw [HsK.out]; exact bD6
            · rw [HsK.out]; exact hOD6
            · rw [HsK.out]; exact hok'
          case measure => simp [intOf]; omega
        have h1' : (Ec == 1) = false := by simpa using h1
        have ht0 := hok.tab
        obtain ⟨mm, hmm3, hmm, htt, hll, hss, hrm⟩ := ht0
        have HF := fun W r => l7Find_tab (.agg #[.slice d1 m3 p3, .slice d2 m4 p4, .int .i64 SK.l]) SK Eh Ek mm W r hmm htt hll hh.1 hh.2
        have hfv := fnd_val hok Eh Ek hh.1 hh.2
        clear htt hss
        by_cases h2 : Ec = 2
        · subst h2
          have hrd : runD SK ⟨2, Eh, Ek, Ev⟩ = (SK, if 0 ≤ (fnd SK Eh Ek).1 then (SK.e.getD (fnd SK Eh Ek).1.toNat ⟨0, 0, 0, false⟩).v else -1) := by simp [runD]
          rw [hrd] at hok' hrg HsK HoK
          generalize fnd SK Eh Ek = F at *
          obtain ⟨F0, F1⟩ := F
          simp only at hok' hrg HF HsK HoK hfv
          clear hrd h1 h1'
          go_wp2_with fail
          refine (HF _ hOD0.rd).mono ?_
          rintro e w2 ⟨rfl, hB2⟩
          have hO4 := hO0.keep hB2
          have bD4 := bD0.keep hB2
          have hH4 := hH0.of (hB2.block _ hH0.lt)
          have fD4 : ∀ o, w2.frozen? ⟨w1.heap.size, o, none⟩ = false := fun o => (hB2.frozen (p := ⟨w1.heap.size, o, none⟩) hH0.lt).trans (fD0 o)
          have hV4 := hV0.trans (hB2.mono hV0.size)
          have hOD4 := hOD0.keep hB2
          clear x0 x1 x2 x3 y0 y1 y2
          obtain ⟨hDz2, y0, y1, y2⟩ := id bD4
          rcases hfv with rfl | ⟨hF0', hlt', hg, hhh, hkk'⟩
          · rw [if_neg (by omega)] at hrg HoK
            have hz9 : b0 < w2.heap.size := (hO4.lt b0 rfl).2
            have hA9 : Below w2.heap.size w2 (w2.alloc (.cells #[.int .i64 (-1)] 2)) := (Below.refl _ _).alloc (Nat.le_refl _) _
            have hO9 := hO4.keep hA9
            have hcy : (w2.alloc (.cells #[.int .i64 (-1)] 2)).cell? ⟨w2.heap.size, 0, none⟩ = some (.int .i64 (-1)) := by rw [World.cell?_alloc_at _ _ _ _ (by first | rfl | simp)]; rfl
            have hVz := hV4.size
            go_wp2_with (first | (at_builtin; refine wpList_append_intL rfl _ _ 22 rfl Try.underlying22 w.heap.size _ OK (-1) hrg (w2.heap.size) 1 rfl rfl hO9 hcy (by omega) (by simp; omega) ?_; intro b5 c5 w5 hO6 hg6 hb6 hbz6))
            have hb7 : b0 = b5 ∨ b5 = w2.heap.size + 1 := by
              rcases hb6 with h | h
              · exact .inl (Option.some.inj (show some b0 = some b5 from h))
              · exact .inr (by simpa using h)
            clear hb6
            have hnD : some w1.heap.size ≠ some b0 := fun e => hH4.ne hO4 e.symm
            have bD6 := (bD4.keep hA9).but hg6 hnD
            have hH9 := hH4.of (hA9.block _ hH4.lt)
            have hH6 := hH9.of (hg6.block _ hH9.lt hnD)
            have fD6 : ∀ o, w5.frozen? ⟨w1.heap.size, o, none⟩ = false := fun o => ((World.frozen?_of_block (hg6.block _ hH9.lt hnD)).trans (hA9.frozen (p := ⟨w1.heap.size, o, none⟩) hH4.lt)).trans (fD4 o)
            have hOD6 := (hOD4.keep hA9).butO hg6 hO9 hdis
            have hdis6 : (Value.slice d1 m3 p3).ownBlock ≠ some b5 := by
              rcases hb7 with h | h
              · subst h; exact hdis
              · obtain ⟨vs, ve, e, oS, _⟩ := hOD4
                simp [dv] at e
                obtain ⟨rfl, _⟩ := e
                exact fun e => by have := (oS.lt _ e).2; (try simp only [World.size_alloc] at this); omega
            have hV9 := hV4.trans (hA9.mono hV4.size)
            have hV6 : Below w.heap.size w w5 := hV9.grown hg6 hV9.size (fun k hk => by cases hk; exact (hO9.lt _ rfl).1)
            go_roundw
            case rel =>
              refine ⟨OK.length + 1, c5, b5, (Value.slice d1 m3 p3), (Value.slice d2 m4 p4), by omega, by go_num, rfl, hdis6, ?_, ?_, hH6, fD6, ?_, ?_, hV6⟩
              · rw [HoK.out]; exact hO6
              · rw [HsK.out]; exact bD6
              · rw [HsK.out]; exact hOD6
              · rw [HsK.out]; exact hok'
            case measure => simp [intOf]; omega
          · rw [if_pos hF0'] at hrg HoK
            obtain ⟨P, rfl⟩ : ∃ P : Nat, F0 = (P : Int) := ⟨F0.toNat, by omega⟩
            simp only [Int.toNat_natCast] at hlt' hg hhh hkk' hrg HoK
            rw [show SK.e.getD P ⟨0, 0, 0, false⟩ = SK.e[P] by simp [List.getD, hlt']] at hrg HoK
            obtain ⟨vs9, ve9, e9, oS9, oE9, -⟩ := id hOD4
            simp [dv] at e9
            obtain ⟨rfl, rfl⟩ := e9
            rcases oE9.shape with ⟨-, he⟩ | ⟨gb, cp9, he, hgb, hgs, hcap⟩
            · rw [he] at hlt'; simp at hlt'
            simp only [Value.slice.injEq] at he
            obtain ⟨rfl, rfl, rfl⟩ := he
            obtain ⟨z0, z1, z2, z3⟩ := RdE.at (off := 0) (fun k hk j hj => by rw [Nat.zero_add]; exact oE9.cell k hk j hj) P hlt'
            simp only [Nat.zero_add] at z0 z1 z2 z3
            clear hg hhh hkk'
            generalize SK.e[P].v = Ry at *
            have hz9 : b0 < w2.heap.size := (hO4.lt b0 rfl).2
            have hA9 : Below w2.heap.size w2 (w2.alloc (.cells #[.int .i64 Ry] 2)) := (Below.refl _ _).alloc (Nat.le_refl _) _
            have hO9 := hO4.keep hA9
            have hcy : (w2.alloc (.cells #[.int .i64 Ry] 2)).cell? ⟨w2.heap.size, 0, none⟩ = some (.int .i64 Ry) := by rw [World.cell?_alloc_at _ _ _ _ (by first | rfl | simp)]; rfl
            have hVz := hV4.size
            go_wp2_with (first | (at_builtin; refine wpList_append_intL rfl _ _ 22 rfl Try.underlying22 w.heap.size _ OK Ry hrg (w2.heap.size) 1 rfl rfl hO9 hcy (by omega) (by simp; omega) ?_; intro b5 c5 w5 hO6 hg6 hb6 hbz6))
            have hb7 : b0 = b5 ∨ b5 = w2.heap.size + 1 := by
              rcases hb6 with h | h
              · exact .inl (Option.some.inj (show some b0 = some b5 from h))
              · exact .inr (by simpa using h)
            clear hb6
            have hnD : some w1.heap.size ≠ some b0 := fun e => hH4.ne hO4 e.symm
            have bD6 := (bD4.keep hA9).but hg6 hnD
            have hH9 := hH4.of (hA9.block _ hH4.lt)
            have hH6 := hH9.of (hg6.block _ hH9.lt hnD)
            have fD6 : ∀ o, w5.frozen? ⟨w1.heap.size, o, none⟩ = false := fun o => ((World.frozen?_of_block (hg6.block _ hH9.lt hnD)).trans (hA9.frozen (p := ⟨w1.heap.size, o, none⟩) hH4.lt)).trans (fD4 o)
            have hOD6 := (hOD4.keep hA9).butO hg6 hO9 hdis
            have hdis6 : (Value.slice d1 m3 p3).ownBlock ≠ some b5 := by
              rcases hb7 with h | h
              · subst h; exact hdis
              · obtain ⟨vs, ve, e, oS, _⟩ := hOD4
                simp [dv] at e
                obtain ⟨rfl, _⟩ := e
                exact fun e => by have := (oS.lt _ e).2; (try simp only [World.size_alloc] at this); omega
            have hV9 := hV4.trans (hA9.mono hV4.size)
            have hV6 : Below w.heap.size w w5 := hV9.grown hg6 hV9.size (fun k hk => by cases hk; exact (hO9.lt _ rfl).1)
            go_roundw
            case rel =>
              refine ⟨OK.length + 1, c5, b5, (Value.slice d1 m3 p3), (Value.slice (some ⟨gb, 0, none⟩) SK.e.length p4), by omega, by go_num, rfl, hdis6, ?_, ?_, hH6, fD6, ?_, ?_, hV6⟩
              · rw [HoK.out]; exact hO6
              · rw [HsK.out]; exact bD6
              · rw [HsK.out]; exact hOD6
              · rw [HsK.out]; exact hok'
            case measure => simp [intOf]; omega
        have h2' : (Ec == 2) = false := by simpa using h2
        by_cases h3 : Ec = 3
        · subst h3
          have hrd : runD SK ⟨3, Eh, Ek, Ev⟩ = ((cutD SK Eh Ek).1, if (cutD SK Eh Ek).2 then 1 else 0) := by simp [runD]
          rw [hrd] at hok' hrg HsK HoK
          have HP := fun W r => l7Cut_any (.agg #[.slice d1 m3 p3, .slice d2 m4 p4, .int .i64 SK.l]) SK Eh Ek W r hok hh.1 hh.2
          generalize cutD SK Eh Ek = PP at *
          obtain ⟨Pd, Pb⟩ := PP
          simp only at hok' hrg HP HsK HoK
          obtain ⟨Ry, hRy⟩ : ∃ Ry : Int, Ry = (if Pb then 1 else 0) := ⟨_, rfl⟩
          have HNum := fun W => l7Num_any Pb W
          rw [← hRy] at hrg HoK
          simp only [← hRy] at HNum
          clear hrd hRy h1 h2 h1' h2' hfv HF
          go_wp2_with fail
          refine (HP _ hOD0.rd).mono ?_
          rintro e w2 ⟨u2, rfl, hO2, hB2⟩
          have hOo := hO0.keep hB2
          have bD2 := bD0.keep hB2
          have hH2 := hH0.of (hB2.block _ hH0.lt)
          have fD2 : ∀ o, w2.frozen? ⟨w1.heap.size, o, none⟩ = false := fun o => (hB2.frozen (p := ⟨w1.heap.size, o, none⟩) hH0.lt).trans (fD0 o)
          have hV2 := hV0.trans (hB2.mono hV0.size)
          obtain ⟨q1, q2, q3, q4, q5, q6, e3⟩ := hO2.rd.form
          subst e3
          have hdis2 : (Value.slice q1 q2 q3).ownBlock ≠ some b0 := by
            obtain ⟨vs, ve, e, oS, _⟩ := hO2
            simp [dv] at e
            obtain ⟨rfl, _⟩ := e
            exact fun e => by have := (oS.lt _ e).1; omega
          clear x0 x1 x2 x3 y0 y1 y2
          obtain ⟨hDz2, y0, y1, y2⟩ := id bD2
          have g0 := fD2 0
          have g1 := fD2 1
          have g2 := fD2 2
          have hne2 : w1.heap.size ≠ w2.heap.size := by omega
          go_upto_region 21 with fail
          have hz2 := hV2.size
          have hs1 : ∀ (W : World) o u, (W.setCell ⟨w1.heap.size, o, none⟩ u).heap.size = W.heap.size := fun W o u => by simp [World.setCell]
          have ne0 : (Value.slice (some ⟨b0, 0, none⟩) OK.length c0).ownBlock ≠ some w1.heap.size := hH2.ne hOo
          have hO4 := (((hOo.but (gb_set w2 w1.heap.size 0 (.slice q1 q2 q3)) (.inr ne0)).but (gb_set _ w1.heap.size 1 (.slice q4 q5 q6)) (.inr ne0)).but (gb_set _ w1.heap.size 2 (.int .i64 Pd.l)) (.inr ne0)).alloc (.cells #[.slice q1 q2 q3, .slice q4 q5 q6, .int .i64 Pd.l] 25)
          have bD4 := (((bD2.p0 (.slice q1 q2 q3)).p1 (.slice q4 q5 q6)).p2 (.int .i64 Pd.l)).alloc (.cells #[.slice q1 q2 q3, .slice q4 q5 q6, .int .i64 Pd.l] 25)
          have hH3 := ((hH2.set (o := 0) (.slice q1 q2 q3)).set (o := 1) (.slice q4 q5 q6)).set (o := 2) (.int .i64 Pd.l)
          have hA4 := (Below.refl _ _).alloc (Nat.le_refl (((w2.setCell ⟨w1.heap.size, 0, none⟩ (.slice q1 q2 q3)).setCell ⟨w1.heap.size, 1, none⟩ (.slice q4 q5 q6)).setCell ⟨w1.heap.size, 2, none⟩ (.int .i64 Pd.l)).heap.size) (.cells #[.slice q1 q2 q3, .slice q4 q5 q6, .int .i64 Pd.l] 25)
          have hH4 := hH3.of (hA4.block _ hH3.lt)
          have fD4 : ∀ o, ((((w2.setCell ⟨w1.heap.size, 0, none⟩ (.slice q1 q2 q3)).setCell ⟨w1.heap.size, 1, none⟩ (.slice q4 q5 q6)).setCell ⟨w1.heap.size, 2, none⟩ (.int .i64 Pd.l)).alloc (.cells #[.slice q1 q2 q3, .slice q4 q5 q6, .int .i64 Pd.l] 25)).frozen? ⟨w1.heap.size, o, none⟩ = false := fun o => by
            rw [World.frozen?_alloc_past _ _ _ (by simp only [hs1]; exact hDz2), World.frozen?_setCell, World.frozen?_setCell, World.frozen?_setCell]; exact fD2 o
          have hOD4 := ((((hO2.setD (o := 0) hH2 (.slice q1 q2 q3)).setD (o := 1) (hH2.set (o := 0) (.slice q1 q2 q3)) (.slice q4 q5 q6)).setD (o := 2) ((hH2.set (o := 0) (.slice q1 q2 q3)).set (o := 1) (.slice q4 q5 q6)) (.int .i64 Pd.l)).keep hA4).mono (Nat.zero_le _)
          have hV3 := below_set (o := 2) (below_set (o := 1) (below_set (o := 0) hV2 hz2 (show w.heap.size ≤ w1.heap.size by omega) (.slice q1 q2 q3)) (by simpa [World.setCell] using hz2) (show w.heap.size ≤ w1.heap.size by omega) (.slice q4 q5 q6)) (by simpa [World.setCell] using hz2) (show w.heap.size ≤ w1.heap.size by omega) (.int .i64 Pd.l)
          have hV4 := hV3.alloc hV3.size (.cells #[.slice q1 q2 q3, .slice q4 q5 q6, .int .i64 Pd.l] 25)
          clear y0 y1 y2 g0 g1 g2 hH3 hA4 hV3 hs1 hOo bD2 hH2 fD2 hO2 hB2 hV2
          generalize ((((w2.setCell ⟨w1.heap.size, 0, none⟩ (.slice q1 q2 q3)).setCell ⟨w1.heap.size, 1, none⟩ (.slice q4 q5 q6)).setCell ⟨w1.heap.size, 2, none⟩ (.int .i64 Pd.l)).alloc (.cells #[.slice q1 q2 q3, .slice q4 q5 q6, .int .i64 Pd.l] 25)) = W4 at *
          have hz9 : b0 < W4.heap.size := (hO4.lt b0 rfl).2
          have hA9 : Below W4.heap.size W4 (W4.alloc (.cells #[.int .i64 Ry] 2)) := (Below.refl _ _).alloc (Nat.le_refl _) _
          have hO9 := hO4.keep hA9
          have hcy : (W4.alloc (.cells #[.int .i64 Ry] 2)).cell? ⟨W4.heap.size, 0, none⟩ = some (.int .i64 Ry) := by rw [World.cell?_alloc_at _ _ _ _ (by first | rfl | simp)]; rfl
          have hVz := hV4.size
          go_wp2_with (first | (go_at_call 57; refine (HNum _).mono ?_; rintro e W4 ⟨rfl, rfl⟩) | (at_builtin; refine wpList_append_intL rfl _ _ 22 rfl Try.underlying22 w.heap.size _ OK Ry hrg (W4.heap.size) 1 rfl rfl hO9 hcy (by omega) (by simp; omega) ?_; intro b5 c5 w5 hO6 hg6 hb6 hbz6))
          have hb7 : b0 = b5 ∨ b5 = W4.heap.size + 1 := by
            rcases hb6 with h | h
            · exact .inl (Option.some.inj (show some b0 = some b5 from h))
            · exact .inr (by simpa using h)
          clear hb6
          have hnD : some w1.heap.size ≠ some b0 := fun e => hH4.ne hO4 e.symm
          have bD6 := (bD4.keep hA9).but hg6 hnD
          have hH9 := hH4.of (hA9.block _ hH4.lt)
          have hH6 := hH9.of (hg6.block _ hH9.lt hnD)
          have fD6 : ∀ o, w5.frozen? ⟨w1.heap.size, o, none⟩ = false := fun o => ((World.frozen?_of_block (hg6.block _ hH9.lt hnD)).trans (hA9.frozen (p := ⟨w1.heap.size, o, none⟩) hH4.lt)).trans (fD4 o)
          have hOD6 := (hOD4.keep hA9).butO hg6 hO9 hdis2
          have hdis6 : (Value.slice q1 q2 q3).ownBlock ≠ some b5 := by
            rcases hb7 with h | h
            · subst h; exact hdis2
            · obtain ⟨vs, ve, e, oS, _⟩ := hOD4
              simp [dv] at e
              obtain ⟨rfl, _⟩ := e
              exact fun e => by have := (oS.lt _ e).2; (try simp only [World.size_alloc] at this); omega
          have hV9 := hV4.trans (hA9.mono hV4.size)
          have hV6 : Below w.heap.size w w5 := hV9.grown hg6 hV9.size (fun k hk => by cases hk; exact (hO9.lt _ rfl).1)
          go_roundw
          case rel =>
            refine ⟨OK.length + 1, c5, b5, (.slice q1 q2 q3), (.slice q4 q5 q6), by omega, by go_num, rfl, hdis6, ?_, ?_, hH6, fD6, ?_, ?_, hV6⟩
            · rw [HoK.out]; exact hO6
            · rw [HsK.out]; exact bD6
            · rw [HsK.out]; exact hOD6
            · rw [HsK.out]; exact hok'
          case measure => simp [intOf]; omega
        have h3' : (Ec == 3) = false := by simpa using h3
        by_cases h4 : Ec = 4
        · subst h4
          have hrd : runD SK ⟨4, Eh, Ek, Ev⟩ = (SK, (fnd SK Eh Ek).2) := by simp [runD]
          rw [hrd] at hok' hrg HsK HoK
          generalize fnd SK Eh Ek = F at *
          obtain ⟨F0, F1⟩ := F
          simp only at hok' hrg HF HsK HoK hfv
          clear hrd h1 h1' h2 h2' h3 h3' hfv
          go_wp2_with fail
          refine (HF _ hOD0.rd).mono ?_
          rintro e w2 ⟨rfl, hB2⟩
          have hO4 := hO0.keep hB2
          have bD4 := bD0.keep hB2
          have hH4 := hH0.of (hB2.block _ hH0.lt)
          have fD4 : ∀ o, w2.frozen? ⟨w1.heap.size, o, none⟩ = false := fun o => (hB2.frozen (p := ⟨w1.heap.size, o, none⟩) hH0.lt).trans (fD0 o)
          have hV4 := hV0.trans (hB2.mono hV0.size)
          have hOD4 := hOD0.keep hB2
          clear x0 x1 x2 x3 y0 y1 y2
          obtain ⟨hDz2, y0, y1, y2⟩ := id bD4
          have hz9 : b0 < w2.heap.size := (hO4.lt b0 rfl).2
          have hA9 : Below w2.heap.size w2 (w2.alloc (.cells #[.int .i64 F1] 2)) := (Below.refl _ _).alloc (Nat.le_refl _) _
          have hO9 := hO4.keep hA9
          have hcy : (w2.alloc (.cells #[.int .i64 F1] 2)).cell? ⟨w2.heap.size, 0, none⟩ = some (.int .i64 F1) := by rw [World.cell?_alloc_at _ _ _ _ (by first | rfl | simp)]; rfl
          have hVz := hV4.size
          go_wp2_with (first | (at_builtin; refine wpList_append_intL rfl _ _ 22 rfl Try.underlying22 w.heap.size _ OK F1 hrg (w2.heap.size) 1 rfl rfl hO9 hcy (by omega) (by simp; omega) ?_; intro b5 c5 w5 hO6 hg6 hb6 hbz6))
          have hb7 : b0 = b5 ∨ b5 = w2.heap.size + 1 := by
            rcases hb6 with h | h
            · exact .inl (Option.some.inj (show some b0 = some b5 from h))
            · exact .inr (by simpa using h)
          clear hb6
          have hnD : some w1.heap.size ≠ some b0 := fun e => hH4.ne hO4 e.symm
          have bD6 := (bD4.keep hA9).but hg6 hnD
          have hH9 := hH4.of (hA9.block _ hH4.lt)
          have hH6 := hH9.of (hg6.block _ hH9.lt hnD)
          have fD6 : ∀ o, w5.frozen? ⟨w1.heap.size, o, none⟩ = false := fun o => ((World.frozen?_of_block (hg6.block _ hH9.lt hnD)).trans (hA9.frozen (p := ⟨w1.heap.size, o, none⟩) hH4.lt)).trans (fD4 o)
          have hOD6 := (hOD4.keep hA9).butO hg6 hO9 hdis
          have hdis6 : (Value.slice d1 m3 p3).ownBlock ≠ some b5 := by
            rcases hb7 with h | h
            · subst h; exact hdis
            · obtain ⟨vs, ve, e, oS, _⟩ := hOD4
              simp [dv] at e
              obtain ⟨rfl, _⟩ := e
              exact fun e => by have := (oS.lt _ e).2; (try simp only [World.size_alloc] at this); omega
          have hV9 := hV4.trans (hA9.mono hV4.size)
          have hV6 : Below w.heap.size w w5 := hV9.grown hg6 hV9.size (fun k hk => by cases hk; exact (hO9.lt _ rfl).1)
          go_roundw
          case rel =>
            refine ⟨OK.length + 1, c5, b5, (Value.slice d1 m3 p3), (Value.slice d2 m4 p4), by omega, by go_num, rfl, hdis6, ?_, ?_, hH6, fD6, ?_, ?_, hV6⟩
            · rw [HoK.out]; exact hO6
            · rw [HsK.out]; exact bD6
            · rw [HsK.out]; exact hOD6
            · rw [HsK.out]; exact hok'
          case measure => simp [intOf]; omega
        have h4' : (Ec == 4) = false := by simpa using h4
        clear HF hfv
        by_cases h5 : Ec = 5
        · subst h5
          have hrd : runD SK ⟨5, Eh, Ek, Ev⟩ = (SK, (SK.s.length : Int)) := by simp [runD]
          rw [hrd] at hok' hrg HsK HoK
          simp only at hok' hrg HsK HoK
          clear hrd h1 h1' h2 h2' h3 h3' h4 h4'
          have hm3 : m3 = SK.s.length := by
            obtain ⟨vs, ve, e, oS, _⟩ := hOD
            simp [dv] at e
            obtain ⟨rfl, _⟩ := e
            obtain ⟨a7, c7, e7⟩ := oS.form
            simp at e7; exact e7.2.1
          rw [← hm3] at hrg HoK
          clear hm3
          have hz9 : b0 < (wr.alloc (.cells #[.int .i64 5, .int .u64 Eh, .int .i64 Ek, .int .i64 Ev] 59)).heap.size := (hO0.lt b0 rfl).2
          have hA9 : Below (wr.alloc (.cells #[.int .i64 5, .int .u64 Eh, .int .i64 Ek, .int .i64 Ev] 59)).heap.size (wr.alloc (.cells #[.int .i64 5, .int .u64 Eh, .int .i64 Ek, .int .i64 Ev] 59)) ((wr.alloc (.cells #[.int .i64 5, .int .u64 Eh, .int .i64 Ek, .int .i64 Ev] 59)).alloc (.cells #[.int .i64 (m3 : Int)] 2)) := (Below.refl _ _).alloc (Nat.le_refl _) _
          have hO9 := hO0.keep hA9
          have hcy : ((wr.alloc (.cells #[.int .i64 5, .int .u64 Eh, .int .i64 Ek, .int .i64 Ev] 59)).alloc (.cells #[.int .i64 (m3 : Int)] 2)).cell? ⟨(wr.heap.size + 1), 0, none⟩ = some (.int .i64 (m3 : Int)) := by rw [World.cell?_alloc_at _ _ _ _ (by first | rfl | simp)]; rfl
          have hVz := hV0.size
          go_wp2_with (first | (at_builtin; refine wpList_append_intL rfl _ _ 22 rfl Try.underlying22 w.heap.size _ OK (m3 : Int) hrg ((wr.heap.size + 1)) 1 rfl rfl hO9 hcy (by omega) (by simp; omega) ?_; intro b5 c5 w5 hO6 hg6 hb6 hbz6))
          have hb7 : b0 = b5 ∨ b5 = (wr.heap.size + 1) + 1 := by
            rcases hb6 with h | h
            · exact .inl (Option.some.inj (show some b0 = some b5 from h))
            · exact .inr (by simpa using h)
          clear hb6
          have hnD : some w1.heap.size ≠ some b0 := fun e => hH0.ne hO0 e.symm
          have bD6 := (bD0.keep hA9).but hg6 hnD
          have hH9 := hH0.of (hA9.block _ hH0.lt)
          have hH6 := hH9.of (hg6.block _ hH9.lt hnD)
          have fD6 : ∀ o, w5.frozen? ⟨w1.heap.size, o, none⟩ = false := fun o => ((World.frozen?_of_block (hg6.block _ hH9.lt hnD)).trans (hA9.frozen (p := ⟨w1.heap.size, o, none⟩) hH0.lt)).trans (fD0 o)
          have hOD6 := (hOD0.keep hA9).butO hg6 hO9 hdis
          have hdis6 : (Value.slice d1 m3 p3).ownBlock ≠ some b5 := by
            rcases hb7 with h | h
            · subst h; exact hdis
            · obtain ⟨vs, ve, e, oS, _⟩ := hOD0
              simp [dv] at e
              obtain ⟨rfl, _⟩ := e
              exact fun e => by have := (oS.lt _ e).2; (try simp only [World.size_alloc] at this); omega
          have hV9 := hV0.trans (hA9.mono hV0.size)
          have hV6 : Below w.heap.size w w5 := hV9.grown hg6 hV9.size (fun k hk => by cases hk; exact (hO9.lt _ rfl).1)
          go_roundw
          case rel =>
            refine ⟨OK.length + 1, c5, b5, (Value.slice d1 m3 p3), (Value.slice d2 m4 p4), by omega, by go_num, rfl, hdis6, ?_, ?_, hH6, fD6, ?_, ?_, hV6⟩
            · rw [HoK.out]; exact hO6
            · rw [HsK.out]; exact bD6
            · rw [HsK.out]; exact hOD6
            · rw [HsK.out]; exact hok'
          case measure => simp [intOf]; omega
        · have h5' : (Ec == 5) = false := by simpa using h5
          have hrd : runD SK ⟨Ec, Eh, Ek, Ev⟩ = (SK, -2) := by simp [runD, h1, h2, h3, h4, h5]
          rw [hrd] at hok' hrg HsK HoK
          simp only at hok' hrg HsK HoK
          clear hrd h1 h2 h3 h4 h5
          have hz9 : b0 < (wr.alloc (.cells #[.int .i64 Ec, .int .u64 Eh, .int .i64 Ek, .int .i64 Ev] 59)).heap.size := (hO0.lt b0 rfl).2
          have hA9 : Below (wr.alloc (.cells #[.int .i64 Ec, .int .u64 Eh, .int .i64 Ek, .int .i64 Ev] 59)).heap.size (wr.alloc (.cells #[.int .i64 Ec, .int .u64 Eh, .int .i64 Ek, .int .i64 Ev] 59)) ((wr.alloc (.cells #[.int .i64 Ec, .int .u64 Eh, .int .i64 Ek, .int .i64 Ev] 59)).alloc (.cells #[.int .i64 (-2)] 2)) := (Below.refl _ _).alloc (Nat.le_refl _) _
          have hO9 := hO0.keep hA9
          have hcy : ((wr.alloc (.cells #[.int .i64 Ec, .int .u64 Eh, .int .i64 Ek, .int .i64 Ev] 59)).alloc (.cells #[.int .i64 (-2)] 2)).cell? ⟨(wr.heap.size + 1), 0, none⟩ = some (.int .i64 (-2)) := by rw [World.cell?_alloc_at _ _ _ _ (by first | rfl | simp)]; rfl
          have hVz := hV0.size
          go_wp2_with (first | (at_builtin; refine wpList_append_intL rfl _ _ 22 rfl Try.underlying22 w.heap.size _ OK (-2) hrg ((wr.heap.size + 1)) 1 rfl rfl hO9 hcy (by omega) (by simp; omega) ?_; intro b5 c5 w5 hO6 hg6 hb6 hbz6))
          have hb7 : b0 = b5 ∨ b5 = (wr.heap.size + 1) + 1 := by
            rcases hb6 with h | h
            · exact .inl (Option.some.inj (show some b0 = some b5 from h))
            · exact .inr (by simpa using h)
          clear hb6
          have hnD : some w1.heap.size ≠ some b0 := fun e => hH0.ne hO0 e.symm
          have bD6 := (bD0.keep hA9).but hg6 hnD
          have hH9 := hH0.of (hA9.block _ hH0.lt)
          have hH6 := hH9.of (hg6.block _ hH9.lt hnD)
          have fD6 : ∀ o, w5.frozen? ⟨w1.heap.size, o, none⟩ = false := fun o => ((World.frozen?_of_block (hg6.block _ hH9.lt hnD)).trans (hA9.frozen (p := ⟨w1.heap.size, o, none⟩) hH0.lt)).trans (fD0 o)
          have hOD6 := (hOD0.keep hA9).butO hg6 hO9 hdis
          have hdis6 : (Value.slice d1 m3 p3).ownBlock ≠ some b5 := by
            rcases hb7 with h | h
            · subst h; exact hdis
            · obtain ⟨vs, ve, e, oS, _⟩ := hOD0
              simp [dv] at e
              obtain ⟨rfl, _⟩ := e
              exact fun e => by have := (oS.lt _ e).2; (try simp only [World.size_alloc] at this); omega
          have hV9 := hV0.trans (hA9.mono hV0.size)
          have hV6 : Below w.heap.size w w5 := hV9.grown hg6 hV9.size (fun k hk => by cases hk; exact (hO9.lt _ rfl).1)
          go_roundw
          case rel =>
            refine ⟨OK.length + 1, c5, b5, (Value.slice d1 m3 p3), (Value.slice d2 m4 p4), by omega, by go_num, rfl, hdis6, ?_, ?_, hH6, fD6, ?_, ?_, hV6⟩
            · rw [HoK.out]; exact hO6
            · rw [HsK.out]; exact bD6
            · rw [HsK.out]; exact hOD6
            · rw [HsK.out]; exact hok'
          case measure => simp [intOf]; omega
      · obtain rfl : k = ops.length := by omega
        go_wp2_with fail
        go_ret
        exact ⟨_, rfl, hO, hBr⟩
end Go.Proofs.Ytilhagcdhdmjaaa
