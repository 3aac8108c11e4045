import Derived.Test.YtlnekedehalbdaaPsQ
namespace Go.Proofs.Ytlnekedehalbdaa
open Go.RowKit
set_option linter.unusedVariables false
set_option linter.unusedSimpArgs false

/-- The function that SortPlan asks: what it holds. -/
def fvA (Z : Nat) : Array Value := #[.pointer (some ⟨Z + 2, 0, none⟩), .pointer (some ⟨Z, 0, none⟩)]
/-- The program's sorter over answers. -/
structure SA (w0 : World) (Y : Nat) (av : Value) (W : World) (s : St) : Prop where
  bel : Below w0.heap.size w0 W
  yz : w0.heap.size + 2 < Y
  y : Y < W.heap.size
  c0 : W.cell? ⟨Y, 0, none⟩ = some (.func (.func 27) #[] (fvA w0.heap.size))
  c1 : W.cell? ⟨Y, 1, none⟩ = some (.bool s.k)
  fy : ∀ o, W.frozen? ⟨Y, o, none⟩ = false
  ck : W.cell? ⟨w0.heap.size, 0, none⟩ = some av
  fq : W.frozen? ⟨w0.heap.size + 2, 0, none⟩ = false
  ty : ∃ cur p, W.heap[Y]? = some (.cells cur 62 p)
  tk : ∃ cur p, W.heap[w0.heap.size]? = some (.cells cur 29 p)
  tq : ∃ cur p, W.heap[w0.heap.size + 2]? = some (.cells cur 30 p)
  cq : ∃ aq, W.cell? ⟨w0.heap.size + 2, 0, none⟩ = some aq ∧ OwnG shQ 43 W (w0.heap.size + 1) aq s.h
def EA (Z Y : Nat) : Nat → Prop := fun j => j = Y ∨ j = Z ∨ j = Z + 2
theorem SA.ne {w0 W : World} {Y : Nat} {av : Value} {s : St} (h : SA w0 Y av W s) {v : Value} {B : Nat} {q : List (Int × Int)} (hO : OwnG shQ 43 W B v q) : (v.ownBlock = none ∨ v.ownBlock ≠ some Y) ∧ (v.ownBlock = none ∨ v.ownBlock ≠ some w0.heap.size) ∧ (v.ownBlock = none ∨ v.ownBlock ≠ some (w0.heap.size + 2)) :=
  ⟨ask_ne hO h.ty (by decide), ask_ne hO h.tk (by decide), ask_ne hO h.tq (by decide)⟩
theorem ne_sym {v : Value} {X : Nat} (h : v.ownBlock = none ∨ v.ownBlock ≠ some X) : some X ≠ v.ownBlock := fun e => by
  rcases h with h | h
  · rw [h] at e; cases e
  · exact h e.symm
/-- Blocks that are as they were. -/
theorem SA.same {w0 W W' : World} {Y : Nat} {av : Value} {s : St} (h : SA w0 Y av W s) (hB : Below w0.heap.size w0 W') (hz : W.heap.size ≤ W'.heap.size) (eY : W'.heap[Y]? = W.heap[Y]?) (eK : W'.heap[w0.heap.size]? = W.heap[w0.heap.size]?) (eQ : W'.heap[w0.heap.size + 2]? = W.heap[w0.heap.size + 2]?) (hO : ∀ aq, OwnG shQ 43 W (w0.heap.size + 1) aq s.h → OwnG shQ 43 W' (w0.heap.size + 1) aq s.h) : SA w0 Y av W' s := by
  obtain ⟨aq, q1, q2⟩ := h.cq
  exact ⟨hB, h.yz, Nat.lt_of_lt_of_le h.y hz, (World.cell?_of_block (a := ⟨Y, 0, none⟩) eY).trans h.c0, (World.cell?_of_block (a := ⟨Y, 1, none⟩) eY).trans h.c1, fun o => (World.frozen?_of_block (a := ⟨Y, o, none⟩) eY).trans (h.fy o), (World.cell?_of_block (a := ⟨w0.heap.size, 0, none⟩) eK).trans h.ck, (World.frozen?_of_block (a := ⟨w0.heap.size + 2, 0, none⟩) eQ).trans h.fq, by rw [eY]; exact h.ty, by rw [eK]; exact h.tk, by rw [eQ]; exact h.tq, aq, (World.cell?_of_block (a := ⟨w0.heap.size + 2, 0, none⟩) eQ).trans q1, hO aq q2⟩
theorem OwnG.blk {w w' : World} {B : Nat} {v : Value} {q : List (Int × Int)} (h : OwnG shQ 43 w B v q) (k : ∀ j, j < w.heap.size → IsQ w j → w'.heap[j]? = w.heap[j]?) : OwnG shQ 43 w' B v q := by
  have hI := own_ask h
  obtain ⟨⟨h1, h2⟩, h3⟩ := h
  refine ⟨⟨h1, ?_⟩, h3⟩
  rcases h2 with h2 | ⟨g, cap, cur, e, hg, hh, r⟩
  · exact .inl h2
  · have hlt : g < w.heap.size := by
      rcases Nat.lt_or_ge g w.heap.size with h | h
      · exact h
      · rw [Array.getElem?_eq_none (by simpa using h)] at hh; cases hh
    exact .inr ⟨g, cap, cur, e, hg, (k g hlt ⟨cur, _, hh⟩).trans hh, r⟩
theorem SA.keep {w0 W W' : World} {Y : Nat} {av : Value} {s : St} (h : SA w0 Y av W s) (k : Kp (EA w0.heap.size Y) w0.heap.size W W') : SA w0 Y av W' s := by
  have hz := h.bel.size
  have hyz := h.yz
  have hy := h.y
  exact h.same (h.bel.trans ⟨k.os, k.tape, k.output, k.size, fun j hj => k.blk j (by omega) (.inl hj)⟩) k.size (k.blk Y h.y (.inr (.inl (.inl rfl)))) (k.blk w0.heap.size (by omega) (.inr (.inl (.inr (.inl rfl))))) (k.blk (w0.heap.size + 2) (by omega) (.inr (.inl (.inr (.inr rfl))))) (fun aq hO => hO.blk (fun j hj hq => k.blk j hj (.inr (.inr hq))))
/-- The mark of being stuck is set. -/
theorem SA.setk {w0 W : World} {Y : Nat} {av : Value} {s : St} (h : SA w0 Y av W s) (k : Bool) : SA w0 Y av (W.setCell ⟨Y, 1, none⟩ (.bool k)) ⟨s.h, k⟩ := by
  have g := gb_set W Y 1 (.bool k)
  have hyz := h.yz
  have hz := h.bel.size
  have hy := h.y
  have eK := g.block w0.heap.size (by omega) (by simp; omega)
  have eQ := g.block (w0.heap.size + 2) (by omega) (by simp; omega)
  obtain ⟨aq, q1, q2⟩ := h.cq
  exact ⟨h.bel.trans (gb_to g (fun j hj => by simp at hj; omega) hz), hyz, Nat.lt_of_lt_of_le hy g.size, by rw [World.cell?_setCell_other _ _ _ _ (by simp)]; exact h.c0, World.cell?_setCell_same _ _ _ h.c1, fun o => by rw [World.frozen?_setCell]; exact h.fy o, (World.cell?_of_block (a := ⟨w0.heap.size, 0, none⟩) eK).trans h.ck, (World.frozen?_of_block (a := ⟨w0.heap.size + 2, 0, none⟩) eQ).trans h.fq, ty_set h.ty, by rw [eK]; exact h.tk, by rw [eQ]; exact h.tq, aq, (World.cell?_of_block (a := ⟨w0.heap.size + 2, 0, none⟩) eQ).trans q1, q2.but g (h.ne q2).1⟩
theorem SA.drewN {w0 W : World} {Y : Nat} {av : Value} {s : St} (h : SA w0 Y av W s) : SA w0 Y av W.drew s := h.keep (Kp.below (Below.refl _ _).drew)

set_option maxRecDepth 100000 in
set_option maxHeartbeats 1000000 in
theorem tellA_any (w0 W : World) (Y : Nat) (av : Value) (ans : List Bool) (s : St) (a b : Nat) (hS : SA w0 Y av W s) (hsk : s.k = false) (hk : RdG shB w0 av ans) (ha : a < 16777216) (hb : b < 16777216) (hl : s.h.length < 1000000) :
    Calls Try.prog 27 #[.int .i64 a, .int .i64 b, .pointer (some ⟨w0.heap.size + 2, 0, none⟩), .pointer (some ⟨w0.heap.size, 0, none⟩)] W fun e W' => e = .returned (.tuple #[.bool (ask (tellA ans) s a b).1, .bool (!(ask (tellA ans) s a b).2.k)]) ∧ SA w0 Y av W' ⟨(ask (tellA ans) s a b).2.h, false⟩ ∧ OfE (EA w0.heap.size Y) W W' := by
  have hS' := hS
  obtain ⟨hB, hyz, hy, c0, c1, fy, ck, fq, tY, tK, tQ, aq, cq, hA⟩ := hS
  obtain ⟨qa, qc, eq⟩ := hA.form
  subst eq
  have hzB := hB.size
  have hask2 : (ask (tellA ans) s a b).2.h = s.h ++ [((a : Int), (b : Int))] := by
    unfold ask
    rw [if_neg (by rw [hsk]; simp)]
    split <;> rfl
  obtain ⟨Z, hZ⟩ : ∃ Z, w0.heap.size = Z := ⟨_, rfl⟩
  have HZ : Hid (w0.heap.size = Z) := hZ
  have hAl := al_below W (.cells #[.int .i64 (a : Int), .int .i64 (b : Int)] 43)
  have hS1 : SA w0 Y av (W.alloc (.cells #[.int .i64 (a : Int), .int .i64 (b : Int)] 43)) s := hS'.keep (Kp.below hAl)
  have hA1 := hA.keep hAl
  have hE1 : ∀ j, j < shQ.n → (W.alloc (.cells #[.int .i64 (a : Int), .int .i64 (b : Int)] 43)).cell? ⟨W.heap.size, j, none⟩ = (shQ.cs ((a : Int), (b : Int)))[j]? := by
    intro j hj
    rw [World.cell?_alloc_at _ _ _ _ rfl]
    have : j = 0 ∨ j = 1 := by simp [shQ] at hj; omega
    rcases this with rfl | rfl <;> rfl
  have hok : shQ.ok ((a : Int), (b : Int)) := by show (_ ∧ _) ∧ _; simp only; omega
  -- behind the append and the store
  have HST : ∀ a' c' w', OwnG shQ 43 w' (w0.heap.size + 1) (.slice a' (s.h ++ [((a : Int), (b : Int))]).length c') (s.h ++ [((a : Int), (b : Int))]) → (W.alloc (.cells #[.int .i64 (a : Int), .int .i64 (b : Int)] 43)).grownBy w' (Value.slice qa s.h.length qc).ownBlock →
      w'.cell? ⟨w0.heap.size + 2, 0, none⟩ = some (.slice qa s.h.length qc) ∧ w'.frozen? ⟨w0.heap.size + 2, 0, none⟩ = false ∧ w'.cell? ⟨w0.heap.size, 0, none⟩ = some av ∧
      SA w0 Y av (w'.setCell ⟨w0.heap.size + 2, 0, none⟩ (.slice a' (s.h.length + 1) c')) ⟨s.h ++ [((a : Int), (b : Int))], false⟩ ∧ OfE (EA w0.heap.size Y) W (w'.setCell ⟨w0.heap.size + 2, 0, none⟩ (.slice a' (s.h.length + 1) c')) := by
    intro a' c' w' hO hg
    obtain ⟨n1, n2, n3⟩ := hS1.ne hA1
    have hzz : W.heap.size ≤ (W.alloc (.cells #[.int .i64 (a : Int), .int .i64 (b : Int)] 43)).heap.size := hAl.size
    have eY := hg.block Y (by omega) (ne_sym n1)
    have eK := hg.block w0.heap.size (by omega) (ne_sym n2)
    have eQ := hg.block (w0.heap.size + 2) (by omega) (ne_sym n3)
    have g2 := gb_set w' (w0.heap.size + 2) 0 (.slice a' (s.h.length + 1) c')
    have q1 : w'.cell? ⟨w0.heap.size + 2, 0, none⟩ = some (.slice qa s.h.length qc) := (World.cell?_of_block (a := ⟨w0.heap.size + 2, 0, none⟩) eQ).trans ((hAl.cell (p := ⟨w0.heap.size + 2, 0, none⟩) (by show w0.heap.size + 2 < _; omega)).trans cq)
    have q2 : w'.frozen? ⟨w0.heap.size + 2, 0, none⟩ = false := (World.frozen?_of_block (a := ⟨w0.heap.size + 2, 0, none⟩) eQ).trans hS1.fq
    have q3 : w'.cell? ⟨w0.heap.size, 0, none⟩ = some av := (World.cell?_of_block (a := ⟨w0.heap.size, 0, none⟩) eK).trans hS1.ck
    have tQ' : ∃ cur p, w'.heap[w0.heap.size + 2]? = some (.cells cur 30 p) := by rw [eQ]; exact hS1.tq
    have hgs := hg.size
    have fY := g2.block Y (by omega) (by simp; omega)
    have fK := g2.block w0.heap.size (by omega) (by simp)
    refine ⟨q1, q2, q3, ⟨?_, hyz, ?_, ?_, ?_, ?_, ?_, ?_, ?_, ?_, ty_set tQ', _, World.cell?_setCell_same _ _ _ q1, ?_⟩, ?_⟩
    · exact (hS1.bel.trans (gb_to hg (fun j hj => by have := (hA1.lt j hj).1; omega) (by omega))).trans (gb_to g2 (fun j hj => by simp at hj; omega) (by omega))
    · have := g2.size; omega
    · exact (World.cell?_of_block (a := ⟨Y, 0, none⟩) (fY.trans eY)).trans hS1.c0
    · exact (World.cell?_of_block (a := ⟨Y, 1, none⟩) (fY.trans eY)).trans (by have := hS1.c1; rw [hsk] at this; exact this)
    · exact fun o => (World.frozen?_of_block (a := ⟨Y, o, none⟩) (fY.trans eY)).trans (hS1.fy o)
    · exact (World.cell?_of_block (a := ⟨w0.heap.size, 0, none⟩) fK).trans q3
    · rw [World.frozen?_setCell]; exact q2
    · rw [fY, eY]; exact hS1.ty
    · rw [fK, eK]; exact hS1.tk
    · have hO2 := hO.but g2 (ask_ne hO tQ' (by decide))
      rw [List.length_append, List.length_singleton] at hO2
      exact hO2
    · exact ((OfE.below hAl).trans (OfE.gb hg (fun j hj => .inr (own_ask hA1 j hj)))).trans (OfE.gb g2 (fun j hj => .inl (.inr (.inr (by simp at hj; omega)))))
  have HSH : Hid _ := HST
  clear HST hS1 hZ HZ Z hAl
  have hav : ∀ V, Below w0.heap.size w0 V → RdG shB V av ans := fun V h => hk.keep h
  obtain ⟨ka, kc, rfl⟩ := hk.form
  have hmax : ans.length ≤ 16777216 := by obtain ⟨_, _, _, h, _⟩ := hk; exact h
  have wS : IntKind.i64.wrap (((s.h.length : Int) + 1) - 1) = (s.h.length : Int) := by rw [IntKind.wrap_i64]; omega
  have wT : (s.h.length : Int) + 1 - 1 = (s.h.length : Int) := by omega
  have wU : IntKind.i64.wrap (s.h.length : Int) = (s.h.length : Int) := by rw [IntKind.wrap_i64]; omega
  by_cases hlt : s.h.length < ans.length
  · have hask : ask (tellA ans) s a b = (ans[s.h.length], ⟨s.h ++ [((a : Int), (b : Int))], false⟩) := by
      rw [ask_told hsk (r := ans[s.h.length]) (by simp [tellA, hlt])]
    rw [hask]
    obtain ⟨R, hR⟩ : ∃ R, ans[s.h.length] = R := ⟨_, rfl⟩
    obtain ⟨kb, ko, hka, hkb, hcell⟩ : ∃ b off, ka = some ⟨b, off, none⟩ ∧ b < w0.heap.size ∧ w0.cell? ⟨b, off + s.h.length, none⟩ = some (.bool R) := by
      obtain ⟨a1, c1, e, _, _, _, hkc⟩ := hk
      simp only [Value.slice.injEq] at e
      obtain ⟨rfl, -, rfl⟩ := e
      obtain ⟨kb, ko, e1, hkb, hcell⟩ := hkc (by omega)
      have g1 := hcell s.h.length hlt 0 (by decide)
      simp only [show shB.n = 1 from rfl, Nat.mul_one, Nat.add_zero, shB, List.getElem?_cons_zero] at g1
      rw [hR] at g1
      exact ⟨kb, ko, e1, hkb, g1⟩
    subst hka
    rw [hR]
    have hng : ¬ (ans.length : Int) < (s.h.length : Int) + 1 := by omega
    have hin : (s.h.length : Int) < (ans.length : Int) := by omega
    have hs0 : (0 : Int) ≤ (s.h.length : Int) := by omega
    clear hask hR hav hk hS' tY tK tQ c0 c1 fy hask2
    go_enter Try.func27, Try.ntmps27
    go_wp2_with (at_builtin; refine wpList_append_one Try.info43 rfl (by decide) rfl _ _ 30 rfl Try.underlying30 (w0.heap.size + 1) _ s.h ((a : Int), (b : Int)) hok W.heap.size 1 rfl rfl hA1 hE1 (by omega) (by simp; omega) ?_; intro a' c' w' hO hg; obtain ⟨q1, q2, q3, hSA, hOf⟩ := HSH.out a' c' w' hO hg; have q4 := hSA.ck; have e4 := (hSA.bel.cell (p := ⟨kb, ko + s.h.length, none⟩) hkb).trans hcell; have q5 := World.cell?_setCell_same w' ⟨w0.heap.size + 2, 0, none⟩ (.slice a' (s.h.length + 1) c') q1)
    exact bodyPost_ret (v := .tuple #[.bool R, .bool true]) (by simp [results, Try.results27, go_sem]) rfl ⟨rfl, hSA, hOf⟩
  · have hask : ask (tellA ans) s a b = (false, ⟨s.h ++ [((a : Int), (b : Int))], true⟩) := by
      rw [ask_none hsk (by simp [tellA]; omega)]
    rw [hask]
    have hng : (ans.length : Int) < (s.h.length : Int) + 1 := by omega
    clear hask hav hk hS' tY tK tQ c0 c1 fy hask2
    go_enter Try.func27, Try.ntmps27
    go_wp2_with (at_builtin; refine wpList_append_one Try.info43 rfl (by decide) rfl _ _ 30 rfl Try.underlying30 (w0.heap.size + 1) _ s.h ((a : Int), (b : Int)) hok W.heap.size 1 rfl rfl hA1 hE1 (by omega) (by simp; omega) ?_; intro a' c' w' hO hg; obtain ⟨q1, q2, q3, hSA, hOf⟩ := HSH.out a' c' w' hO hg; have q4 := hSA.ck; have q5 := World.cell?_setCell_same w' ⟨w0.heap.size + 2, 0, none⟩ (.slice a' (s.h.length + 1) c') q1)
    exact bodyPost_ret (v := .tuple #[.bool false, .bool false]) (by simp [results, Try.results27, go_sem]) rfl ⟨rfl, hSA, hOf⟩
set_option maxRecDepth 100000 in
set_option maxHeartbeats 1000000 in
theorem isLessA_any (w0 W : World) (Y : Nat) (av : Value) (ans : List Bool) (s : St) (a b : Nat) (hS : SA w0 Y av W s) (hk : RdG shB w0 av ans) (ha : a < 16777216) (hb : b < 16777216) (hl : s.h.length < 1000000) :
    Calls Try.prog 45 #[.pointer (some ⟨Y, 0, none⟩), .int .i64 a, .int .i64 b] W fun e W' => e = .returned (.bool (ask (tellA ans) s a b).1) ∧ SA w0 Y av W' (ask (tellA ans) s a b).2 ∧ OfE (EA w0.heap.size Y) W W' := by
  have c0 := hS.c0
  have c1 := hS.c1
  unfold fvA at c0
  cases hsk : s.k
  · have HC := tellA_any w0 W Y av ans s a b hS hsk hk ha hb hl
    have hkf : (ask (tellA ans) s a b).2.k = true → (ask (tellA ans) s a b).1 = false := by
      unfold ask
      rw [if_neg (by rw [hsk]; simp)]
      split <;> simp
    generalize ask (tellA ans) s a b = AR at *
    obtain ⟨r, s2⟩ := AR
    simp only at HC hkf ⊢
    rw [hsk] at c1
    go_enter Try.func45, Try.ntmps45
    go_wp2_with fail
    refine HC.mono ?_
    rintro e w3 ⟨rfl, hS3, hF3⟩
    have d1 := hS3.c1
    have f1 := hS3.fy 1
    have hfin : SA w0 Y av (w3.setCell ⟨Y, 1, none⟩ (.bool s2.k)) s2 := hS3.setk s2.k
    have hfo : OfE (EA w0.heap.size Y) W (w3.setCell ⟨Y, 1, none⟩ (.bool s2.k)) := hF3.trans (OfE.gb (gb_set _ _ _ _) (fun j hj => .inl (.inl (by simp at hj; omega))))
    clear HC
    cases hk2 : s2.k
    · rw [hk2] at hfin hfo
      cases r
      all_goals
        go_wp2_with fail
        go_ret
        exact ⟨rfl, hfin, hfo⟩
    · rw [hk2] at hfin hfo
      obtain rfl := hkf hk2
      go_wp2_with fail
      go_ret
      exact ⟨rfl, hfin, hfo⟩
  · have hask := ask_stuck (t := tellA ans) hsk (a : Int) (b : Int)
    rw [hask]
    rw [hsk] at c1
    go_enter Try.func45, Try.ntmps45
    go_wp2_with fail
    go_ret
    exact ⟨rfl, hS, OfE.refl _ _⟩
theorem tlrA (w0 : World) (Y : Nat) (av : Value) (ans : List Bool) (n : Nat) (hn : n ≤ 2000) (hk : RdG shB w0 av ans) (hY : w0.heap.size + 2 < Y) : Tlr (tellA ans) n w0.heap.size Y (EA w0.heap.size Y) (SA w0 Y av) where
  lt := fun W s h j hj => by
    have := h.y
    have := h.yz
    rcases hj with e | e | e <;> omega
  z := fun j hj => by rcases hj with e | e | e <;> omega
  y := .inl rfl
  k := fun W s h => h.c1
  bel := fun W s h => h.bel.size
  ask := fun W s a b h ha hb hl => isLessA_any w0 W Y av ans s a b h hk (by omega) (by omega) hl
  keep := fun W W' s h k => h.keep k
end Go.Proofs.Ytlnekedehalbdaa
