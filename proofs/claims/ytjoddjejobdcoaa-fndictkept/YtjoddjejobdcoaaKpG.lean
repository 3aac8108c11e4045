import Derived.Test.YtjoddjejobdcoaaKpF
import Derived.Test.YtjoddjejobdcoaaKpA
namespace Go.Proofs.Ytjoddjejobdcoaa
open Go.RowKit Go.Maps
set_option linter.unusedVariables false
set_option linter.unusedSimpArgs false

/-- A dict that is not too great. -/
structure Gd (d : Dt) : Prop where
  eok : ∀ e ∈ d.e, shE.ok e
  sl : d.s.length ≤ 1024
  el : d.e.length ≤ 200
  lb : -1000 ≤ d.l ∧ d.l ≤ 1000
theorem livN_le (es : List En) : livN es ≤ es.length := List.countP_le_length
theorem Dr.gd {d : Dt} (h : Dr d 40) : Gd d := by
  refine ⟨h.eok, by have := h.sl; omega, by have := h.len; omega, ?_⟩
  rw [h.ok.2.2.2.1]
  have := livN_le d.e
  have := h.len
  omega

theorem xor1 {h : Int} (h0 : 0 ≤ h) (h1 : h < 18446744073709551616) : ∃ R, bits .xor .u64 h 1 = R ∧ 0 ≤ R ∧ R < 18446744073709551616 := by
  obtain ⟨q, rfl⟩ : ∃ q : Nat, h = (q : Int) := ⟨h.toNat, by omega⟩
  have := u64_xor_nat q 1 (by omega) (by omega)
  refine ⟨_, this, by omega, ?_⟩
  have : q ^^^ 1 < 2 ^ 64 := Nat.xor_lt_two_pow (by omega) (by omega)
  omega

set_option maxRecDepth 100000 in
set_option maxHeartbeats 1000000 in
theorem l7DrawAny_any (w : World) (g : Nat) (a : Option Addr) (n c : Nat) (bs : List Int) (hR : Rdr w g a n c bs) (hbz : ∀ b off, 0 < n → a = some ⟨b, off, none⟩ → b < w.heap.size) :
    Calls Try.prog 83 #[.pointer (some ⟨g, 0, none⟩)] w fun e w' => ∃ v d, e = .returned v ∧ OwnD w' w.heap.size v d ∧ Gd d ∧ Drawn w w' g a n c bs := by
  have hglt := hR.lt
  have hLD := fun W h hb => l7Draw_any W g a n c bs h hb
  have hO4 := fun W h => dr_once_any W g a n c bs 4 (by omega) (by omega) h
  have hB8 : ∀ W, Rdr W g a n c bs → Calls Try.prog 64 #[.pointer (some ⟨g, 0, none⟩), .int .i64 8] W fun e w' => ∃ x : Nat, e = .returned (.int .i64 x) ∧ x < 8 ∧ Drawn W w' g a n c bs := fun W h => dr_below_any W g a n c bs 8 (by omega) (by omega) h
  have hB2 : ∀ W, Rdr W g a n c bs → Calls Try.prog 64 #[.pointer (some ⟨g, 0, none⟩), .int .i64 2] W fun e w' => ∃ x : Nat, e = .returned (.int .i64 x) ∧ x < 2 ∧ Drawn W w' g a n c bs := fun W h => dr_below_any W g a n c bs 2 (by omega) (by omega) h
  have hB5 : ∀ W, Rdr W g a n c bs → Calls Try.prog 64 #[.pointer (some ⟨g, 0, none⟩), .int .i64 5] W fun e w' => ∃ x : Nat, e = .returned (.int .i64 x) ∧ x < 5 ∧ Drawn W w' g a n c bs := fun W h => dr_below_any W g a n c bs 5 (by omega) (by omega) h
  have hB30 : ∀ W, Rdr W g a n c bs → Calls Try.prog 64 #[.pointer (some ⟨g, 0, none⟩), .int .i64 30] W fun e w' => ∃ x : Nat, e = .returned (.int .i64 x) ∧ x < 30 ∧ Drawn W w' g a n c bs := fun W h => dr_below_any W g a n c bs 30 (by omega) (by omega) h
  have bW0 : Below w.heap.size w (w.alloc (Obj.cells #[Value.slice none 0 0, Value.slice none 0 0, Value.int IntKind.i64 0] 25)) := (Below.refl _ w).alloc (Nat.le_refl _) _
  go_enter Try.func83, Try.ntmps83
  go_wp2_with fail
  refine (hLD _ (hR.keep bW0) (fun b off h0 e => by have := hbz b off h0 e; simp; omega)).mono ?_
  rintro e w1 ⟨v0, d, rfl, hO1, hDr, hD1⟩
  obtain ⟨a1, n1, c1, a2, n2, c2, e0⟩ := hO1.rd.form
  subst e0
  have hDw1 := ((Drawn.refl hR).below bW0).trans hD1
  have bR0 := (Box3.new w (.slice none 0 0) (.slice none 0 0) (.int .i64 0) 25).but hD1.gb (by simp; omega)
  have fR0 : ∀ o, w1.frozen? ⟨w.heap.size, o, none⟩ = false := fun o => dr_gb_frozen hD1.gb (by omega) (by simp) (World.frozen?_alloc_at _ _ _ _ rfl)
  simp only [World.size_alloc] at hO1
  obtain ⟨D0, hD0⟩ : ∃ D0, w1.heap.size = D0 := ⟨_, rfl⟩
  have bD := Box3.new w1 (.slice a1 n1 c1) (.slice a2 n2 c2) (.int .i64 d.l) 25
  have fD : ∀ o, (w1.alloc (.cells #[.slice a1 n1 c1, .slice a2 n2 c2, .int .i64 d.l] 25)).frozen? ⟨w1.heap.size, o, none⟩ = false := fun o => World.frozen?_alloc_at _ _ _ _ rfl
  have bA : Below w1.heap.size w1 (w1.alloc (.cells #[.slice a1 n1 c1, .slice a2 n2 c2, .int .i64 d.l] 25)) := (Below.refl _ _).alloc (Nat.le_refl _) _
  have hO2 := hO1.keep bA
  have bR2 := bR0.keep bA
  have fR2 : ∀ o, (w1.alloc (.cells #[.slice a1 n1 c1, .slice a2 n2 c2, .int .i64 d.l] 25)).frozen? ⟨w.heap.size, o, none⟩ = false := fun o => by rw [World.frozen?_alloc_past _ _ _ bR0.1]; exact fR0 o
  have hDw2 := hDw1.below bA
  have hsz : w.heap.size < D0 := by have := bR0.1; omega
  have hlo : (∀ k, (Value.slice a1 n1 c1).ownBlock = some k → k < D0) ∧ (∀ k, (Value.slice a2 n2 c2).ownBlock = some k → k < D0) := by
    obtain ⟨vs, ve, ev, o1, o2, _⟩ := hO1
    simp [dv] at ev
    obtain ⟨rfl, rfl⟩ := ev
    exact ⟨fun k hk => by have := (o1.lt k hk).2; omega, fun k hk => by have := (o2.lt k hk).2; omega⟩
  rw [hD0] at bD fD
  simp only
  go_wp2_with fail
  try rw [hD0]
  generalize hWW : w1.alloc (.cells #[.slice a1 n1 c1, .slice a2 n2 c2, .int .i64 d.l] 25) = W2 at *
  clear hWW bR0 fR0 bA hD1 bW0 hDw1
  refine (hO4 _ hDw2.rd).mono ?_
  rintro e w3 ⟨t, rfl, hD3⟩
  have bD3 := bD.but hD3.gb (by simp; omega)
  have fD3 : ∀ o, w3.frozen? ⟨D0, o, none⟩ = false := fun o => dr_gb_frozen hD3.gb (by omega) bD.1 (fD o)
  have bR3 := bR2.but hD3.gb (by simp; omega)
  have fR3 : ∀ o, w3.frozen? ⟨w.heap.size, o, none⟩ = false := fun o => dr_gb_frozen hD3.gb (by omega) bR2.1 (fR2 o)
  have hO3 := hO2.drawn (g := g) (by omega) hD3
  have hDw3 := hDw2.trans hD3
  clear bD fD bR2 fR2 hO2 hDw2 hD3 hO1
  cases t
  · obtain ⟨-, q0, q1, q2⟩ := id bD3
    obtain ⟨-, r0, r1, r2⟩ := id bR3
    have f0 := fR3 0
    have f1 := fR3 1
    have f2 := fR3 2
    have s0 := bR3.p0 (.slice a1 n1 c1)
    have s1 := s0.p1 (.slice a2 n2 c2)
    have s2 := s1.p2 (.int .i64 d.l)
    go_wp2
    refine bodyPost_ret (v := .agg #[.slice a1 n1 c1, .slice a2 n2 c2, .int .i64 d.l]) (by simp [results, Try.results83, go_sem, s0.2.1, s1.2.2.1, s2.2.2.2]) rfl ⟨_, d, rfl, ?_, hDr.gd, ?_⟩
    · exact (((hO3.setB (by omega) _).setB (by omega) _).setB (by omega) _).mono (by omega)
    · exact ((hDw3.grown (gb_set _ _ _ _) (fun j hj => by cases hj; omega) hglt hbz).grown (gb_set _ _ _ _) (fun j hj => by cases hj; omega) hglt hbz).grown (gb_set _ _ _ _) (fun j hj => by cases hj; omega) hglt hbz
  · go_wp2_with fail
    refine (hB8 _ hDw3.rd).mono ?_
    rintro e w4 ⟨kk, rfl, hkk, hD4⟩
    have bD := bD3.but hD4.gb (by simp; omega)
    have fD : ∀ o, w4.frozen? ⟨D0, o, none⟩ = false := fun o => dr_gb_frozen hD4.gb (by omega) bD3.1 (fD3 o)
    have bR := bR3.but hD4.gb (by simp; omega)
    have fR : ∀ o, w4.frozen? ⟨w.heap.size, o, none⟩ = false := fun o => dr_gb_frozen hD4.gb (by omega) bR3.1 (fR3 o)
    have hO := hO3.drawn (g := g) (by omega) hD4
    have hDw := hDw3.trans hD4
    clear bD3 fD3 bR3 fR3 hO3 hDw3 hD4 hO4 hB8 hLD
    obtain ⟨-, q0, q1, q2⟩ := id bD
    obtain ⟨-, r0, r1, r2⟩ := id bR
    have f0 := fR 0
    have f1 := fR 1
    have f2 := fR 2
    have p0 := fD 0
    have p1 := fD 1
    have p2 := fD 2
    have hG := hDr.gd
    have hlb := hG.lb
    obtain ⟨vs, ve, ev, oS, oE, oN⟩ := hO
    simp [dv] at ev
    obtain ⟨rfl, rfl⟩ := ev
    obtain ⟨_, _, e1⟩ := oS.form
    obtain ⟨_, _, e2⟩ := oE.form
    simp only [Value.slice.injEq] at e1 e2
    have HN1 : Hid (n1 = d.s.length) := e1.2.1
    have HN2 : Hid (n2 = d.e.length) := e2.2.1
    have hn1 : n1 ≤ 256 := by rw [HN1.out]; exact hDr.sl
    have hn2 : n2 ≤ 40 := by rw [HN2.out]; exact hDr.len
    clear e1 e2
    have hG0 : Gd ⟨d.s, d.e, d.l + 1⟩ := ⟨hG.eok, hG.sl, hG.el, by
      have := livN_le d.e
      have := hDr.len
      have := hDr.ok.2.2.2.1
      show -1000 ≤ d.l + 1 ∧ d.l + 1 ≤ 1000
      omega⟩
    have hs8 : 8 ≤ n1 := by
      obtain ⟨m, hm3, _, hme⟩ := hDr.ok.1
      rw [HN1.out, hme]; exact Nat.pow_le_pow_right (n := 2) (i := 3) (by decide) hm3
    have hcase : kk = 0 ∨ kk = 1 ∨ kk = 2 ∨ kk = 3 ∨ kk = 4 ∨ kk = 5 ∨ kk = 6 ∨ kk = 7 := by omega
    rcases hcase with rfl | rfl | rfl | rfl | rfl | rfl | rfl | rfl
    · have bR' := bR.far (c := D0) (o := 2) (by omega) (.int .i64 (d.l + 1))
      have s0 := bR'.p0 (.slice a1 n1 c1)
      have s1 := s0.p1 (.slice a2 n2 c2)
      have s2 := s1.p2 (.int .i64 (d.l + 1))
      go_wp2
      refine bodyPost_ret (v := .agg #[.slice a1 n1 c1, .slice a2 n2 c2, .int .i64 (d.l + 1)]) (by simp [results, Try.results83, go_sem, s0.2.1, s1.2.2.1, s2.2.2.2]) rfl ⟨_, ⟨d.s, d.e, d.l + 1⟩, rfl, ⟨.slice a1 n1 c1, .slice a2 n2 c2, rfl, ?_, ?_, oN⟩, hG0, ?_⟩
      · exact ((((oS.but (gb_set w4 D0 2 (.int .i64 (d.l + 1))) (.inr fun e => by have := hlo.1 _ e; omega)).setBelow (by simp) _).setBelow (by simp) _).setBelow (by simp) _).mono (by omega)
      · exact ((((oE.but (gb_set w4 D0 2 (.int .i64 (d.l + 1))) (.inr fun e => by have := hlo.2 _ e; omega)).setBelow (by simp) _).setBelow (by simp) _).setBelow (by simp) _).mono (by omega)
      · exact (((hDw.grown (gb_set w4 D0 2 (.int .i64 (d.l + 1))) (fun j hj => by cases hj; omega) hglt hbz).grown (gb_set _ w.heap.size _ _) (fun j hj => by cases hj; omega) hglt hbz).grown (gb_set _ w.heap.size _ _) (fun j hj => by cases hj; omega) hglt hbz).grown (gb_set _ w.heap.size _ _) (fun j hj => by cases hj; omega) hglt hbz
    · by_cases he0 : n2 = 0
      · have hz : ((n2 : Int)) = 0 := by omega
        have hz' : ¬ (0 : Int) < (n2 : Int) := by omega
        have s0 := bR.p0 (.slice none 0 0)
        have s1 := s0.p1 (.slice none 0 0)
        have s2 := s1.p2 (.int .i64 0)
        go_wp2
        refine bodyPost_ret (v := .agg #[.slice none 0 0, .slice none 0 0, .int .i64 0]) (by simp [results, Try.results83, go_sem, s0.2.1, s1.2.2.1, s2.2.2.2]) rfl ⟨_, noD, rfl, ⟨.slice none 0 0, .slice none 0 0, rfl, ?_, ?_, (.inl rfl)⟩, ⟨by simp [noD], by simp [noD], by simp [noD], by simp [noD]⟩, ?_⟩
        · exact (((((Own.nil w4 (w.heap.size + 1))).setBelow (by simp) _).setBelow (by simp) _).setBelow (by simp) _).mono (by omega)
        · exact (((((OwnG.nil shE 63 w4 (w.heap.size + 1))).setBelow (by simp) _).setBelow (by simp) _).setBelow (by simp) _).mono (by omega)
        · exact (((hDw).grown (gb_set _ w.heap.size _ _) (fun j hj => by cases hj; omega) hglt hbz).grown (gb_set _ w.heap.size _ _) (fun j hj => by cases hj; omega) hglt hbz).grown (gb_set _ w.heap.size _ _) (fun j hj => by cases hj; omega) hglt hbz
      · rcases oE.shape with ⟨hv, hnil⟩ | ⟨ge, cp, hv, hge, hgl, hcp⟩
        · exfalso; have := HN2.out; rw [hnil] at this; simp at this; omega
        simp only [Value.slice.injEq] at hv
        obtain ⟨rfl, -, rfl⟩ := hv
        have hgD : ge < D0 := hlo.2 ge rfl
        have hgN : ge ≠ D0 := by omega
        have hpos : (0 : Int) < (n2 : Int) := by omega
        have hBS := fun W h => dr_belowG_any W g a n c bs n2 (by omega) h
        have hRd := (hDw.below (Below.refl _ w4).drew).rd
        have hDlt := bD.1
        go_wp2_with fail
        go_region_held3 (fun W => W.cell? ⟨D0, 1, none⟩ = some (.slice (some ⟨ge, 0, none⟩) n2 c2)) (go_keep) (first | (go_at_call 64; have hRd5 := hD5.rd; refine (hB30 _ hRd5).mono ?_; rintro e w6 ⟨z, rfl, hz, hD6⟩; have y1 := dr_gb_cell hD6.gb (by omega) (Nat.lt_of_lt_of_le hDlt hD5.gb.size) y0; have oE6 := ((oE.drew).drawn (by omega) hD5).drawn (by omega) hD6; have yc := oE6.cell x (by rw [← HN2.out]; exact hxl) 1 (by decide); simp only [shE, En.cs, List.getElem?_cons_succ, List.getElem?_cons_zero] at yc; have yf := oE6.frozen (x * 4 + 1)) | (go_at_call 64; refine (hBS _ hRd).mono ?_; rintro e w5 ⟨x, rfl, hx, hD5⟩; have y0 := dr_gb_cell hD5.gb (by omega) hDlt q1; have hxl : x < n2 := by omega))
        clear y0 y1 oE6 yc yf
        have hD46 := ((Drawn.refl hDw.rd).below (Below.refl _ w4).drew).trans (hD5.trans hD6)
        have bD6 := bD.but hD46.gb (by simp; omega)
        have bR6 := bR.but hD46.gb (by simp; omega)
        have fR6 : ∀ o, w6.frozen? ⟨w.heap.size, o, none⟩ = false := fun o => dr_gb_frozen hD46.gb (by omega) bR.1 (fR o)
        have oS6 := oS.drawn (by omega) hD46
        have oE6 := oE.drawn (by omega) hD46
        have hDw6 := hDw.trans hD46
        clear bD fD bR fR oS oE hDw hD46 hD5 hD6 q0 q1 q2 r0 r1 r2 f0 f1 f2 p0 p1 p2
        obtain ⟨-, q0, q1, q2⟩ := id bD6
        obtain ⟨-, r0, r1, r2⟩ := id bR6
        have f0 := fR6 0
        have f1 := fR6 1
        have f2 := fR6 2
        have hxe : x < d.e.length := by rw [← HN2.out]; exact hxl
        have hok := hG.eok d.e[x] (List.getElem_mem hxe)
        have hok2 : shE.ok ⟨d.e[x].h, (z : Int), d.e[x].v, d.e[x].g⟩ := ⟨hok.1, ⟨by show _ ≤ (z : Int); omega, by show (z : Int) < _; omega⟩, hok.2.2⟩
        have bR7 := bR6.far (c := ge) (o := x * 4 + 1) (by omega) (.int .i64 z)
        have bD7 := bD6.far (c := ge) (o := x * 4 + 1) hgN (.int .i64 z)
        have hneg : w.heap.size ≠ ge := by omega
        have HOK : Hid _ := hok2
        clear hok hok2
        have s0 := bR7.p0 (.slice a1 n1 c1)
        have s1 := s0.p1 (.slice (some ⟨ge, 0, none⟩) n2 c2)
        have s2 := s1.p2 (.int .i64 d.l)
        go_wp2
        refine bodyPost_ret (v := .agg #[.slice a1 n1 c1, .slice (some ⟨ge, 0, none⟩) n2 c2, .int .i64 d.l]) (by simp [results, Try.results83, go_sem, s0.2.1, s1.2.2.1, s2.2.2.2]) rfl ⟨_, ⟨d.s, d.e.set x ⟨d.e[x].h, (z : Int), d.e[x].v, d.e[x].g⟩, d.l⟩, rfl, ⟨.slice a1 n1 c1, .slice (some ⟨ge, 0, none⟩) n2 c2, rfl, ?_, ?_, oN⟩, ⟨fun e he => by rcases List.mem_or_eq_of_mem_set he with h | h; exact hG.eok e h; subst h; exact HOK.out, hG.sl, by simpa using hG.el, hG.lb⟩, ?_⟩
        · exact ((((oS6.but (gb_set w6 ge (x * 4 + 1) (.int .i64 z)) (by rcases oN with h | h; exact .inl h; exact .inr fun e => h (by rw [e]; rfl))).setBelow (by simp) _).setBelow (by simp) _).setBelow (by simp) _).mono (by omega)
        · exact ((((oE6.put x hxe 1 (by decide) (.int .i64 z) _ HOK.out rfl).setBelow (by simp) _).setBelow (by simp) _).setBelow (by simp) _).mono (by omega)
        · exact (((hDw6.grown (gb_set w6 ge (x * 4 + 1) (.int .i64 z)) (fun j hj => by cases hj; omega) hglt hbz).grown (gb_set _ w.heap.size _ _) (fun j hj => by cases hj; omega) hglt hbz).grown (gb_set _ w.heap.size _ _) (fun j hj => by cases hj; omega) hglt hbz).grown (gb_set _ w.heap.size _ _) (fun j hj => by cases hj; omega) hglt hbz
    · by_cases he0 : n2 = 0
      · have hz : ((n2 : Int)) = 0 := by omega
        have hz' : ¬ (0 : Int) < (n2 : Int) := by omega
        have s0 := bR.p0 (.slice none 0 0)
        have s1 := s0.p1 (.slice none 0 0)
        have s2 := s1.p2 (.int .i64 0)
        go_wp2
        refine bodyPost_ret (v := .agg #[.slice none 0 0, .slice none 0 0, .int .i64 0]) (by simp [results, Try.results83, go_sem, s0.2.1, s1.2.2.1, s2.2.2.2]) rfl ⟨_, noD, rfl, ⟨.slice none 0 0, .slice none 0 0, rfl, ?_, ?_, (.inl rfl)⟩, ⟨by simp [noD], by simp [noD], by simp [noD], by simp [noD]⟩, ?_⟩
        · exact (((((Own.nil w4 (w.heap.size + 1))).setBelow (by simp) _).setBelow (by simp) _).setBelow (by simp) _).mono (by omega)
        · exact (((((OwnG.nil shE 63 w4 (w.heap.size + 1))).setBelow (by simp) _).setBelow (by simp) _).setBelow (by simp) _).mono (by omega)
        · exact (((hDw).grown (gb_set _ w.heap.size _ _) (fun j hj => by cases hj; omega) hglt hbz).grown (gb_set _ w.heap.size _ _) (fun j hj => by cases hj; omega) hglt hbz).grown (gb_set _ w.heap.size _ _) (fun j hj => by cases hj; omega) hglt hbz
      · rcases oE.shape with ⟨hv, hnil⟩ | ⟨ge, cp, hv, hge, hgl, hcp⟩
        · exfalso; have := HN2.out; rw [hnil] at this; simp at this; omega
        simp only [Value.slice.injEq] at hv
        obtain ⟨rfl, -, rfl⟩ := hv
        have hgD : ge < D0 := hlo.2 ge rfl
        have hgN : ge ≠ D0 := by omega
        have hpos : (0 : Int) < (n2 : Int) := by omega
        have hBS := fun W h => dr_belowG_any W g a n c bs n2 (by omega) h
        have hRd := (hDw.below (Below.refl _ w4).drew).rd
        have hDlt := bD.1
        go_wp2_with fail
        go_region_with (go_at_call 64; refine (hBS _ hRd).mono ?_; rintro e w5 ⟨x, rfl, hx, hD5⟩; have y0 := dr_gb_cell hD5.gb (by omega) hDlt q1; have hxl : x < n2 := (by omega); have hxe : x < d.e.length := (by rw [← HN2.out]; exact hxl); have hok := hG.eok d.e[x] (List.getElem_mem hxe); obtain ⟨R, hRx, hR0, hR1⟩ := xor1 hok.1.1 hok.1.2; have oE6 := (oE.drew).drawn (by omega) hD5; have yc : w5.cell? ⟨ge, x * 4, none⟩ = some (.int .u64 d.e[x].h) := oE6.cell x hxe 0 (by decide); have yf := oE6.frozen (x * 4))
        all_goals
          clear y0 yc yf oE6
          have hD46 := ((Drawn.refl hDw.rd).below (Below.refl _ w4).drew).trans hD5
          have bD6 := bD.but hD46.gb (by simp; omega)
          have bR6 := bR.but hD46.gb (by simp; omega)
          have fR6 : ∀ o, w5.frozen? ⟨w.heap.size, o, none⟩ = false := fun o => dr_gb_frozen hD46.gb (by omega) bR.1 (fR o)
          have oS6 := oS.drawn (by omega) hD46
          have oE6 := oE.drawn (by omega) hD46
          have hDw5 := hDw.trans hD46
          clear bD fD bR fR oS oE hDw hD46 hD5 q0 q1 q2 r0 r1 r2 f0 f1 f2 p0 p1 p2
          obtain ⟨-, q0, q1, q2⟩ := id bD6
          obtain ⟨-, r0, r1, r2⟩ := id bR6
          have f0 := fR6 0
          have f1 := fR6 1
          have f2 := fR6 2
          have hok2 : shE.ok ⟨R, d.e[x].k, d.e[x].v, d.e[x].g⟩ := ⟨⟨hR0, hR1⟩, hok.2⟩
          have bR7 := bR6.far (c := ge) (o := x * 4) (by omega) (.int .u64 R)
          have bD7 := bD6.far (c := ge) (o := x * 4) hgN (.int .u64 R)
          have hneg : w.heap.size ≠ ge := by omega
          have HOK : Hid _ := hok2
          clear hok hok2
          have s0 := bR7.p0 (.slice a1 n1 c1)
          have s1 := s0.p1 (.slice (some ⟨ge, 0, none⟩) n2 c2)
          have s2 := s1.p2 (.int .i64 d.l)
          go_wp2
          refine bodyPost_ret (v := .agg #[.slice a1 n1 c1, .slice (some ⟨ge, 0, none⟩) n2 c2, .int .i64 d.l]) (by simp [results, Try.results83, go_sem, s0.2.1, s1.2.2.1, s2.2.2.2]) rfl ⟨_, ⟨d.s, d.e.set x ⟨R, d.e[x].k, d.e[x].v, d.e[x].g⟩, d.l⟩, rfl, ⟨.slice a1 n1 c1, .slice (some ⟨ge, 0, none⟩) n2 c2, rfl, ?_, ?_, oN⟩, ⟨fun e he => by rcases List.mem_or_eq_of_mem_set he with h | h; exact hG.eok e h; subst h; exact HOK.out, hG.sl, by simpa using hG.el, hG.lb⟩, ?_⟩
          · exact ((((oS6.but (gb_set w5 ge (x * 4) (.int .u64 R)) (by rcases oN with h | h; exact .inl h; exact .inr fun e => h (by rw [e]; rfl))).setBelow (by simp) _).setBelow (by simp) _).setBelow (by simp) _).mono (by omega)
          · exact ((((oE6.put x hxe 0 (by decide) (.int .u64 R) _ HOK.out rfl).setBelow (by simp) _).setBelow (by simp) _).setBelow (by simp) _).mono (by omega)
          · exact (((hDw5.grown (gb_set w5 ge (x * 4) (.int .u64 R)) (fun j hj => by cases hj; omega) hglt hbz).grown (gb_set _ w.heap.size _ _) (fun j hj => by cases hj; omega) hglt hbz).grown (gb_set _ w.heap.size _ _) (fun j hj => by cases hj; omega) hglt hbz).grown (gb_set _ w.heap.size _ _) (fun j hj => by cases hj; omega) hglt hbz
    · rcases oS.shape with ⟨hv, hnil⟩ | ⟨gs, cp, hv, hge, hgl, hcp⟩
      · exfalso; have := HN1.out; rw [hnil] at this; simp at this; omega
      simp only [Value.slice.injEq] at hv
      obtain ⟨rfl, -, rfl⟩ := hv
      have hgD : gs < D0 := hlo.1 gs rfl
      have hgN : gs ≠ D0 := by omega
      have hBS := fun W h => dr_belowG_any W g a n c bs n1 hn1 h
      have hRd := (hDw.below (Below.refl _ w4).drew).rd
      have hDlt := bD.1
      go_wp2_with fail
      go_region_held3 (fun W => W.cell? ⟨D0, 0, none⟩ = some (.slice (some ⟨gs, 0, none⟩) n1 c1)) (go_keep) (first | (go_at_call 64; have hRd5 := hD5.rd; refine (hB5 _ hRd5).mono ?_; rintro e w6 ⟨z, rfl, hz, hD6⟩; have y1 := dr_gb_cell hD6.gb (by omega) (Nat.lt_of_lt_of_le hDlt hD5.gb.size) y0; have oS6 := ((oS.drew).drawn (by omega) hD5).drawn (by omega) hD6; have yc := oS6.cell x (by rw [← HN1.out]; exact hxl); have yf := oS6.frozen x) | (go_at_call 64; refine (hBS _ hRd).mono ?_; rintro e w5 ⟨x, rfl, hx, hD5⟩; have y0 := dr_gb_cell hD5.gb (by omega) hDlt q0; have hxl : x < n1 := by omega))
      clear y0 y1 oS6 yc yf
      have hD46 := ((Drawn.refl hDw.rd).below (Below.refl _ w4).drew).trans (hD5.trans hD6)
      have bD6 := bD.but hD46.gb (by simp; omega)
      have bR6 := bR.but hD46.gb (by simp; omega)
      have fR6 : ∀ o, w6.frozen? ⟨w.heap.size, o, none⟩ = false := fun o => dr_gb_frozen hD46.gb (by omega) bR.1 (fR o)
      have oS6 := oS.drawn (by omega) hD46
      have oE6 := oE.drawn (by omega) hD46
      have hDw6 := hDw.trans hD46
      clear bD fD bR fR oS oE hDw hD46 hD5 hD6 q0 q1 q2 r0 r1 r2 f0 f1 f2 p0 p1 p2
      obtain ⟨-, q0, q1, q2⟩ := id bD6
      obtain ⟨-, r0, r1, r2⟩ := id bR6
      have f0 := fR6 0
      have f1 := fR6 1
      have f2 := fR6 2
      have hv0 : -9223372036854775808 ≤ (z : Int) - 1 ∧ (z : Int) - 1 < 9223372036854775808 := by omega
      have bR7 := bR6.far (c := gs) (o := x) (by omega) (.int .i64 ((z : Int) - 1))
      have bD7 := bD6.far (c := gs) (o := x) hgN (.int .i64 ((z : Int) - 1))
      have hneg : w.heap.size ≠ gs := by omega
      have s0 := bR7.p0 (.slice (some ⟨gs, 0, none⟩) n1 c1)
      have s1 := s0.p1 (.slice a2 n2 c2)
      have s2 := s1.p2 (.int .i64 d.l)
      go_wp2
      refine bodyPost_ret (v := .agg #[.slice (some ⟨gs, 0, none⟩) n1 c1, .slice a2 n2 c2, .int .i64 d.l]) (by simp [results, Try.results83, go_sem, s0.2.1, s1.2.2.1, s2.2.2.2]) rfl ⟨_, ⟨d.s.set x ((z : Int) - 1), d.e, d.l⟩, rfl, ⟨.slice (some ⟨gs, 0, none⟩) n1 c1, .slice a2 n2 c2, rfl, ?_, ?_, oN⟩, ⟨hG.eok, by simpa using hG.sl, hG.el, hG.lb⟩, ?_⟩
      · exact ((((oS6.store x hv0.1 hv0.2).setBelow (by simp) _).setBelow (by simp) _).setBelow (by simp) _).mono (by omega)
      · exact ((((oE6.but (gb_set w6 gs x (.int .i64 ((z : Int) - 1))) (by rcases oN with h | h; exact .inl (by cases h); exact .inr fun e => h (by rw [e]; rfl))).setBelow (by simp) _).setBelow (by simp) _).setBelow (by simp) _).mono (by omega)
      · exact (((hDw6.grown (gb_set w6 gs x (.int .i64 ((z : Int) - 1))) (fun j hj => by cases hj; omega) hglt hbz).grown (gb_set _ w.heap.size _ _) (fun j hj => by cases hj; omega) hglt hbz).grown (gb_set _ w.heap.size _ _) (fun j hj => by cases hj; omega) hglt hbz).grown (gb_set _ w.heap.size _ _) (fun j hj => by cases hj; omega) hglt hbz
    · have HN : Hid (∀ W, w4.grownBy W (Value.slice a1 n1 c1).ownBlock → Box3 W D0 (.slice a1 n1 c1) (.slice a2 n2 c2) (.int .i64 d.l) ∧ (∀ o, W.frozen? ⟨D0, o, none⟩ = false) ∧ Box3 W w.heap.size (.slice none 0 0) (.slice none 0 0) (.int .i64 0) ∧ (∀ o, W.frozen? ⟨w.heap.size, o, none⟩ = false) ∧ OwnE 63 W (w.heap.size + 1) (.slice a2 n2 c2) d.e ∧ Drawn w W g a n c bs) := fun W hg => by
        have n1' : some D0 ≠ (Value.slice a1 n1 c1).ownBlock := fun e => by have := hlo.1 D0 e.symm; omega
        have n2' : some w.heap.size ≠ (Value.slice a1 n1 c1).ownBlock := fun e => by have := (oS.lt _ e.symm).1; omega
        refine ⟨bD.but hg n1', fun o => gbr_frozen hg n1' bD.1 (fD o), bR.but hg n2', fun o => gbr_frozen hg n2' bR.1 (fR o), oE.but hg ?_, hDw.grown hg (fun j hj => by have := (oS.lt _ hj).1; omega) hglt hbz⟩
        rcases oN with h | h
        · rw [h]; cases hh : (Value.slice a2 n2 c2).ownBlock
          · exact .inl rfl
          · exact .inr (by simp)
        · exact .inr (fun e => h e.symm)
      have hsz4 : w.heap.size + 1 ≤ w4.heap.size := by have := bR.1; omega
      go_wp2_with (at_builtin; refine wpList_append_gb rfl _ _ 22 rfl Try.underlying22 (w.heap.size + 1) _ _ d.s [-1] (n1 + 1) (by have := HN1.out; simp; omega) rfl rfl (oS.alloc _) (Rd.one _ _ rfl _ (by omega) (by omega)) (by simp) (by omega) (by first | exact hsz4 | (simp; omega)) ?_; intro a' c' w5 hO5 hg5; obtain ⟨bD5, fD5, bR5, fR5, oE5, hDw5⟩ := HN.out w5 (gb_trans (World.grownBy_alloc w4 (.cells #[.int .i64 (-1)] 2) (Value.slice a1 n1 c1).ownBlock) hg5); obtain ⟨-, k0, k1, k2⟩ := id bD5; obtain ⟨-, j0, j1, j2⟩ := id bR5; have g0 := fD5 0; have g1 := fD5 1; have g2 := fD5 2; have h0 := fR5 0; have h1 := fR5 1; have h2 := fR5 2; have ndr : D0 ≠ w.heap.size := (by omega))
      have oN5 := apart hO5 oE5 (by decide)
      have hDne : (Value.slice a' (n1 + 1) c').ownBlock ≠ some D0 := fun e => by
        rcases hO5.shape with ⟨hv, hnil⟩ | ⟨gs, cp, hv, _⟩
        · rw [hv] at e; cases e
        · rw [hv] at e hO5
          simp [Value.ownBlock] at e
          subst e
          have hc := hO5.cell 0 (by have := HN1.out; first | (simp; done) | (simp; omega) | omega)
          rw [bD5.2.1] at hc
          cases hc
      have hEne : (Value.slice a2 n2 c2).ownBlock ≠ some D0 := fun e => by have := hlo.2 _ e; omega
      have bR6 := bR5.far (c := D0) (o := 0) (by omega) (.slice a' (n1 + 1) c')
      have s0 := bR6.p0 (.slice a' (n1 + 1) c')
      have s1 := s0.p1 (.slice a2 n2 c2)
      have s2 := s1.p2 (.int .i64 d.l)
      refine bodyPost_ret (v := .agg #[.slice a' (n1 + 1) c', .slice a2 n2 c2, .int .i64 d.l]) (by simp [results, Try.results83, go_sem, s0.2.1, s1.2.2.1, s2.2.2.2]) rfl ⟨_, ⟨d.s ++ [-1], d.e, d.l⟩, rfl, ⟨.slice a' (n1 + 1) c', .slice a2 n2 c2, rfl, ?_, ?_, oN5⟩, ⟨hG.eok, by have := HN1.out; simp; omega, hG.el, hG.lb⟩, ?_⟩
      · exact ((((hO5.but (gb_set w5 D0 0 (.slice a' (n1 + 1) c')) (.inr hDne)).setBelow (by simp) _).setBelow (by simp) _).setBelow (by simp) _).mono (by omega)
      · exact ((((oE5.but (gb_set w5 D0 0 (.slice a' (n1 + 1) c')) (.inr hEne)).setBelow (by simp) _).setBelow (by simp) _).setBelow (by simp) _).mono (by omega)
      · exact (((hDw5.grown (gb_set w5 D0 0 (.slice a' (n1 + 1) c')) (fun j hj => by cases hj; omega) hglt hbz).grown (gb_set _ w.heap.size _ _) (fun j hj => by cases hj; omega) hglt hbz).grown (gb_set _ w.heap.size _ _) (fun j hj => by cases hj; omega) hglt hbz).grown (gb_set _ w.heap.size _ _) (fun j hj => by cases hj; omega) hglt hbz
    · have HN : Hid (∀ W, w4.grownBy W (Value.slice a1 n1 c1).ownBlock → Box3 W D0 (.slice a1 n1 c1) (.slice a2 n2 c2) (.int .i64 d.l) ∧ (∀ o, W.frozen? ⟨D0, o, none⟩ = false) ∧ Box3 W w.heap.size (.slice none 0 0) (.slice none 0 0) (.int .i64 0) ∧ (∀ o, W.frozen? ⟨w.heap.size, o, none⟩ = false) ∧ OwnE 63 W (w.heap.size + 1) (.slice a2 n2 c2) d.e ∧ Drawn w W g a n c bs) := fun W hg => by
        have n1' : some D0 ≠ (Value.slice a1 n1 c1).ownBlock := fun e => by have := hlo.1 D0 e.symm; omega
        have n2' : some w.heap.size ≠ (Value.slice a1 n1 c1).ownBlock := fun e => by have := (oS.lt _ e.symm).1; omega
        refine ⟨bD.but hg n1', fun o => gbr_frozen hg n1' bD.1 (fD o), bR.but hg n2', fun o => gbr_frozen hg n2' bR.1 (fR o), oE.but hg ?_, hDw.grown hg (fun j hj => by have := (oS.lt _ hj).1; omega) hglt hbz⟩
        rcases oN with h | h
        · rw [h]; cases hh : (Value.slice a2 n2 c2).ownBlock
          · exact .inl rfl
          · exact .inr (by simp)
        · exact .inr (fun e => h e.symm)
      have hsz4 : w.heap.size + 1 ≤ w4.heap.size := by have := bR.1; omega
      go_wp2_with (at_builtin; refine wpList_append_gb rfl _ _ 22 rfl Try.underlying22 (w.heap.size + 1) _ _ d.s d.s (n1 + n1) (by have := HN1.out; omega) rfl rfl oS oS.rd (by have := HN1.out; omega) (by omega) (by first | exact hsz4 | (simp; omega)) ?_; intro a' c' w5 hO5 hg5; obtain ⟨bD5, fD5, bR5, fR5, oE5, hDw5⟩ := HN.out w5 hg5; obtain ⟨-, k0, k1, k2⟩ := id bD5; obtain ⟨-, j0, j1, j2⟩ := id bR5; have g0 := fD5 0; have g1 := fD5 1; have g2 := fD5 2; have h0 := fR5 0; have h1 := fR5 1; have h2 := fR5 2; have ndr : D0 ≠ w.heap.size := (by omega))
      have oN5 := apart hO5 oE5 (by decide)
      have hDne : (Value.slice a' (n1 + n1) c').ownBlock ≠ some D0 := fun e => by
        rcases hO5.shape with ⟨hv, hnil⟩ | ⟨gs, cp, hv, _⟩
        · rw [hv] at e; cases e
        · rw [hv] at e hO5
          simp [Value.ownBlock] at e
          subst e
          have hc := hO5.cell 0 (by have := HN1.out; first | (simp; done) | (simp; omega) | omega)
          rw [bD5.2.1] at hc
          cases hc
      have hEne : (Value.slice a2 n2 c2).ownBlock ≠ some D0 := fun e => by have := hlo.2 _ e; omega
      have bR6 := bR5.far (c := D0) (o := 0) (by omega) (.slice a' (n1 + n1) c')
      have s0 := bR6.p0 (.slice a' (n1 + n1) c')
      have s1 := s0.p1 (.slice a2 n2 c2)
      have s2 := s1.p2 (.int .i64 d.l)
      refine bodyPost_ret (v := .agg #[.slice a' (n1 + n1) c', .slice a2 n2 c2, .int .i64 d.l]) (by simp [results, Try.results83, go_sem, s0.2.1, s1.2.2.1, s2.2.2.2]) rfl ⟨_, ⟨d.s ++ d.s, d.e, d.l⟩, rfl, ⟨.slice a' (n1 + n1) c', .slice a2 n2 c2, rfl, ?_, ?_, oN5⟩, ⟨hG.eok, by have := HN1.out; simp; omega, hG.el, hG.lb⟩, ?_⟩
      · exact ((((hO5.but (gb_set w5 D0 0 (.slice a' (n1 + n1) c')) (.inr hDne)).setBelow (by simp) _).setBelow (by simp) _).setBelow (by simp) _).mono (by omega)
      · exact ((((oE5.but (gb_set w5 D0 0 (.slice a' (n1 + n1) c')) (.inr hEne)).setBelow (by simp) _).setBelow (by simp) _).setBelow (by simp) _).mono (by omega)
      · exact (((hDw5.grown (gb_set w5 D0 0 (.slice a' (n1 + n1) c')) (fun j hj => by cases hj; omega) hglt hbz).grown (gb_set _ w.heap.size _ _) (fun j hj => by cases hj; omega) hglt hbz).grown (gb_set _ w.heap.size _ _) (fun j hj => by cases hj; omega) hglt hbz).grown (gb_set _ w.heap.size _ _) (fun j hj => by cases hj; omega) hglt hbz
    · have s0 := bR.p0 (.slice none 0 0)
      have s1 := s0.p1 (.slice none 0 0)
      have s2 := s1.p2 (.int .i64 0)
      go_wp2
      refine bodyPost_ret (v := .agg #[.slice none 0 0, .slice none 0 0, .int .i64 0]) (by simp [results, Try.results83, go_sem, s0.2.1, s1.2.2.1, s2.2.2.2]) rfl ⟨_, noD, rfl, ⟨.slice none 0 0, .slice none 0 0, rfl, ?_, ?_, (.inl rfl)⟩, ⟨by simp [noD], by simp [noD], by simp [noD], by simp [noD]⟩, ?_⟩
      · exact (((((Own.nil w4 (w.heap.size + 1))).setBelow (by simp) _).setBelow (by simp) _).setBelow (by simp) _).mono (by omega)
      · exact (((((OwnG.nil shE 63 w4 (w.heap.size + 1))).setBelow (by simp) _).setBelow (by simp) _).setBelow (by simp) _).mono (by omega)
      · exact (((hDw).grown (gb_set _ w.heap.size _ _) (fun j hj => by cases hj; omega) hglt hbz).grown (gb_set _ w.heap.size _ _) (fun j hj => by cases hj; omega) hglt hbz).grown (gb_set _ w.heap.size _ _) (fun j hj => by cases hj; omega) hglt hbz
    · have hM0 := hDr.ok.2.1
      obtain ⟨M, hM⟩ : ∃ M, n1 * 2 / 3 = M := ⟨_, rfl⟩
      have hMle : n2 ≤ M := by rw [HN2.out, ← hM, HN1.out]; exact hM0
      have hMb : 3 * M ≤ n1 * 2 := by omega
      have hq1 : Int.tdiv ((n1 : Int) * 2) 3 = (M : Int) := by rw [← hM, show (n1 : Int) * 2 = ((n1 * 2 : Nat) : Int) by omega, show (3 : Int) = ((3 : Nat) : Int) from rfl, ← Int.ofNat_tdiv]
      have hw1 : IntKind.i64.wrap ((n1 : Int) * 2) = (n1 : Int) * 2 := by simp [IntKind.wrap, IntKind.bits, IntKind.signed]; omega
      have hw2 : IntKind.i64.wrap (M : Int) = (M : Int) := by simp [IntKind.wrap, IntKind.bits, IntKind.signed]; omega
      clear hM hM0
      have hlb' : d.l = (livN d.e : Int) := hDr.ok.2.2.2.1
      have hlv := livN_le d.e
      have hle40 := hDr.len
      have hlb2 : 0 ≤ d.l ∧ d.l ≤ 40 := by omega
      have hEne0 : (Value.slice a2 n2 c2).ownBlock ≠ some D0 := fun e => by have := hlo.2 _ e; omega
      have hSne : (Value.slice a1 n1 c1).ownBlock ≠ some D0 := fun e => by have := hlo.1 _ e; omega
      obtain ⟨m, hm3, hm16, hme⟩ := hDr.ok.1
      have hnm : n1 = 2 ^ m := HN1.out.trans hme
      have HT : Hid (∀ v es W, RdE W v es → es.length < n1 → Calls Try.prog 39 #[v, .int .i64 n1] W fun e w' => ∃ a c, e = .returned (.slice a n1 c) ∧ Own w' W.heap.size (.slice a n1 c) (tabOf n1 es) ∧ Below W.heap.size W w') := by
        rw [hnm]; exact fun v es W h hl => l7Table_any v es m W h hm16 hl
      clear hnm hme hlv hlb'
      have hRd := (hDw.below (Below.refl _ w4).drew).rd
      have hDlt := bD.1
      go_wp2_with fail
      go_region_held3 (fun W => W.cell? ⟨D0, 0, none⟩ = some (.slice a1 n1 c1)) (go_keep) (first | (go_at_call 64; refine (hB2 _ hRd).mono ?_; rintro e w5 ⟨x, rfl, hx, hD5⟩; have y0 := dr_gb_cell hD5.gb (by omega) hDlt q0))
      clear y0
      have hD46 := ((Drawn.refl hDw.rd).below (Below.refl _ w4).drew).trans hD5
      have bD6 := bD.but hD46.gb (by simp; omega)
      have bR6 := bR.but hD46.gb (by simp; omega)
      have fR6 : ∀ o, w5.frozen? ⟨w.heap.size, o, none⟩ = false := fun o => dr_gb_frozen hD46.gb (by omega) bR.1 (fR o)
      have oS6 := oS.drawn (by omega) hD46
      have oE6 := oE.drawn (by omega) hD46
      have hDw5 := hDw.trans hD46
      have fD5 : ∀ o, w5.frozen? ⟨D0, o, none⟩ = false := fun o => dr_gb_frozen hD46.gb (by omega) bD.1 (fD o)
      clear bD fD bR fR oS oE hDw hD46 hD5 q0 q1 q2 r0 r1 r2 f0 f1 f2 p0 p1 p2 hRd
      obtain ⟨-, q0, q1, q2⟩ := id bD6
      obtain ⟨-, r0, r1, r2⟩ := id bR6
      have f0 := fR6 0
      have f1 := fR6 1
      have f2 := fR6 2
      obtain ⟨NN, hNN⟩ : ∃ NN : Nat, NN = M + x := ⟨_, rfl⟩
      rw [show IntKind.i64.wrap ((M : Int) + (x : Int)) = (NN : Int) by simp [IntKind.wrap, IntKind.bits, IntKind.signed]; omega]
      have hNb : NN ≤ M + 1 := by omega
      clear hNN hw1 hw2 hq1 f0 f1 f2 r0 r1 r2
      have hn2i : (n2 : Int) = (n2 : Int) := rfl
      go_wp2
      go_loopw [6] (fun i wr => ∃ (k : Nat) (es : List En) (l : Int) (a2 : Option Addr) (c2 : Nat), k ≤ M + 1 ∧ es.length = k ∧ i = .int .i64 k ∧ (0 ≤ l ∧ l ≤ 40 + k) ∧ Box3 wr D0 (.slice a1 n1 c1) (.slice a2 k c2) (.int .i64 l) ∧ (∀ o, wr.frozen? ⟨D0, o, none⟩ = false) ∧ Box3 wr w.heap.size (.slice none 0 0) (.slice none 0 0) (.int .i64 0) ∧ (∀ o, wr.frozen? ⟨w.heap.size, o, none⟩ = false) ∧ Own wr (w.heap.size + 1) (.slice a1 n1 c1) d.s ∧ OwnE 63 wr (w.heap.size + 1) (.slice a2 k c2) es ∧ (Value.slice a2 k c2).ownBlock ≠ some D0 ∧ Drawn w wr g a n c bs) (fun i _ => NN - (RowKit.intOf i).toNat)
      case atStart => exact ⟨n2, d.e, d.l, a2, c2, by omega, HN2.out.symm, rfl, by omega, bD6, fD5, bR6, fR6, oS6, oE6, hEne0, hDw5⟩
      case round =>
        obtain ⟨k, es, l, a2, c2, hk, hel, rfl, hlbd, bD, fD, bR, fR, oS, oE, hne, hDw⟩ := hrel
        clear bD6 fD5 bR6 fR6 oS6 oE6 hDw5 q0 q1 q2
        have HEL : Hid (es.length = k) := hel
        clear hel
        have hDlt := bD.1
        have hszr : w.heap.size + 1 ≤ wr.heap.size := by have := bR.1; omega
        obtain ⟨-, q0, q1, q2⟩ := id bD
        have p1 := fD 1
        have p2 := fD 2
        have p0 := fD 0
        by_cases hlt : k < NN
        · have hlti : (k : Int) < (NN : Int) := by omega
          have hok : shE.ok ⟨(k : Int) * 7, 1000 + (k : Int), 1, false⟩ := ⟨⟨by show 0 ≤ (k : Int) * 7; omega, by show (k : Int) * 7 < _; omega⟩, ⟨by show _ ≤ 1000 + (k : Int); omega, by show 1000 + (k : Int) < _; omega⟩, ⟨(by decide : (-9223372036854775808 : Int) ≤ 1), (by decide : (1 : Int) < 9223372036854775808)⟩⟩
          have HNr : Hid (∀ W, wr.grownBy W (Value.slice a2 k c2).ownBlock → Box3 W D0 (.slice a1 n1 c1) (.slice a2 k c2) (.int .i64 l) ∧ (∀ o, W.frozen? ⟨D0, o, none⟩ = false) ∧ Box3 W w.heap.size (.slice none 0 0) (.slice none 0 0) (.int .i64 0) ∧ (∀ o, W.frozen? ⟨w.heap.size, o, none⟩ = false) ∧ Own W (w.heap.size + 1) (.slice a1 n1 c1) d.s ∧ Drawn w W g a n c bs) := fun W hg => by
            have n1' : some D0 ≠ (Value.slice a2 k c2).ownBlock := fun e => hne e.symm
            have n2' : some w.heap.size ≠ (Value.slice a2 k c2).ownBlock := fun e => by have := (oE.lt _ e.symm).1; omega
            exact ⟨bD.but hg n1', fun o => gbr_frozen hg n1' bD.1 (fD o), bR.but hg n2', fun o => gbr_frozen hg n2' bR.1 (fR o), oS.but hg (apart oS oE (by decide)), hDw.grown hg (fun j hj => by have := (oE.lt _ hj).1; omega) hglt hbz⟩
          go_wp2_with (at_builtin; refine wpList_append_one (S := shE) Try.info63 rfl (by omega) rfl _ _ 23 rfl Try.underlying23 (w.heap.size + 1) _ es (⟨(k : Int) * 7, 1000 + (k : Int), 1, false⟩ : En) hok wr.heap.size 1 rfl rfl (oE.alloc _) (en_new _ (⟨(k : Int) * 7, 1000 + (k : Int), 1, false⟩ : En) _ _ rfl) (by have := HEL.out; omega) (by simp; omega) ?_; intro a' c' w6 hO6 hg6; obtain ⟨bD6, fD6, bR6, fR6, oS6, hDw6⟩ := HNr.out w6 (gb_trans (World.grownBy_alloc wr (.cells #[.int .u64 ((k : Int) * 7), .int .i64 (1000 + (k : Int)), .int .i64 1, .bool false] 63) (Value.slice a2 k c2).ownBlock) hg6); obtain ⟨-, k0, k1, k2⟩ := id bD6; have g1 := fD6 1; have g2 := fD6 2)
          have hDne : (Value.slice a' (es ++ [(⟨(k : Int) * 7, 1000 + (k : Int), 1, false⟩ : En)]).length c').ownBlock ≠ some D0 := fun e => by
            rcases hO6.shape with ⟨hv, hnil⟩ | ⟨gs, cp, hv, _⟩
            · simp at hnil
            · rw [hv] at e hO6
              simp [Value.ownBlock] at e
              subst e
              have hc := hO6.cell 0 (by simp) 0 (by decide)
              rw [Nat.zero_mul, Nat.zero_add, bD6.2.1] at hc
              have hh : (shE.cs (es ++ [(⟨(k : Int) * 7, 1000 + (k : Int), 1, false⟩ : En)])[0])[0]? = some (.int .u64 (es ++ [(⟨(k : Int) * 7, 1000 + (k : Int), 1, false⟩ : En)])[0].h) := rfl
              rw [hh] at hc
              cases hc
          have hlen6 : (es ++ [(⟨(k : Int) * 7, 1000 + (k : Int), 1, false⟩ : En)]).length = k + 1 := by simp [HEL.out]
          have hSne6 : (Value.slice a1 n1 c1).ownBlock ≠ some D0 := hSne
          rw [hlen6] at hO6 hDne
          go_roundw
          case rel =>
            refine ⟨k + 1, es ++ [(⟨(k : Int) * 7, 1000 + (k : Int), 1, false⟩ : En)], l + 1, a', c', by omega, hlen6, by go_num, by omega, ?_, fun o => by simp only [World.frozen?_setCell]; exact fD6 o, (bR6.far (by omega) _).far (by omega) _, fun o => by simp only [World.frozen?_setCell]; exact fR6 o, ?_, ?_, hDne, ?_⟩
            · have := (bD6.p1 (.slice a' (k + 1) c')).p2 (.int .i64 (l + 1))
              simpa [HEL.out] using this
            · exact (oS6.but (gb_set _ D0 _ _) (.inr hSne)).but (gb_set _ D0 _ _) (.inr hSne)
            · exact (hO6.but (gb_set _ D0 _ _) (.inr hDne)).but (gb_set _ D0 _ _) (.inr hDne)
            · exact (hDw6.grown (gb_set _ D0 _ _) (fun j hj => by cases hj; omega) hglt hbz).grown (gb_set _ D0 _ _) (fun j hj => by cases hj; omega) hglt hbz
          case measure => simp [RowKit.intOf]; omega
        · have hgei : ¬ (k : Int) < (NN : Int) := by omega
          have hTb := HT.out (.slice a2 k c2) es
          have hlt2 : es.length < n1 := by have := HEL.out; omega
          go_wp2_with fail
          refine (hTb _ oE.rd hlt2).mono ?_
          rintro e w7 ⟨ta, tc, rfl, hOt, hB7⟩
          have bD7 := bD.keep hB7
          have bR7 := bR.keep hB7
          have fD7 : ∀ o, w7.frozen? ⟨D0, o, none⟩ = false := fun o => (hB7.frozen (p := ⟨D0, o, none⟩) bD.1).trans (fD o)
          have fR7 : ∀ o, w7.frozen? ⟨w.heap.size, o, none⟩ = false := fun o => (hB7.frozen (p := ⟨w.heap.size, o, none⟩) bR.1).trans (fR o)
          have oE7 := oE.keep hB7
          have hDw7 := hDw.below hB7
          have hOt' := hOt.mono hszr
          have hlo7 := hOt.lt
          clear q0 q1 q2 p0 p1 p2
          obtain ⟨-, q0, q1, q2⟩ := id bD7
          obtain ⟨-, r0, r1, r2⟩ := id bR7
          have p0 := fD7 0
          have f0 := fR7 0
          have f1 := fR7 1
          have f2 := fR7 2
          have ndr : D0 ≠ w.heap.size := by omega
          have bR8 := bR7.far (c := D0) (o := 0) (by omega) (.slice ta n1 tc)
          have hTne : (Value.slice ta n1 tc).ownBlock ≠ some D0 := fun e => by have := (hlo7 _ e).1; omega
          have s0 := bR8.p0 (.slice ta n1 tc)
          have s1 := s0.p1 (.slice a2 k c2)
          have s2 := s1.p2 (.int .i64 l)
          go_wp2
          refine bodyPost_ret (v := .agg #[.slice ta n1 tc, .slice a2 k c2, .int .i64 l]) (by simp [results, Try.results83, go_sem, s0.2.1, s1.2.2.1, s2.2.2.2]) rfl ⟨_, ⟨tabOf n1 es, es, l⟩, rfl, ⟨.slice ta n1 tc, .slice a2 k c2, rfl, ?_, ?_, (apart hOt' oE7 (by decide))⟩, ⟨oE7.2.2, by rw [show (tabOf n1 es).length = n1 from tabOf_len _ _]; omega, by have := HEL.out; show es.length ≤ 200; omega, by show -1000 ≤ l ∧ l ≤ 1000; omega⟩, ?_⟩
          · exact ((((hOt'.but (gb_set w7 D0 0 (.slice ta n1 tc)) (.inr hTne)).setBelow (by simp) _).setBelow (by simp) _).setBelow (by simp) _).mono (by omega)
          · exact ((((oE7.but (gb_set w7 D0 0 (.slice ta n1 tc)) (.inr hne)).setBelow (by simp) _).setBelow (by simp) _).setBelow (by simp) _).mono (by omega)
          · exact (((hDw7.grown (gb_set w7 D0 0 (.slice ta n1 tc)) (fun j hj => by cases hj; omega) hglt hbz).grown (gb_set _ w.heap.size _ _) (fun j hj => by cases hj; omega) hglt hbz).grown (gb_set _ w.heap.size _ _) (fun j hj => by cases hj; omega) hglt hbz).grown (gb_set _ w.heap.size _ _) (fun j hj => by cases hj; omega) hglt hbz
end Go.Proofs.Ytjoddjejobdcoaa
