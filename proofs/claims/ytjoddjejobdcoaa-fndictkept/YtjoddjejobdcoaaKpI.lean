import Derived.Test.YtjoddjejobdcoaaKpH
namespace Go.Proofs.Ytjoddjejobdcoaa
open Go.RowKit Go.Maps
set_option linter.unusedVariables false
set_option linter.unusedSimpArgs false

set_option maxRecDepth 100000 in
set_option maxHeartbeats 1000000 in
theorem drawDictFind_any (w : World) (a : Option Addr) (n c : Nat) (bs : List Int) (h : Src w a n c bs) :
    Calls Try.prog 65 #[.slice a n c] w fun e w' => ∃ v d, ∃ hh kk : Int, e = .returned (.tuple #[v, .int .u64 hh, .int .i64 kk]) ∧ OwnD w' w.heap.size v d ∧ Gd d ∧ (0 ≤ hh ∧ hh < 18446744073709551616) ∧ (-9223372036854775808 ≤ kk ∧ kk < 9223372036854775808) ∧ Below w.heap.size w w' := by
  have bW0 : Below w.heap.size w (w.alloc (Obj.cells #[Value.slice none 0 0, Value.slice none 0 0, Value.int IntKind.i64 0] 25)) := (Below.refl _ w).alloc (Nat.le_refl _) _
  have bR0 := Box3.new w (.slice none 0 0) (.slice none 0 0) (.int .i64 0) 25
  have fR0 : ∀ o, (w.alloc (Obj.cells #[Value.slice none 0 0, Value.slice none 0 0, Value.int IntKind.i64 0] 25)).frozen? ⟨w.heap.size, o, none⟩ = false := fun o => World.frozen?_alloc_at _ _ _ _ rfl
  go_enter Try.func65, Try.ntmps65
  go_wp2_with fail
  refine (dr_open_any _ a n c bs (h.keep bW0)).mono ?_
  rintro e w1 ⟨g, rfl, hg, hR1, hB1⟩
  simp only [World.size_alloc] at hg
  have bR1 := bR0.keep hB1
  have fR1 : ∀ o, w1.frozen? ⟨w.heap.size, o, none⟩ = false := fun o => (hB1.frozen (p := ⟨w.heap.size, o, none⟩) bR0.1).trans (fR0 o)
  have V1 := bW0.trans (hB1.mono bW0.size)
  have hgl := hR1.lt
  have hbz : ∀ b off, 0 < n → a = some ⟨b, off, none⟩ → b < w1.heap.size := fun b off h0 e => by
    obtain ⟨b', off', e', hlt, _⟩ := h.by_ h0
    rw [e] at e'
    simp at e'
    have := V1.size
    omega
  clear bW0 bR0 fR0 hB1
  go_wp2_with fail
  refine (l7DrawAny_any _ g a n c bs hR1 hbz).mono ?_
  rintro e w2 ⟨v, d, rfl, hO, hG, hD2⟩
  obtain ⟨a1, n1, c1, a2, n2, c2, e0⟩ := hO.rd.form
  subst e0
  have bR2 := bR1.but hD2.gb (by simp; omega)
  have fR2 : ∀ o, w2.frozen? ⟨w.heap.size, o, none⟩ = false := fun o => dr_gb_frozen hD2.gb (by omega) bR1.1 (fR1 o)
  have V2 : Below w.heap.size w w2 := V1.trans (gb_to hD2.gb (fun k hk => by cases hk; omega) V1.size)
  have bD := Box3.new w2 (.slice a1 n1 c1) (.slice a2 n2 c2) (.int .i64 d.l) 25
  have bA : Below w2.heap.size w2 (w2.alloc (.cells #[.slice a1 n1 c1, .slice a2 n2 c2, .int .i64 d.l] 25)) := (Below.refl _ w2).alloc (Nat.le_refl _) _
  have hOA := hO.keep bA
  have bR3 := bR2.keep bA
  have fR3 : ∀ o, (w2.alloc (.cells #[.slice a1 n1 c1, .slice a2 n2 c2, .int .i64 d.l] 25)).frozen? ⟨w.heap.size, o, none⟩ = false := fun o => by rw [World.frozen?_alloc_past _ _ _ bR2.1]; exact fR2 o
  have hDA := hD2.below bA
  have V3 := V2.trans (bA.mono V2.size)
  have hs2 := hD2.gb.size
  simp only
  obtain ⟨-, q0, q1, q2⟩ := id bD
  go_wp2_with fail
  generalize hWa : w2.alloc (.cells #[.slice a1 n1 c1, .slice a2 n2 c2, .int .i64 d.l] 25) = Wa at *
  have hsa : w2.heap.size + 1 = Wa.heap.size := by rw [← hWa]; simp
  clear hWa
  refine (l7DrawKey_any Wa g a n c bs hDA.rd (fun b off h0 e => by have := hbz b off h0 e; omega) w1.heap.size _ d hOA hG hgl).mono ?_
  rintro e w3 ⟨hh, kk, rfl, hhb, hkb, hD3⟩
  have bR4 := bR3.but hD3.gb (by simp; omega)
  have fR4 : ∀ o, w3.frozen? ⟨w.heap.size, o, none⟩ = false := fun o => dr_gb_frozen hD3.gb (by omega) bR3.1 (fR3 o)
  have bD4 := bD.but hD3.gb (by simp; omega)
  have hO4 := hOA.drawn hgl hD3
  have V4 : Below w.heap.size w w3 := V3.trans (gb_to hD3.gb (fun k hk => by cases hk; omega) V3.size)
  have hz4 := V4.size
  have hsw := V1.size
  clear q0 q1 q2 bD bR3 fR3 hOA hDA V3 hD3 bR2 fR2 bA hO
  obtain ⟨-, q0, q1, q2⟩ := id bD4
  obtain ⟨-, r0, r1, r2⟩ := id bR4
  have f0 := fR4 0
  have f1 := fR4 1
  have f2 := fR4 2
  have s0 := bR4.p0 (.slice a1 n1 c1)
  have s1 := s0.p1 (.slice a2 n2 c2)
  have s2 := s1.p2 (.int .i64 d.l)
  go_wp2
  refine bodyPost_ret (v := .tuple #[.agg #[.slice a1 n1 c1, .slice a2 n2 c2, .int .i64 d.l], .int .u64 hh, .int .i64 kk]) (by simp [results, Try.results65, go_sem, s0.2.1, s1.2.2.1, s2.2.2.2]) rfl ⟨_, d, hh, kk, rfl, ?_, hG, hhb, hkb, ?_⟩
  · have hlt : w.heap.size < w1.heap.size := by have := bR1.1; omega
    exact (((hO4.setB hlt _).setB hlt _).setB hlt _).mono (by omega)
  · exact below_set (below_set (below_set V4 hz4 (Nat.le_refl _) _) (by simpa [World.setCell] using hz4) (Nat.le_refl _) _) (by simpa [World.setCell] using hz4) (Nat.le_refl _) _

set_option maxRecDepth 100000 in
set_option maxHeartbeats 1000000 in
theorem drawDictPut_any (w : World) (a : Option Addr) (n c : Nat) (bs : List Int) (h : Src w a n c bs) :
    Calls Try.prog 37 #[.slice a n c] w fun e w' => ∃ v d, ∃ hh kk : Int, e = .returned (.tuple #[v, .int .u64 hh, .int .i64 kk, .int .i64 n]) ∧ OwnD w' w.heap.size v d ∧ Gd d ∧ (0 ≤ hh ∧ hh < 18446744073709551616) ∧ (-9223372036854775808 ≤ kk ∧ kk < 9223372036854775808) ∧ Below w.heap.size w w' := by
  have bW0 : Below w.heap.size w (w.alloc (Obj.cells #[Value.slice none 0 0, Value.slice none 0 0, Value.int IntKind.i64 0] 25)) := (Below.refl _ w).alloc (Nat.le_refl _) _
  have bR0 := Box3.new w (.slice none 0 0) (.slice none 0 0) (.int .i64 0) 25
  have fR0 : ∀ o, (w.alloc (Obj.cells #[Value.slice none 0 0, Value.slice none 0 0, Value.int IntKind.i64 0] 25)).frozen? ⟨w.heap.size, o, none⟩ = false := fun o => World.frozen?_alloc_at _ _ _ _ rfl
  have hnb := h.nb
  go_enter Try.func37, Try.ntmps37
  go_wp2_with fail
  refine (drawDictFind_any _ a n c bs (h.keep bW0)).mono ?_
  rintro e w1 ⟨v, d, hh, kk, rfl, hRd, hG, hhb, hkb, hB1⟩
  obtain ⟨a1, n1, c1, a2, n2, c2, e0⟩ := hRd.rd.form
  subst e0
  have V1 := bW0.trans (hB1.mono bW0.size)
  have bR1 := bR0.keep hB1
  have fR1 : ∀ o, w1.frozen? ⟨w.heap.size, o, none⟩ = false := fun o => (hB1.frozen (p := ⟨w.heap.size, o, none⟩) bR0.1).trans (fR0 o)
  simp only [World.size_alloc] at hRd
  have bA : Below w1.heap.size w1 (w1.alloc (.cells #[.slice a1 n1 c1, .slice a2 n2 c2, .int .i64 d.l] 25)) := (Below.refl _ w1).alloc (Nat.le_refl _) _
  have bR2 := bR1.keep bA
  have fR2 : ∀ o, (w1.alloc (.cells #[.slice a1 n1 c1, .slice a2 n2 c2, .int .i64 d.l] 25)).frozen? ⟨w.heap.size, o, none⟩ = false := fun o => by rw [World.frozen?_alloc_past _ _ _ bR1.1]; exact fR1 o
  have hO2 := hRd.keep bA
  have V2 := V1.trans (bA.mono V1.size)
  have hz2 := V2.size
  have bD := Box3.new w1 (.slice a1 n1 c1) (.slice a2 n2 c2) (.int .i64 d.l) 25
  obtain ⟨-, q0, q1, q2⟩ := id bD
  obtain ⟨-, r0, r1, r2⟩ := id bR2
  have f0 := fR2 0
  have f1 := fR2 1
  have f2 := fR2 2
  have s0 := bR2.p0 (.slice a1 n1 c1)
  have s1 := s0.p1 (.slice a2 n2 c2)
  have s2 := s1.p2 (.int .i64 d.l)
  simp only
  go_wp2
  refine bodyPost_ret (v := .tuple #[.agg #[.slice a1 n1 c1, .slice a2 n2 c2, .int .i64 d.l], .int .u64 hh, .int .i64 kk, .int .i64 n]) (by simp [results, Try.results37, go_sem, s0.2.1, s1.2.2.1, s2.2.2.2]) rfl ⟨_, d, hh, kk, rfl, ?_, hG, hhb, hkb, ?_⟩
  · exact (((hO2.setB (by omega) _).setB (by omega) _).setB (by omega) _).mono (by omega)
  · exact below_set (below_set (below_set V2 hz2 (Nat.le_refl _) _) (by simpa [World.setCell] using hz2) (Nat.le_refl _) _) (by simpa [World.setCell] using hz2) (Nat.le_refl _) _
end Go.Proofs.Ytjoddjejobdcoaa
