import Derived.Test.YtjoddjejobdcoaaKpG
namespace Go.Proofs.Ytjoddjejobdcoaa
open Go.RowKit Go.Maps
set_option linter.unusedVariables false
set_option linter.unusedSimpArgs false

theorem tabH5 (x : Nat) (hx : x < 5) : ∃ y : Int, (#[.int .u64 1, .int .u64 8, .int .u64 32, .int .u64 32, .int .u64 1152921504606846976] : Array Value)[x]? = some (.int .u64 y) ∧ 0 ≤ y ∧ y < 18446744073709551616 := by
  match x, hx with
  | 0, _ => exact ⟨_, rfl, by decide, by decide⟩
  | 1, _ => exact ⟨_, rfl, by decide, by decide⟩
  | 2, _ => exact ⟨_, rfl, by decide, by decide⟩
  | 3, _ => exact ⟨_, rfl, by decide, by decide⟩
  | 4, _ => exact ⟨_, rfl, by decide, by decide⟩

set_option maxRecDepth 100000 in
set_option maxHeartbeats 1000000 in
theorem l7DrawHash_any (w : World) (g : Nat) (a : Option Addr) (n c : Nat) (bs : List Int) (hR : Rdr w g a n c bs) :
    Calls Try.prog 89 #[.pointer (some ⟨g, 0, none⟩)] w fun e w' => ∃ h : Int, e = .returned (.int .u64 h) ∧ 0 ≤ h ∧ h < 18446744073709551616 ∧ Drawn w w' g a n c bs := by
  have hO5 : ∀ W, Rdr W g a n c bs → Calls Try.prog 63 #[.pointer (some ⟨g, 0, none⟩), .int .i64 5] W fun e w' => ∃ x : Bool, e = .returned (.bool x) ∧ Drawn W w' g a n c bs := fun W h => dr_once_any W g a n c bs 5 (by omega) (by omega) h
  have hWd := fun W h => dr_word_any W g a n c bs h
  have hB12 : ∀ W, Rdr W g a n c bs → Calls Try.prog 64 #[.pointer (some ⟨g, 0, none⟩), .int .i64 12] W fun e w' => ∃ x : Nat, e = .returned (.int .i64 x) ∧ x < 12 ∧ Drawn W w' g a n c bs := fun W h => dr_below_any W g a n c bs 12 (by omega) (by omega) h
  have hB5 : ∀ W, Rdr W g a n c bs → Calls Try.prog 64 #[.pointer (some ⟨g, 0, none⟩), .int .i64 5] W fun e w' => ∃ x : Nat, e = .returned (.int .i64 x) ∧ x < 5 ∧ Drawn W w' g a n c bs := fun W h => dr_below_any W g a n c bs 5 (by omega) (by omega) h
  have hglt := hR.lt
  go_enter Try.func89, Try.ntmps89
  go_wp2_with fail
  refine (hO5 _ hR).mono ?_
  rintro e w1 ⟨t, rfl, hD1⟩
  cases t
  · go_wp2_with fail
    refine (hB12 _ hD1.rd).mono ?_
    rintro e w2 ⟨x, rfl, hx, hD2⟩
    have hD12 := hD1.trans hD2
    have hDA := hD12.below ((Below.refl _ _).alloc (Nat.le_refl _) (.cells #[.int .u64 1, .int .u64 8, .int .u64 32, .int .u64 32, .int .u64 1152921504606846976] 37))
    go_wp2_with fail
    refine (hB5 _ hDA.rd).mono ?_
    rintro e w3 ⟨z, rfl, hz, hD3⟩
    obtain ⟨y, hy, hy0, hy1⟩ := tabH5 z hz
    have hcl := dr_lit_cell hD12.rd.lt hD3.gb hy
    have hzz : (z : Int) < 5 := by omega
    have hDB := hDA.trans hD3
    obtain ⟨H, hH, hH0, hH1⟩ : ∃ H : Int, IntKind.u64.wrap ((x : Int) * y) = H ∧ 0 ≤ H ∧ H < 18446744073709551616 := ⟨_, rfl, by simp [IntKind.wrap, IntKind.bits, IntKind.signed]; omega, by simp [IntKind.wrap, IntKind.bits, IntKind.signed]; omega⟩
    clear hy hDA hD3 hD12 hD2 hD1 hB5 hB12 hO5 hWd
    go_wp2
    go_ret
    exact ⟨H, rfl, hH0, hH1, hDB⟩
  · go_wp2_with fail
    refine (hWd _ hD1.rd).mono ?_
    rintro e w2 ⟨h, rfl, h0, h1, hD2⟩
    go_wp2
    go_ret
    exact ⟨h, rfl, h0, by omega, hD1.trans hD2⟩

theorem al4 {w w' : World} {g : Nat} {x y z u : Value} {T : TypeId} (hgb : (w.alloc (.cells #[x, y, z, u] T)).drew.grownBy w' (some g)) (hne : w.heap.size ≠ g) :
    w'.cell? ⟨w.heap.size, 0, none⟩ = some x ∧ w'.cell? ⟨w.heap.size, 1, none⟩ = some y ∧ w'.cell? ⟨w.heap.size, 2, none⟩ = some z ∧ w'.cell? ⟨w.heap.size, 3, none⟩ = some u ∧ ∀ o, w'.frozen? ⟨w.heap.size, o, none⟩ = false := by
  have hc : ∀ j, (w.alloc (.cells #[x, y, z, u] T)).drew.cell? ⟨w.heap.size, j, none⟩ = (#[x, y, z, u] : Array Value)[j]? := fun j => World.cell?_alloc_at _ _ w.heap.size j rfl
  exact ⟨dr_gb_cell hgb hne (by simp) (hc 0), dr_gb_cell hgb hne (by simp) (hc 1), dr_gb_cell hgb hne (by simp) (hc 2), dr_gb_cell hgb hne (by simp) (hc 3), fun o => dr_gb_frozen hgb hne (by simp) (World.frozen?_alloc_at _ _ _ _ rfl)⟩
theorem RdG.at0 {α : Type} {S : Sh α} {w : World} {a : Option Addr} {m cp : Nat} {xs : List α} (h : RdG S w (.slice a m cp) xs) {x : Nat} (hx : x < xs.length) : ∃ b off, a = some ⟨b, off, none⟩ ∧ b < w.heap.size ∧ ∀ k (hk : k < xs.length) j, j < S.n → w.cell? ⟨b, off + k * S.n + j, none⟩ = (S.cs xs[k])[j]? := by
  obtain ⟨a', c', e, _, _, _, hc⟩ := h
  simp only [Value.slice.injEq] at e
  obtain ⟨rfl, rfl, rfl⟩ := e
  exact hc (by omega)
theorem Gd.lb' {d : Dt} (h : Gd d) : -9223372036854775808 ≤ d.l ∧ d.l < 9223372036854775808 := by have := h.lb; omega

set_option maxRecDepth 100000 in
set_option maxHeartbeats 1000000 in
theorem l7DrawKey_any (w : World) (g : Nat) (a : Option Addr) (n c : Nat) (bs : List Int) (hR : Rdr w g a n c bs) (hbz : ∀ b off, 0 < n → a = some ⟨b, off, none⟩ → b < w.heap.size) (B : Nat) (v : Value) (d : Dt) (hO : OwnD w B v d) (hG : Gd d) (hgB : g < B) :
    Calls Try.prog 84 #[.pointer (some ⟨g, 0, none⟩), v] w fun e w' => ∃ h k : Int, e = .returned (.tuple #[.int .u64 h, .int .i64 k]) ∧ (0 ≤ h ∧ h < 18446744073709551616) ∧ (-9223372036854775808 ≤ k ∧ k < 9223372036854775808) ∧ Drawn w w' g a n c bs := by
  have hO3 : ∀ W, Rdr W g a n c bs → Calls Try.prog 63 #[.pointer (some ⟨g, 0, none⟩), .int .i64 3] W fun e w' => ∃ x : Bool, e = .returned (.bool x) ∧ Drawn W w' g a n c bs := fun W h => dr_once_any W g a n c bs 3 (by omega) (by omega) h
  have hB30 : ∀ W, Rdr W g a n c bs → Calls Try.prog 64 #[.pointer (some ⟨g, 0, none⟩), .int .i64 30] W fun e w' => ∃ x : Nat, e = .returned (.int .i64 x) ∧ x < 30 ∧ Drawn W w' g a n c bs := fun W h => dr_below_any W g a n c bs 30 (by omega) (by omega) h
  have hHs := fun W h => l7DrawHash_any W g a n c bs h
  have hglt := hR.lt
  obtain ⟨a1, n1, c1, a2, n2, c2, e0⟩ := hO.rd.form
  subst e0
  obtain ⟨vs, ve, ev, oS, oE, oN⟩ := hO
  simp [dv] at ev
  obtain ⟨rfl, rfl⟩ := ev
  obtain ⟨_, _, e2⟩ := oE.form
  simp only [Value.slice.injEq] at e2
  have HN2 : Hid (n2 = d.e.length) := e2.2.1
  have hn2 : n2 ≤ 200 := by rw [HN2.out]; exact hG.el
  clear e2
  have hBN := fun W h => dr_belowG_any W g a n c bs n2 (by omega) h
  have bA : Below w.heap.size w (w.alloc (.cells #[.slice a1 n1 c1, .slice a2 n2 c2, .int .i64 d.l] 25)) := (Below.refl _ w).alloc (Nat.le_refl _) _
  have bD := Box3.new w (.slice a1 n1 c1) (.slice a2 n2 c2) (.int .i64 d.l) 25
  have hDA := (Drawn.refl hR).below bA
  have oEA := oE.keep bA
  obtain ⟨-, q0, q1, q2⟩ := id bD
  have hlast : ∀ W, Drawn w W g a n c bs → True := fun _ _ => trivial
  by_cases he0 : n2 = 0
  · subst he0
    go_enter Try.func84, Try.ntmps84
    go_wp2_with fail
    refine (hHs _ hDA.rd).mono ?_
    rintro e w1 ⟨h, rfl, h0, h1, hD1⟩
    have hDB := hDA.trans hD1
    go_wp2_with fail
    refine (hB30 _ hDB.rd).mono ?_
    rintro e w2 ⟨x, rfl, hx, hD2⟩
    go_wp2
    exact bodyPost_ret (v := .tuple #[.int .u64 h, .int .i64 x]) (by simp [results, Try.results84, go_sem]) rfl ⟨h, x, rfl, ⟨h0, h1⟩, by omega, hDB.trans hD2⟩
  · have hz' : (0 : Int) < (n2 : Int) := by omega
    go_enter Try.func84, Try.ntmps84
    go_wp2_with fail
    refine (hO3 _ hDA.rd).mono ?_
    rintro e w1 ⟨t, rfl, hD1⟩
    have hDB := hDA.trans hD1
    have bD1 := bD.but hD1.gb (by simp; omega)
    have oE1 := oEA.drawn hgB hD1
    clear q0 q1 q2 bD oEA hDA hD1
    obtain ⟨-, q0, q1, q2⟩ := id bD1
    cases t
    · have hglt1 := hDB.rd.lt
      have hDlt := bD1.1
      rcases oE1.shape with ⟨hv, hnil⟩ | ⟨ge, cp, hv, hge, hgl, hcp⟩
      · exfalso; have := HN2.out; rw [hnil] at this; simp at this; omega
      simp only [Value.slice.injEq] at hv
      obtain ⟨rfl, -, rfl⟩ := hv
      have hgeN : w1.heap.size ≠ ge := by omega
      have hne0 : w1.heap.size ≠ g := by omega
      have hszw := hDB.gb.size
      go_wp2_with fail
      go_region_with (go_at_call 64; refine (hBN _ (by first | exact (hDB.below (Below.refl _ w1).drew).rd | exact (hDB.below ((Below.refl _ w1).alloc (Nat.le_refl _) _).drew).rd)).mono ?_; rintro e w2 ⟨x, rfl, hx, hD2⟩; have hxl : x < n2 := (by omega); have hxe : x < d.e.length := (by rw [← HN2.out]; exact hxl); (first | have oE2 := (oE1.drew).drawn hgB hD2 | have oE2 := ((oE1.alloc _).drew).drawn hgB hD2); (first | have y1 := dr_gb_cell hD2.gb (show w.heap.size ≠ g by omega) hDlt q1 | have y1 := dr_gb_cell hD2.gb (show w.heap.size ≠ g by omega) (show w.heap.size < _ by simp; omega) (cell_al _ q1)); have hxi : (x : Int) < (n2 : Int) := (by omega); have t0 : w2.cell? ⟨ge, x * 4, none⟩ = some (.int .u64 d.e[x].h) := oE2.cell x hxe 0 (by decide); have t1 : w2.cell? ⟨ge, x * 4 + 1, none⟩ = some (.int .i64 d.e[x].k) := oE2.cell x hxe 1 (by decide); have t2 : w2.cell? ⟨ge, x * 4 + 2, none⟩ = some (.int .i64 d.e[x].v) := oE2.cell x hxe 2 (by decide); have t3 : w2.cell? ⟨ge, x * 4 + 3, none⟩ = some (.bool d.e[x].g) := oE2.cell x hxe 3 (by decide); clear hx; have hok := hG.eok d.e[x] (List.getElem_mem hxe); (first | have hDC := (hDB.below (Below.refl _ w1).drew).trans hD2 | have hDC := (hDB.below ((Below.refl _ w1).alloc (Nat.le_refl _) _).drew).trans hD2); generalize d.e[x] = EE at t0 t1 t2 t3 hok; obtain ⟨eh, ek, ev, eg⟩ := EE; simp only at t0 t1 t2 t3; have ng := World.block_lt_of_cell? _ _ t0; simp only at ng; have ng1 : ge ≠ w2.heap.size := (by omega); have ng2 : w2.heap.size ≠ ge := (by omega); have u0 := fun o => cell_al o t0; have u1 := fun o => cell_al o t1; have u2 := fun o => cell_al o t2; have u3 := fun o => cell_al o t3; have uy := fun o => cell_al o y1; (first | (have Z := al4 hD2.gb hne0; obtain ⟨z0, z1, z2, z3, zf⟩ := Z; have zf0 := zf 0; have zf1 := zf 1; have zf2 := zf 2; have zf3 := zf 3) | skip))
      all_goals
        clear oE2 uy u0 u1 u2 u3 hBN hO3 hB30 hHs
        go_wp2
        try go_region
        all_goals (try go_wp2)
        all_goals refine bodyPost_ret (v := .tuple #[.int .u64 eh, .int .i64 ek]) (by simp [results, Try.results84, go_sem]) rfl ⟨eh, ek, rfl, hok.1, hok.2.1, ?_⟩
        all_goals first
          | (have hz := zf0; exact ((((hDC.grown (gb_set _ w1.heap.size _ _) (fun j hj => by cases hj; exact hszw) hglt hbz).grown (gb_set _ w1.heap.size _ _) (fun j hj => by cases hj; exact hszw) hglt hbz).grown (gb_set _ w1.heap.size _ _) (fun j hj => by cases hj; exact hszw) hglt hbz).grown (gb_set _ w1.heap.size _ _) (fun j hj => by cases hj; exact hszw) hglt hbz).below (Below.refl _ _).drew)
          | exact (hDC.below ((Below.refl _ _).alloc (Nat.le_refl _) _)).below (Below.refl _ _).drew
    · go_wp2_with fail
      refine (hHs _ hDB.rd).mono ?_
      rintro e w2 ⟨h, rfl, h0, h1, hD2⟩
      have hDC := hDB.trans hD2
      go_wp2_with fail
      refine (hB30 _ hDC.rd).mono ?_
      rintro e w3 ⟨x, rfl, hx, hD3⟩
      go_wp2
      exact bodyPost_ret (v := .tuple #[.int .u64 h, .int .i64 x]) (by simp [results, Try.results84, go_sem]) rfl ⟨h, x, rfl, ⟨h0, h1⟩, by omega, hDC.trans hD3⟩
end Go.Proofs.Ytjoddjejobdcoaa
