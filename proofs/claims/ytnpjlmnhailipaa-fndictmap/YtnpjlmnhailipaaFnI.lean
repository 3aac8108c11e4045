import Derived.Test.YtnpjlmnhailipaaLyR
import Derived.Test.YtnpjlmnhailipaaTbF
import Derived.BigQuiet
import Derived.Laws.StructEq
namespace Go.Proofs.Ytnpjlmnhailipaa
open Go.RowKit Go.Maps
set_option linter.unusedVariables false
set_option linter.unusedSimpArgs false

theorem below_dw {B : Nat} {a w : World} (h : Below B a w) (n : Nat) : Below B a (w.drewN n) := h.trans ⟨rfl, rfl, rfl, Nat.le_refl _, fun _ _ => rfl⟩
theorem guardN (x y : Operand) (a b : Array Value) (w : World) : (eqGuard .eql 95 x y (.agg a) (.agg b)).run Try.prog w = .ok () w := run_eqGuard_agg w _ _ _ _ _ _ (by kernel_rfl)
theorem eqlN (a b c d : Int) (w : World) : (binOp .eql 95 (.agg #[.int .u64 a, .int .i64 b]) (.agg #[.int .u64 c, .int .i64 d])).run Try.prog w = .ok (.bool (a == c && b == d)) w := by
  rw [run_eql_struct, run_equalIn_struct w 9999 95 _ _ (by kernel_rfl) (by kernel_rfl)]
  simp [Program.fieldsOf, Try.underlying95, Op.eqFields, part, Try.underlying37, Try.underlying2, go_sem]
  by_cases h1 : a = c <;> by_cases h2 : b = d <;> simp [h1, h2]

set_option maxRecDepth 100000 in
set_option maxHeartbeats 1000000 in
theorem find_any (g m : Nat) (vs ve vl : Value) (d : Dt) (h k : Int) (w : World) (hB : Box3 w g vs ve vl) (hR : Rd w vs d.s) (hE : RdE w ve d.e) (hm : m ≤ 16) (hs : d.s.length = 2 ^ m) (hh0 : 0 ≤ h) (hh1 : h < 18446744073709551616)
    (hV : ∀ s, s < 2 ^ m → d.s.getD s 0 = -1 ∨ (0 ≤ d.s.getD s 0 ∧ d.s.getD s 0 < d.e.length)) (hF : ∃ j, j < 13 + 2 ^ m ∧ FD (2 ^ m) d.s d.e h k (r0 (2 ^ m) h.toNat) j) :
    Calls Try.prog 52 #[.pointer (some ⟨g, 0, none⟩), .int .u64 h, .int .i64 k] w fun e w' => e = .returned (.tuple #[.int .i64 (fnd d h k).1, .int .i64 (fnd d h k).2]) ∧ Below w.heap.size w w' := by
  obtain ⟨ds, de, dl⟩ := d
  obtain ⟨J, hJ, hFD⟩ := hF
  simp only at hs hV hFD hR hE ⊢
  have hfn : fnd ⟨ds, de, dl⟩ h k = (ds.getD (it (2 ^ m) (r0 (2 ^ m) h.toNat) J).1 0, (J : Int) + 1) := by simp only [fnd, hs, fdj_eq hFD]
  generalize fnd ⟨ds, de, dl⟩ h k = R at hfn ⊢
  subst hfn
  simp only
  have hsz := sz_le hm
  have hpos := Nat.two_pow_pos m
  have hex : ∃ m', m' ≤ 16 ∧ 2 ^ m = 2 ^ m' := ⟨m, hm, rfl⟩
  obtain ⟨H, rfl⟩ : ∃ H : Nat, h = (H : Int) := ⟨h.toNat, by omega⟩
  rw [Int.toNat_natCast] at hFD ⊢
  have hH64 : H < 2 ^ 64 := by omega
  have hlt : ∀ j, (it (2 ^ m) (r0 (2 ^ m) H) j).1 < 2 ^ m := fun j => it_lt hpos (Nat.mod_lt _ hpos) j
  have HN := fun (i : Nat) W => next_any (2 ^ m) (it (2 ^ m) (r0 (2 ^ m) H) i) W hex (hlt i) (by rw [it_rest]; exact Nat.lt_of_le_of_lt (Nat.div_le_self _ _) hH64)
  have HR0 := fun W => rowOf_any (2 ^ m) H W hex hH64
  generalize hn : 2 ^ m = n at *
  obtain ⟨a1, c1, e1, hl1, hz1, hn1, hc1⟩ := id hR
  obtain ⟨a2, c2, e2, hl2, hz2, hn2, hc2⟩ := id hE
  subst e1 e2
  rw [hs] at hc1 hn1 hl1 hB
  obtain ⟨hg, k0, k1, k2⟩ := id hB
  simp only [rowv] at HN HR0
  go_enter Try.func52, Try.ntmps52
  go_wp2_with (go_at_call 75; refine (HR0 _).mono ?_; rintro e w2 ⟨rfl, hB2⟩)
  have hW0 : Below w.heap.size w (w.alloc (.cells #[.int .u64 (H : Int), .int .i64 k] 95)) := (Below.refl _ w).alloc (Nat.le_refl _) _
  have bWant := (Box.new w (.int .u64 (H : Int)) (.int .i64 k) 95).keep hB2
  have hW2 := hW0.trans (hB2.mono hW0.size)
  have hzz : w.heap.size + 1 ≤ w2.heap.size := by have := hB2.size; simpa using this
  have bRow := Box3.new w2 (.int .u64 ((r0 n H).1 : Nat)) (.int .u64 ((r0 n H).2 : Nat)) (.int .u64 ((n : Int) - 1)) 106
  have fRow : ∀ o, (w2.alloc (.cells #[.int .u64 ((r0 n H).1 : Nat), .int .u64 ((r0 n H).2 : Nat), .int .u64 ((n : Int) - 1)] 106)).frozen? ⟨w2.heap.size, o, none⟩ = false := fun o => World.frozen?_alloc_at _ _ _ _ rfl
  clear hW0 hB2
  go_loopw [10] (fun l wr => ∃ j : Nat, j ≤ J ∧ l = .int .i64 ((j : Int) + 1) ∧ Box3 wr w2.heap.size (.int .u64 ((it n (r0 n H) j).1 : Nat)) (.int .u64 ((it n (r0 n H) j).2 : Nat)) (.int .u64 ((n : Int) - 1)) ∧ Box wr w.heap.size (.int .u64 (H : Int)) (.int .i64 k) ∧ (∀ o, wr.frozen? ⟨w2.heap.size, o, none⟩ = false) ∧ Below w.heap.size w wr)
    (fun l _ => J + 1 - (intOf l).toNat)
  case atStart => exact ⟨0, Nat.zero_le _, rfl, bRow, bWant.alloc _, fRow, hW2.alloc hW2.size _⟩
  case round =>
    obtain ⟨j, hj, rfl, bR, bN, fR, hBr⟩ := hrel
    clear bRow fRow bWant hW2
    obtain ⟨hgx, m0, m1, m2⟩ := id bR
    obtain ⟨-, l0, l1⟩ := id bN
    have f0 := fR 0
    have f1 := fR 1
    have f2 := fR 2
    obtain ⟨-, n0, n1, n2⟩ := hB.keep hBr
    obtain ⟨b, off, rfl, hb, hcell⟩ := hc1 hpos
    have hsj := hlt j
    have cj := (hBr.cell (p := ⟨b, off + (it n (r0 n H) j).1, none⟩) hb).trans (hcell _ hsj)
    have hH := HN j
    rcases Nat.lt_or_ge j J with hjJ | hjJ
    · have hv := hFD.2 j hjJ
      have hvj := hV _ hsj
      generalize hz : ds.getD (it n (r0 n H) j).1 0 = z at hv hvj cj
      have hz0 : ¬ z = -1 := fun e => hv (.inl e)
      have hnh : hit de H k z = false := by
        cases e : hit de H k z
        · rfl
        · exact absurd (.inr e) hv
      obtain ⟨Z, rfl⟩ : ∃ Z : Nat, z = (Z : Int) := ⟨z.toNat, by omega⟩
      have hZ : Z < de.length := by omega
      obtain ⟨b', off', rfl, hb', hcell'⟩ := hc2 (by omega)
      obtain ⟨d0, d1, d2, d3⟩ := RdE.at (fun k hk j hj => (hBr.cell (p := ⟨b', _, none⟩) hb').trans (hcell' k hk j hj)) Z hZ
      simp only [hit, Int.toNat_natCast, List.getElem?_eq_getElem hZ] at hnh
      generalize de[Z] = E at *
      obtain ⟨Eh, Ek, Ev, Eg⟩ := E
      simp only at *
      clear hc1 hc2 hcell hcell' hFD hV hv hvj hz hz1
      have hnx : nx n (it n (r0 n H) j) = it n (r0 n H) (j + 1) := rfl
      rw [hnx] at hH
      generalize hS : it n (r0 n H) j = S at *
      have hZ0 : ((Z : Int) == -1) = false := by simp
      go_wp2_with fail
      go_region_held3 (fun W => W.cell? ⟨g, 0, none⟩ = some (.slice (some ⟨b, off, none⟩) n c1) ∧ W.cell? ⟨w2.heap.size, 0, none⟩ = some (.int .u64 (S.1 : Nat)) ∧ W.cell? ⟨b, off + S.1, none⟩ = some (.int .i64 (Z : Int))) (go_keep) (fail)
      go_wp2_with fail
      clear hz0 HR0 HN hex hlt hZ0 n0 n1 n2 cj
      cases Eg
      · have hq : (Eh == (H : Int) && Ek == k) = false := by simpa using hnh
        clear hnh
        have hEq : ∀ W, (binOp .eql 95 (.agg #[.int .u64 Eh, .int .i64 Ek]) (.agg #[.int .u64 (H : Int), .int .i64 k])).run Try.prog W = .ok (.bool false) W := fun W => by rw [eqlN, hq]
        clear hq
        go_region_held3 (fun W => W.cell? ⟨b', off' + Z * 4, none⟩ = some (.int .u64 Eh) ∧ W.cell? ⟨b', off' + Z * 4 + 1, none⟩ = some (.int .i64 Ek) ∧ W.cell? ⟨b', off' + Z * 4 + 3, none⟩ = some (.bool false) ∧ W.cell? ⟨w.heap.size, 0, none⟩ = some (.int .u64 H) ∧ W.cell? ⟨w.heap.size, 1, none⟩ = some (.int .i64 k)) (go_keep) (fail)
        go_wp2_with fail
        refine (hH _).mono ?_
        rintro e w3 ⟨rfl, hB3⟩
        have bR3 := bR.drew.drew.keep hB3
        have fR3 : ∀ o, w3.frozen? ⟨w2.heap.size, o, none⟩ = false := fun o => (hB3.frozen (p := ⟨w2.heap.size, o, none⟩) hgx).trans (fR o)
        have p0 := fR3 0
        have p1 := fR3 1
        have p2 := fR3 2
        have bN3 := bN.drew.drew.keep hB3
        have hW3 := hBr.drew.drew.trans (hB3.mono hBr.size)
        have hsz3 := hW3.size
        obtain ⟨-, y0, y1, y2⟩ := id bR3
        clear m0 m1 m2 l0 l1 d0 d1 d2 d3
        go_wp2_with fail
        go_roundw
        case rel =>
          refine ⟨j + 1, by omega, by go_num, ((bR3.p0 _).p1 _).p2 _, ((bN3.but (gb_set _ _ _ _) (by simp; omega)).but (gb_set _ _ _ _) (by simp; omega)).but (gb_set _ _ _ _) (by simp; omega), fun o => ?_, below_set (below_set (below_set hW3 hsz3 (by omega) _) (by simpa [World.setCell] using hsz3) (by omega) _) (by simpa [World.setCell] using hsz3) (by omega) _⟩
          rw [World.frozen?_setCell, World.frozen?_setCell, World.frozen?_setCell]; exact fR3 o
        case measure => simp [intOf]; omega
      · clear hnh
        go_quiet (fail)
        go_wp2_with fail
        refine (hH _).mono ?_
        rintro e w3 ⟨rfl, hB3⟩
        have bR3 := (bR.keep (below_dw (Below.refl _ _) _)).keep hB3
        have fR3 : ∀ o, w3.frozen? ⟨w2.heap.size, o, none⟩ = false := fun o => (hB3.frozen (p := ⟨w2.heap.size, o, none⟩) hgx).trans (fR o)
        have p0 := fR3 0
        have p1 := fR3 1
        have p2 := fR3 2
        have bN3 := (bN.keep (below_dw (Below.refl _ _) _)).keep hB3
        have hW3 := (below_dw hBr _).trans (hB3.mono hBr.size)
        have hsz3 := hW3.size
        obtain ⟨-, y0, y1, y2⟩ := id bR3
        clear m0 m1 m2 l0 l1 d0 d1 d2 d3
        go_wp2_with fail
        go_roundw
        case rel =>
          refine ⟨j + 1, by omega, by go_num, ((bR3.p0 _).p1 _).p2 _, ((bN3.but (gb_set _ _ _ _) (by simp; omega)).but (gb_set _ _ _ _) (by simp; omega)).but (gb_set _ _ _ _) (by simp; omega), fun o => ?_, below_set (below_set (below_set hW3 hsz3 (by omega) _) (by simpa [World.setCell] using hsz3) (by omega) _) (by simpa [World.setCell] using hsz3) (by omega) _⟩
          rw [World.frozen?_setCell, World.frozen?_setCell, World.frozen?_setCell]; exact fR3 o
        case measure => simp [intOf]; omega
    · obtain rfl : j = J := by omega
      have hv := hFD.1
      have hvj := hV _ hsj
      generalize hz : ds.getD (it n (r0 n H) j).1 0 = z at hv hvj cj ⊢
      by_cases hz0 : z = -1
      · subst hz0
        clear hc1 hc2 hcell HN hFD hV hv hvj HR0 hH
        generalize hS : (it n (r0 n H) j).1 = S at *
        go_wp2_with fail
        go_region_held3 (fun W => W.cell? ⟨g, 0, none⟩ = some (.slice (some ⟨b, off, none⟩) n c1) ∧ W.cell? ⟨w2.heap.size, 0, none⟩ = some (.int .u64 (S : Nat)) ∧ W.cell? ⟨b, off + S, none⟩ = some (.int .i64 (-1))) (go_keep) (fail)
        go_wp2
        refine bodyPost_ret (v := .tuple #[.int .i64 (-1), .int .i64 ((j : Int) + 1)]) (by simp [results, Try.results52, go_sem]) rfl ⟨by rw [hS, hz], hBr.drew⟩
      · have hnh : hit de H k z = true := by
          rcases hv with h | h
          · exact absurd h hz0
          · exact h
        obtain ⟨Z, rfl⟩ : ∃ Z : Nat, z = (Z : Int) := ⟨z.toNat, by omega⟩
        have hZ : Z < de.length := by omega
        obtain ⟨b', off', rfl, hb', hcell'⟩ := hc2 (by omega)
        obtain ⟨d0, d1, d2, d3⟩ := RdE.at (fun k hk j hj => (hBr.cell (p := ⟨b', _, none⟩) hb').trans (hcell' k hk j hj)) Z hZ
        simp only [hit, Int.toNat_natCast, List.getElem?_eq_getElem hZ] at hnh
        generalize de[Z] = E at *
        obtain ⟨Eh, Ek, Ev, Eg⟩ := E
        simp only at *
        cases Eg
        · have hq : (Eh == (H : Int) && Ek == k) = true := by simpa using hnh
          have hEq : ∀ W, (binOp .eql 95 (.agg #[.int .u64 Eh, .int .i64 Ek]) (.agg #[.int .u64 (H : Int), .int .i64 k])).run Try.prog W = .ok (.bool true) W := fun W => by rw [eqlN, hq]
          clear hq hnh hc1 hc2 hcell hcell' HN HR0 hFD hV hv hvj hH hz0 hex
          generalize hS : (it n (r0 n H) j).1 = S at *
          have hZ0 : ((Z : Int) == -1) = false := by simp
          go_wp2_with fail
          go_region_held3 (fun W => W.cell? ⟨g, 0, none⟩ = some (.slice (some ⟨b, off, none⟩) n c1) ∧ W.cell? ⟨w2.heap.size, 0, none⟩ = some (.int .u64 (S : Nat)) ∧ W.cell? ⟨b, off + S, none⟩ = some (.int .i64 (Z : Int))) (go_keep) (fail)
          go_wp2_with fail
          clear hZ0 n0 n1 n2 cj
          go_region_held3 (fun W => W.cell? ⟨b', off' + Z * 4, none⟩ = some (.int .u64 Eh) ∧ W.cell? ⟨b', off' + Z * 4 + 1, none⟩ = some (.int .i64 Ek) ∧ W.cell? ⟨b', off' + Z * 4 + 3, none⟩ = some (.bool false) ∧ W.cell? ⟨w.heap.size, 0, none⟩ = some (.int .u64 H) ∧ W.cell? ⟨w.heap.size, 1, none⟩ = some (.int .i64 k)) (go_keep) (fail)
          go_wp2_with fail
          refine bodyPost_ret (v := .tuple #[.int .i64 Z, .int .i64 ((j : Int) + 1)]) (by simp [results, Try.results52, go_sem]) rfl ⟨by rw [hS, hz], hBr.drew.drew⟩
        · simp at hnh

/-- A search in a map whose slots are its table. -/
theorem find_tab (g m : Nat) (vs ve vl : Value) (d : Dt) (h k : Int) (w : World) (hB : Box3 w g vs ve vl) (hR : Rd w vs d.s) (hE : RdE w ve d.e) (hm : m ≤ 16) (hs : d.s = tabOf (2 ^ m) d.e) (hl : d.e.length < 2 ^ m) (hh0 : 0 ≤ h) (hh1 : h < 18446744073709551616) :
    Calls Try.prog 52 #[.pointer (some ⟨g, 0, none⟩), .int .u64 h, .int .i64 k] w fun e w' => e = .returned (.tuple #[.int .i64 (fnd d h k).1, .int .i64 (fnd d h k).2]) ∧ Below w.heap.size w w' := by
  refine find_any g m vs ve vl d h k w hB hR hE hm (by rw [hs]; exact tabK_length _ _ _) hh0 hh1 ?_ ?_
  · intro s hs'; rw [hs]; exact tabOf_val s hs'
  · have := tab_fd (m := m) (es := d.e) hl h k (by omega)
    rw [← hs] at this; exact this
end Go.Proofs.Ytnpjlmnhailipaa
