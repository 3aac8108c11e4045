import Derived.Test.YtnpjlmnhailipaaTbO
import Derived.Laws.BitsAllLaws
namespace Go.Proofs.Ytnpjlmnhailipaa
open Go.RowKit
set_option linter.unusedVariables false
set_option linter.unusedSimpArgs false

def rowv (n : Nat) (p : Nat × Nat) : Value := .agg #[.int .u64 (p.1 : Nat), .int .u64 (p.2 : Nat), .int .u64 ((n : Int) - 1)]

theorem and_mask {n : Nat} (hm : ∃ m, m ≤ 16 ∧ n = 2 ^ m) (x : Nat) (hx : x < 2 ^ 64) : bits .and .u64 (x : Int) ((n : Int) - 1) = ((x % n : Nat) : Int) := by
  obtain ⟨m, h, rfl⟩ := hm
  have hp := Nat.two_pow_pos m
  have hs := sz_le h
  rw [show (((2 ^ m : Nat) : Int) - 1) = ((2 ^ m - 1 : Nat) : Int) by omega, u64_and _ _ (by omega) (by omega) (by omega) (by omega), Int.toNat_natCast, Int.toNat_natCast, Nat.and_two_pow_sub_one_eq_mod]
theorem rowOf_any (n h : Nat) (w : World) (hm : ∃ m, m ≤ 16 ∧ n = 2 ^ m) (hh : h < 2 ^ 64) :
    Calls Try.prog 75 #[.int .u64 h, .int .i64 n] w fun e w' => e = .returned (rowv n (r0 n h)) ∧ Below w.heap.size w w' := by
  have hA := and_mask hm h hh
  have hpos : 0 < n := by obtain ⟨m, _, rfl⟩ := hm; exact Nat.two_pow_pos m
  have hn : n ≤ 65536 := by obtain ⟨m, h, rfl⟩ := hm; exact sz_le h
  go_enter Try.func75, Try.ntmps75
  go_wp2
  refine bodyPost_ret (v := rowv n (r0 n h)) (by simp [results, Try.results75, go_sem, rowv, r0]) rfl ⟨rfl, (Below.refl _ w).alloc (Nat.le_refl _) _⟩

theorem next_any (n : Nat) (p : Nat × Nat) (w : World) (hm : ∃ m, m ≤ 16 ∧ n = 2 ^ m) (hp : p.1 < n) (hr : p.2 < 2 ^ 64) :
    Calls Try.prog 76 #[rowv n p] w fun e w' => e = .returned (rowv n (nx n p)) ∧ Below w.heap.size w w' := by
  have hpos : 0 < n := by obtain ⟨m, _, rfl⟩ := hm; exact Nat.two_pow_pos m
  have hn : n ≤ 65536 := by obtain ⟨m, h, rfl⟩ := hm; exact sz_le h
  obtain ⟨s, r⟩ := p
  have hA : bits .and .u64 (5 * (s : Int) + 1 + (r : Int) / 32) ((n : Int) - 1) = (5 * (s : Int) + 1 + (r : Int) / 32) % n := by
    have e : (5 * (s : Int) + 1 + (r : Int) / 32) = ((5 * s + 1 + r / 32 : Nat) : Int) := by push_cast; rfl
    rw [e, and_mask hm _ (by omega)]; rfl
  simp only [rowv] at *
  go_enter Try.func76, Try.ntmps76
  go_wp2
  refine bodyPost_ret (v := .agg #[.int .u64 ((nx n (s, r)).1 : Nat), .int .u64 ((nx n (s, r)).2 : Nat), .int .u64 ((n : Int) - 1)]) (by simp [results, Try.results76, go_sem, nx]) rfl ⟨rfl, ?_⟩
  exact ((Below.refl _ w).alloc (Nat.le_refl _) _).alloc (by simp) _

theorem Box3.far {w : World} {b c o : Nat} {x y z : Value} (h : Box3 w b x y z) (hne : c ≠ b) (u : Value) : Box3 (w.setCell ⟨c, o, none⟩ u) b x y z :=
  ⟨by simpa [World.setCell] using h.1, (World.cell?_setCell_far _ _ _ _ hne).trans h.2.1, (World.cell?_setCell_far _ _ _ _ hne).trans h.2.2.1, (World.cell?_setCell_far _ _ _ _ hne).trans h.2.2.2⟩
theorem Box3.p0 {w : World} {b : Nat} {x y z : Value} (h : Box3 w b x y z) (u : Value) : Box3 (w.setCell ⟨b, 0, none⟩ u) b u y z :=
  ⟨by simpa [World.setCell] using h.1, World.cell?_setCell_same _ _ _ h.2.1, (World.cell?_setCell_other _ _ _ _ (by simp)).trans h.2.2.1, (World.cell?_setCell_other _ _ _ _ (by simp)).trans h.2.2.2⟩
theorem Box3.p1 {w : World} {b : Nat} {x y z : Value} (h : Box3 w b x y z) (u : Value) : Box3 (w.setCell ⟨b, 1, none⟩ u) b x u z :=
  ⟨by simpa [World.setCell] using h.1, (World.cell?_setCell_other _ _ _ _ (by simp)).trans h.2.1, World.cell?_setCell_same _ _ _ h.2.2.1, (World.cell?_setCell_other _ _ _ _ (by simp)).trans h.2.2.2⟩
theorem Box3.p2 {w : World} {b : Nat} {x y z : Value} (h : Box3 w b x y z) (u : Value) : Box3 (w.setCell ⟨b, 2, none⟩ u) b x y u :=
  ⟨by simpa [World.setCell] using h.1, (World.cell?_setCell_other _ _ _ _ (by simp)).trans h.2.1, (World.cell?_setCell_other _ _ _ _ (by simp)).trans h.2.2.1, World.cell?_setCell_same _ _ _ h.2.2.2⟩
theorem below_set {B g o : Nat} {w w1 : World} (h : Below B w w1) (hB : B ≤ w1.heap.size) (hg : B ≤ g) (u : Value) : Below B w (w1.setCell ⟨g, o, none⟩ u) :=
  h.grown (gb_set _ _ _ _) hB (fun k hk => by cases hk; exact hg)

open Classical in
noncomputable def idx (n : Nat) (p : Nat × Nat) (j : Nat) (s r : Option Value) : Nat := if h : ∃ i, i ≤ j ∧ s = some (.int .u64 ((it n p i).1 : Nat)) ∧ r = some (.int .u64 ((it n p i).2 : Nat)) then Classical.choose h else 0
theorem it_uniq {n : Nat} {L : List Int} {p : Nat × Nat} {j : Nat} (hF : FF n L p j) {i i' : Nat} (hi : i < i') (hi' : i' ≤ j) : it n p i ≠ it n p i' := by
  intro h
  have h1 : it n p (i + (j - i')) = it n p j := by rw [← it_add, h, it_add, show i' + (j - i') = j by omega]
  have := hF.2 (i + (j - i')) (by omega)
  rw [h1] at this
  exact this hF.1
theorem idx_eq {n : Nat} {L : List Int} {p : Nat × Nat} {j : Nat} (hF : FF n L p j) {i : Nat} (hi : i ≤ j) : idx n p j (some (.int .u64 ((it n p i).1 : Nat))) (some (.int .u64 ((it n p i).2 : Nat))) = i := by
  have hex : ∃ i', i' ≤ j ∧ some (Value.int .u64 ((it n p i).1 : Nat)) = some (.int .u64 ((it n p i').1 : Nat)) ∧ some (Value.int .u64 ((it n p i).2 : Nat)) = some (.int .u64 ((it n p i').2 : Nat)) := ⟨i, hi, rfl, rfl⟩
  unfold idx
  rw [dif_pos hex]
  obtain ⟨h1, h2, h3⟩ := Classical.choose_spec hex
  generalize Classical.choose hex = i' at *
  have he : it n p i = it n p i' := by
    simp at h2 h3
    exact Prod.ext (by omega) (by omega)
  rcases Nat.lt_trichotomy i i' with h | h | h
  · exact absurd he (it_uniq hF h h1)
  · exact h.symm
  · exact absurd he.symm (it_uniq hF h hi)

set_option maxRecDepth 100000 in
/-- The first free slot, from a row on. -/
theorem firstFree_any (g n : Nat) (vs ve vl : Value) (L : List Int) (p : Nat × Nat) (j : Nat) (w : World) (hm : ∃ m, m ≤ 16 ∧ n = 2 ^ m) (hp : p.1 < n) (hr : p.2 < 2 ^ 64) (hB : Box3 w g vs ve vl) (hR : Rd w vs L) (hL : L.length = n) (hF : FF n L p j) :
    Calls Try.prog 79 #[.pointer (some ⟨g, 0, none⟩), rowv n p] w fun e w' => e = .returned (rowv n (it n p j)) ∧ Below w.heap.size w w' := by
  have hpos : 0 < n := by obtain ⟨m, _, rfl⟩ := hm; exact Nat.two_pow_pos m
  have hn : n ≤ 65536 := by obtain ⟨m, h, rfl⟩ := hm; exact sz_le h
  have HN := fun (i : Nat) W => next_any n (it n p i) W hm (it_lt hpos hp i) (by rw [it_rest]; exact Nat.lt_of_le_of_lt (Nat.div_le_self _ _) hr)
  obtain ⟨a, cap, rfl, hl, hz, hn0, hc⟩ := hR
  rw [hL] at hc hn0 hl hB
  obtain ⟨hg, k0, k1, k2⟩ := id hB
  obtain ⟨ps, pr⟩ := p
  have hp' := hp
  have hr' := hr
  simp only at hp' hr'
  obtain ⟨b, off, rfl, hb, hcell⟩ := hc hpos
  simp only [rowv]
  go_enter Try.func79, Try.ntmps79
  have hlt : ∀ i, (it n (ps, pr) i).1 < n := fun i => it_lt hpos hp i
  clear hc
  go_wp2
  go_loopw [] (fun wr => ∃ i : Nat, i ≤ j ∧ Box3 wr w.heap.size (.int .u64 ((it n (ps, pr) i).1 : Nat)) (.int .u64 ((it n (ps, pr) i).2 : Nat)) (.int .u64 ((n : Int) - 1)) ∧ (∃ x y z, Box3 wr (w.heap.size + 1) x y z) ∧ (∀ c o, w.heap.size ≤ c → c ≤ w.heap.size + 1 → wr.frozen? ⟨c, o, none⟩ = false) ∧ Below w.heap.size w wr)
    (fun wr => j - idx n (ps, pr) j (wr.cell? ⟨w.heap.size, 0, none⟩) (wr.cell? ⟨w.heap.size, 1, none⟩))
  case atStart =>
    refine ⟨0, Nat.zero_le _, (Box3.new w (.int .u64 ps) (.int .u64 pr) _ _).alloc _, ⟨_, _, _, by have := Box3.new (w.alloc (Obj.cells #[.int .u64 ps, .int .u64 pr, .int .u64 ((n : Int) - 1)] 106)) (.int .u64 0) (.int .u64 0) (.int .u64 0) 106; simpa using this⟩, ?_, ((Below.refl _ w).alloc (Nat.le_refl _) _).alloc (by simp) _⟩
    intro c o h1 h2
    rcases Nat.lt_or_ge w.heap.size c with h | h
    · obtain rfl : c = w.heap.size + 1 := by omega
      exact World.frozen?_alloc_at _ _ _ _ (by simp)
    · obtain rfl : c = w.heap.size := by omega
      rw [World.frozen?_alloc_past _ _ _ (by simp)]
      exact World.frozen?_alloc_at _ _ _ _ rfl
  case round =>
    obtain ⟨i, hi, hbx, ⟨x1, x2, x3, hby⟩, hfz, hBr⟩ := hrel
    obtain ⟨hgx, m0, m1, m2⟩ := id hbx
    obtain ⟨hgy, l0, l1, l2⟩ := id hby
    have f0 := hfz w.heap.size 0 (by omega) (by omega)
    have f1 := hfz w.heap.size 1 (by omega) (by omega)
    have f2 := hfz w.heap.size 2 (by omega) (by omega)
    have g0 := hfz (w.heap.size + 1) 0 (by omega) (by omega)
    have g1 := hfz (w.heap.size + 1) 1 (by omega) (by omega)
    have g2 := hfz (w.heap.size + 1) 2 (by omega) (by omega)
    obtain ⟨-, n0, n1, n2⟩ := hB.keep hBr
    have hii := hlt i
    have ci := (hBr.cell (p := ⟨b, off + (it n (ps, pr) i).1, none⟩) hb).trans (hcell _ hii)
    have hH := HN i
    simp only [rowv] at hH
    rcases Nat.lt_or_ge i j with hij | hij
    · have hv := hF.2 i hij
      have hv' : (L.getD (it n (ps, pr) i).1 0 == -1) = false := by simpa using hv
      clear hv
      generalize L.getD (it n (ps, pr) i).1 0 = z at *
      have hnx : nx n (it n (ps, pr) i) = it n (ps, pr) (i + 1) := rfl
      rw [hnx] at hH
      generalize hS : it n (ps, pr) i = S at *
      go_wp2
      go_region_held3 (fun W => W.cell? ⟨g, 0, none⟩ = some (.slice (some ⟨b, off, none⟩) n cap) ∧ W.cell? ⟨w.heap.size, 0, none⟩ = some (.int .u64 (S.1 : Nat)) ∧ W.cell? ⟨b, off + S.1, none⟩ = some (.int .i64 z)) (go_keep) (fail)
      go_wp2_with (go_at_call 76; refine (hH _).mono ?_; rintro e w2 ⟨rfl, hB2⟩; obtain ⟨-, y0, y1, y2⟩ := hbx.drew.keep hB2; have p0 := (hB2.frozen (p := ⟨w.heap.size, 0, none⟩) hgx).trans f0; have p1 := (hB2.frozen (p := ⟨w.heap.size, 1, none⟩) hgx).trans f1; have p2 := (hB2.frozen (p := ⟨w.heap.size, 2, none⟩) hgx).trans f2)
      have hbx2 := hbx.drew.keep hB2
      have hby2 := hby.drew.keep hB2
      have hBw := hBr.drew.trans (hB2.mono hBr.size)
      have hsz := hBw.size
      have HM : idx n (ps, pr) j (some (.int .u64 (S.1 : Nat))) (some (.int .u64 (S.2 : Nat))) = i := by rw [← hS]; exact idx_eq hF hi
      have hbx3 := ((hbx2.p0 (.int .u64 ((it n (ps, pr) (i + 1)).1 : Nat))).p1 (.int .u64 ((it n (ps, pr) (i + 1)).2 : Nat))).p2 (.int .u64 ((n : Int) - 1))
      refine ⟨⟨i + 1, hij, hbx3, ⟨_, _, _, ((hby2.far (by omega) _).far (by omega) _).far (by omega) _⟩, fun c o h1 h2 => ?_, below_set (below_set (below_set hBw hsz (Nat.le_refl _) _) (by simpa [World.setCell] using hsz) (Nat.le_refl _) _) (by simpa [World.setCell] using hsz) (Nat.le_refl _) _⟩, ?_⟩
      · rw [World.frozen?_setCell, World.frozen?_setCell, World.frozen?_setCell]
        exact (hB2.frozen (p := ⟨c, o, none⟩) (by show c < _; have := hgy; simp; omega)).trans (hfz c o h1 h2)
      · rw [hbx3.2.1, hbx3.2.2.1, m0, m1, idx_eq hF (by omega), HM]; omega
    · obtain rfl : i = j := by omega
      have hv := hF.1
      rw [hv] at ci
      go_wp2
      go_region_held3 (fun W => W.cell? ⟨g, 0, none⟩ = some (.slice (some ⟨b, off, none⟩) n cap) ∧ W.cell? ⟨w.heap.size, 0, none⟩ = some (.int .u64 ((it n (ps, pr) i).1 : Nat)) ∧ W.cell? ⟨b, off + (it n (ps, pr) i).1, none⟩ = some (.int .i64 (-1))) (go_keep) (fail)
      have q0 := hby.p0 (.int .u64 ((it n (ps, pr) i).1 : Nat))
      have q1 := q0.p1 (.int .u64 ((it n (ps, pr) i).2 : Nat))
      have q2 := q1.p2 (.int .u64 ((n : Int) - 1))
      go_wp2
      refine bodyPost_ret (v := .agg #[.int .u64 ((it n (ps, pr) i).1 : Nat), .int .u64 ((it n (ps, pr) i).2 : Nat), .int .u64 ((n : Int) - 1)]) (by simp [results, Try.results79, go_sem, q0.2.1, q1.2.2.1, q2.2.2.2]) rfl ⟨rfl, ?_⟩
      have hsz := hBr.size
      exact below_set (below_set (below_set hBr.drew hsz (by omega) _) (by simpa [World.setCell] using hsz) (by omega) _) (by simpa [World.setCell] using hsz) (by omega) _
end Go.Proofs.Ytnpjlmnhailipaa
