import Derived.Test.YtfbibbjiomfncaaMrI
import Derived.Deep.MidRow
namespace Go.Proofs.Ytfbibbjiomfncaa
open Go.RowKit Go.Maps
set_option linter.unusedVariables false
set_option linter.unusedSimpArgs false

set_option maxRecDepth 100000 in
set_option maxHeartbeats 4000000 in
/-- There is no room: a new row. -/
theorem insert_grow (B g cap : Nat) (xs : List Int) (x : Int) (vb : Nat) (w : World) (hO : Own w B (.slice (some ⟨g, 0, none⟩) xs.length cap) xs) (h0 : 0 < xs.length) (hc : xs.length = cap) (hl : xs.length ≤ 1000) (hx : -9223372036854775808 ≤ x ∧ x < 9223372036854775808)
    (hvl : vb < w.heap.size) (hvc : w.cell? ⟨vb, 0, none⟩ = some (.int .i64 x)) (hBw : B ≤ w.heap.size) :
    Calls Try.prog 75 #[.slice (some ⟨g, 0, none⟩) xs.length cap, .int .i64 0, .slice (some ⟨vb, 0, none⟩) 1 1] w fun e w' => ∃ G, e = .returned (.slice (some ⟨w.heap.size, 0, none⟩) (xs.length + 1) G) ∧ Own w' B (.slice (some ⟨w.heap.size, 0, none⟩) (xs.length + 1) G) (x :: xs) ∧ Below w.heap.size w w' := by
  have hcl := fun k hk => hO.cell k hk
  have hgl : g < w.heap.size := (hO.lt g rfl).2
  have hsz : (Try.prog.info? 2).map (·.size) = some 1 := by
    obtain ⟨i0, hi0, h0, h1, h2⟩ := info_parts Try.info2
    rw [hi0]; simp [h1]
  obtain ⟨i0, hi0, hz0, hzs, hzb⟩ := info_parts Try.info2
  obtain ⟨G, hG⟩ : ∃ G, G = grownCap w (xs.length + 1) cap 2 := ⟨_, rfl⟩
  obtain ⟨ROW, hROW⟩ : ∃ ROW : Array Value, ROW = ([] : List Value).toArray ++ Builtin.zeroCells (Value.int .i64 0).cells (xs.length + 1) ++ Builtin.zeroCells (Value.int .i64 0).cells (G - (xs.length + 1)) := ⟨_, rfl⟩
  obtain ⟨W1, hW1⟩ : ∃ W1, W1 = w.drew.alloc (.cells ROW 2) := ⟨_, rfl⟩
  have hrz : ∀ ty, (Builtin.append_ #[51, 3] ty #[.slice (some ⟨g, 0, none⟩) 0 cap, .int .i64 ((xs.length : Int) + 1)]).run Try.prog w = .ok (.slice (some ⟨w.heap.size, 0, none⟩) (xs.length + 1) G) W1 := fun ty => by
    have h := Lib.run_append_grow_zeros (P := Try.prog) w 51 3 ty 2 i0 (.int .i64 0) .i64 .i64 Try.underlying51 Try.underlying3 hi0 hz0 (some ⟨g, 0, none⟩) 0 cap [] (by rw [hzs]; exact run_firstCells_some w.drew 1 0 ⟨g, 0, none⟩ 0 cap [] (by simp) (fun j v hj => by simp at hj)) (xs.length + 1) (by omega) (by rw [hzs]; omega) (by omega) (by omega) (by rw [hzb]; omega) (by rw [hzb]; exact growslice_fits (by omega) (by omega))
    rw [Nat.zero_add, ← hG, ← hROW, ← hW1] at h
    rw [show ((xs.length : Int) + 1) = ((xs.length + 1 : Nat) : Int) by push_cast; rfl]
    exact h
  have hGn : xs.length + 1 ≤ G := by rw [hG]; exact grownCap_ge w _ _ _
  have hGm : G ≤ maxLen := by rw [hG]; exact grownCap_le_maxLen w _ cap 2 (by unfold maxLen; omega)
  have hRl : ROW.size = G := by
    rw [hROW]
    simp [Builtin.zeroCells, Value.cells]
    omega
  have hh1 : W1.heap[w.heap.size]? = some (.cells ROW 2 (0, 0)) := by rw [hW1]; show (w.heap.push _)[w.heap.size]? = _; simp
  have hN : ∀ j, j < xs.length + 1 → (W1.cell? ⟨w.heap.size, j, none⟩).isSome = true := fun j hj => by
    have : j < ROW.size := by omega
    simp [World.cell?, hh1, this]
  have hNf : ∀ j, W1.frozen? ⟨w.heap.size, j, none⟩ = false := fun j => by simp [World.frozen?, hh1]
  have hB1 : Below w.heap.size w W1 := by rw [hW1]; exact (Below.refl _ w).drew.alloc (Nat.le_refl _) _
  obtain ⟨W2, hW2⟩ : ∃ W2, W2 = W1.setCells w.heap.size 0 [.int .i64 x] := ⟨_, rfl⟩
  have hcp1 : ∀ ty, (Builtin.copy_ #[51, 51] ty #[.slice (some ⟨w.heap.size, 0, none⟩) (xs.length + 1) G, .slice (some ⟨vb, 0, none⟩) 1 1]).run Try.prog W1 = .ok (goInt 1) W2 := fun ty => by
    have := run_copy_cells (P := Try.prog) W1 51 51 ty 2 w.heap.size 0 (xs.length + 1) G ⟨vb, 0, none⟩ 1 1 [.int .i64 x] Try.underlying51 hsz (by simp [Nat.min_def])
      (fun j v hj => by
        cases j with
        | zero => simp at hj; subst hj; rw [Addr.add_lit, hB1.cell (p := ⟨vb, _, none⟩) hvl]; exact hvc
        | succ j => simp at hj)
      (fun j hj => by simp at hj; subst hj; exact hN 0 (by omega)) (fun j hj => hNf _) (fun v hv => by simp at hv; subst hv; rfl)
    rw [hW2]; simpa using this
  obtain ⟨W3, hW3⟩ : ∃ W3, W3 = W2.drew.setCells w.heap.size 1 (xs.map (Value.int .i64)) := ⟨_, rfl⟩
  have hN2 : ∀ j, j < xs.length + 1 → (W2.drew.cell? ⟨w.heap.size, j, none⟩).isSome = true := fun j hj => by
    show (W2.cell? _).isSome = true
    rw [hW2]; exact World.isSome_setCells _ _ _ _ _ (hN j hj)
  have hB2 : Below w.heap.size w W2 := hB1.trans (by rw [hW2]; exact gb_to (gb_cells _ _ _ _) (fun k hk => by cases hk; exact Nat.le_refl _) hB1.size)
  have hcp2 : ∀ ty c', (Builtin.copy_ #[51, 51] ty #[.slice (some ⟨w.heap.size, 1, none⟩) xs.length (G - 1), .slice (some ⟨g, 0, none⟩) xs.length c']).run Try.prog W2.drew = .ok (goInt xs.length) W3 := fun ty c' => by
    have := run_copy_cells (P := Try.prog) W2.drew 51 51 ty 2 w.heap.size 1 xs.length (G - 1) ⟨g, 0, none⟩ xs.length c' (xs.map (Value.int .i64)) Try.underlying51 hsz (by simp [Nat.min_def])
      (fun j v hj => by
        have hj' : j < xs.length := by
          rcases Nat.lt_or_ge j xs.length with h | h
          · exact h
          · rw [List.getElem?_eq_none (by simpa using h)] at hj; cases hj
        rw [Addr.add_lit, Nat.zero_add, hB2.drew.cell (p := ⟨g, _, none⟩) hgl]
        have := hcl j hj'
        simp [hj', List.getD] at hj this
        rw [← hj]; exact this)
      (fun j hj => hN2 _ (by simp at hj; omega)) (fun j hj => by show W2.frozen? _ = false; rw [hW2, World.frozen?_setCells]; exact hNf _) (fun v hv => by simp at hv; obtain ⟨y, _, rfl⟩ := hv; rfl)
    rw [hW3]; simpa using this
  have hB3 : Below w.heap.size w W3 := hB2.drew.trans (by rw [hW3]; exact gb_to (gb_cells _ _ _ _) (fun k hk => by cases hk; exact Nat.le_refl _) hB2.size)
  have hfin : Own W3 B (.slice (some ⟨w.heap.size, 0, none⟩) (xs.length + 1) G) (x :: xs) := by
    obtain ⟨c2, hh2, hs2⟩ := heap_setCells_raw w.heap.size 2 [.int .i64 x] 0 W1 ROW hh1
    rw [← hW2] at hh2
    obtain ⟨c3, hh3, hs3⟩ := heap_setCells_raw w.heap.size 2 (xs.map (Value.int .i64)) 1 W2.drew c2 hh2
    rw [← hW3] at hh3
    refine Own.of_cells hBw hh3 (by omega) hGn hGm (by simp) (by simp; omega) (fun y hy => ?_) (fun k hk => ?_)
    · rcases List.mem_cons.mp hy with rfl | hy
      · exact hx
      · exact hO.2.2 y hy
    · cases k with
      | zero =>
        rw [hW3, World.cell?_setCells_out _ _ _ _ _ (fun _ _ => .inl (Nat.zero_lt_one))]
        show W2.cell? _ = _
        rw [hW2]
        have := World.cell?_setCells_in w.heap.size [.int .i64 x] 0 W1 (fun j hj => by simp at hj; subst hj; exact hN 0 (by omega)) 0 (by simp)
        simpa using this
      | succ k =>
        have hk' : k < xs.length := by simpa using hk
        have := World.cell?_setCells_in w.heap.size (xs.map (Value.int .i64)) 1 W2.drew (fun j hj => hN2 _ (by simp at hj; omega)) k (by simpa using hk')
        have e : (⟨w.heap.size, k + 1, none⟩ : Addr) = ⟨w.heap.size, 1 + k, none⟩ := by rw [Nat.add_comm]
        rw [hW3, e, this]
        simp
  obtain ⟨n, hn⟩ : ∃ n, xs.length = n := ⟨_, rfl⟩
  rw [hn] at hcp1 hcp2 h0 hc hl hrz hGn hfin ⊢
  subst hc
  clear hN hNf hN2 hcl hB1 hB2 hh1 hRl hW1 hW2 hW3 hROW hG hi0 hz0 hzs hzb hsz hvc hO hn
  have hi1' : ((0 : Int) == n) = false := by rw [beq_eq_false_iff_ne]; omega
  have hi2 : ((n : Int) < (n : Int) + 1) := by omega
  have hG63 : G ≤ 9223372036854775807 := by unfold maxLen at hGm; omega
  have hi4 : ¬ G = 1 := by omega
  have hi5 : ¬ 1 = G := by omega
  have hw1 : IntKind.i64.wrap ((n : Int) + 1) = (n : Int) + 1 := by rw [IntKind.wrap_i64]; omega
  go_enter Try.func75, Try.ntmps75
  go_wp2_with (at_builtin; refine Lib.wpList_append_run _ rfl _ _ _ _ rfl _ _ rfl rfl _ _ (hrz _) ?_)
  go_region
  go_wp2
  go_ret
  exact ⟨G, rfl, hfin, hB3⟩

set_option maxRecDepth 100000 in
set_option maxHeartbeats 4000000 in
theorem insertI_any (B : Nat) (v : Value) (xs : List Int) (x : Int) (vb : Nat) (w : World) (hO : Own w B v xs) (hl : xs.length ≤ 1000) (hx : -9223372036854775808 ≤ x ∧ x < 9223372036854775808)
    (hvb : v.ownBlock ≠ some vb) (hvh : w.heap[vb]? = some (.cells #[.int .i64 x] 2 (0, 0))) (hBw : B ≤ w.heap.size) :
    Calls Try.prog 75 #[v, .int .i64 0, .slice (some ⟨vb, 0, none⟩) 1 1] w fun e w' => ∃ u, e = .returned u ∧ Own w' B u (x :: xs) ∧ Below B w w' := by
  have hvl : vb < w.heap.size := by
    rcases Nat.lt_or_ge vb w.heap.size with h | h
    · exact h
    · rw [Array.getElem?_eq_none h] at hvh; cases hvh
  have hvc : w.cell? ⟨vb, 0, none⟩ = some (.int .i64 x) := by simp [World.cell?, hvh]
  have hlx : Limbs (x :: xs) := fun y hy => by
    rcases List.mem_cons.mp hy with rfl | hy
    · exact hx
    · exact hO.2.2 y hy
  by_cases h0 : xs = []
  · subst h0
    have hRd : Rd w (.slice (some ⟨vb, 0, none⟩) 1 1) [x] := ⟨_, 1, rfl, by simp, Limbs.one hx.1 hx.2, ⟨Nat.le_refl _, fun h => by cases h⟩, fun _ => ⟨vb, 0, rfl, hvl, fun k hk => by simp at hk; subst hk; simpa using hvc⟩⟩
    obtain ⟨a, cap, rfl⟩ := hO.form
    simp only [List.length_nil] at hO ⊢
    go_enter Try.func75, Try.ntmps75
    go_wp2_with (at_builtin; refine wpList_append_rd rfl _ _ 51 rfl Try.underlying51 B _ _ [] [x] rfl rfl hO hRd (by simp) hBw ?_; intro a' c' w' hO' hB')
    go_ret
    exact ⟨_, rfl, hO', hB'⟩
  · have h0' : 0 < xs.length := List.length_pos_iff.mpr h0
    rcases hO.shape with ⟨_, e⟩ | ⟨g, cap, rfl, hg, hgs, hcap⟩
    · exact absurd e h0
    have hne : vb ≠ g := fun e => hvb (by simp [Value.ownBlock, e])
    by_cases hc : xs.length < cap
    · refine (insert_room B g cap xs x vb w hO h0' hc hl hx hne hvh).mono ?_
      rintro e w' ⟨rfl, rfl⟩
      obtain ⟨cur, hh, hcs, hm, hBg, -, -⟩ := hO.raw
      obtain ⟨c1, hh1, hs1⟩ := heap_setCells_raw g 2 (xs.map (Value.int .i64)) 1 w.drew cur hh
      obtain ⟨c2, hh2, hs2⟩ := heap_setCells_raw g 2 [.int .i64 x] 0 _ c1 hh1
      have hsp : ∀ j, j < cap → (w.drew.cell? ⟨g, j, none⟩).isSome = true := fun j hj => by
        have hj' : j < cur.size := by omega
        show (w.cell? _).isSome = true
        simp [World.cell?, hh, hj']
      refine ⟨_, rfl, Own.of_cells hBg hh2 (by omega) (by omega) hm (by simp) (by simp; omega) hlx (fun k hk => ?_), ?_⟩
      · cases k with
        | zero =>
          have := World.cell?_setCells_in g [.int .i64 x] 0 (w.drew.setCells g 1 (xs.map (Value.int .i64))) (fun j hj => by simp at hj; subst hj; exact World.isSome_setCells _ _ _ _ _ (hsp 0 (by omega))) 0 (by simp)
          simpa using this
        | succ k =>
          have hk' : k < xs.length := by simpa using hk
          rw [World.cell?_setCells_out _ _ _ _ _ (fun _ _ => .inr (by simp))]
          have := World.cell?_setCells_in g (xs.map (Value.int .i64)) 1 w.drew (fun j hj => hsp _ (by simp at hj; omega)) k (by simpa using hk')
          have e : (⟨g, k + 1, none⟩ : Addr) = ⟨g, 1 + k, none⟩ := by rw [Nat.add_comm]
          rw [e, this]
          simp
      · have hb1 : Below B w w.drew := (Below.refl _ _).drew
        have g1 : w.drew.grownBy _ (some g) := gb_trans (gb_cells g (xs.map (Value.int .i64)) w.drew 1) (gb_cells g [.int .i64 x] _ 0)
        exact hb1.trans (gb_to g1 (fun k hk => by cases hk; exact hBg) hBw)
    · refine (insert_grow B g cap xs x vb w hO h0' (by omega) hl hx hvl hvc hBw).mono ?_
      rintro e w' ⟨G, rfl, h1, h2⟩
      exact ⟨_, rfl, h1, h2.mono hBw⟩
end Go.Proofs.Ytfbibbjiomfncaa
