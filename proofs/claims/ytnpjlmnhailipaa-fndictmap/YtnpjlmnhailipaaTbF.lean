import Derived.Test.YtnpjlmnhailipaaTbS
namespace Go.Proofs.Ytnpjlmnhailipaa
open Go.RowKit
set_option linter.unusedVariables false
set_option linter.unusedSimpArgs false

theorem oldc {w : World} {a : Addr} {x : Value} (h : w.cell? a = some x) (o : Obj) : (w.alloc o).cell? a = some x := (World.cell?_alloc_lt _ _ _ (World.block_lt_of_cell? w a h)).trans h

open Classical in
theorem l7Size_any (n : Nat) (w : World) (hn : n ≤ 16777216) : Calls Try.prog 47 #[.int .i64 n] w fun e w' => e = .returned (.bool (decide (Sz n))) ∧ w' = w := by
  generalize hR : decide (Sz n) = R
  go_enter Try.func47, Try.ntmps47
  go_wp2
  go_loopw [3] (fun k wr => ∃ j : Nat, 3 ≤ j ∧ j ≤ 17 ∧ k = .int .i64 (2 ^ j : Nat) ∧ (∀ i, 3 ≤ i → i < j → n ≠ 2 ^ i) ∧ wr = w) (fun k _ => 131073 - (intOf k).toNat)
  case atStart => exact ⟨3, by omega, by omega, rfl, fun i h1 h2 => by omega, rfl⟩
  case round =>
    obtain ⟨j, h3, h17, rfl, hno, rfl⟩ := hrel
    by_cases h16 : j ≤ 16
    · have hle := sz_le h16
      have hp := Nat.two_pow_pos j
      have hs := Nat.pow_succ 2 j
      by_cases he : n = 2 ^ j
      · obtain rfl : R = true := by rw [← hR, decide_eq_true_iff]; exact ⟨j, h3, h16, he⟩
        have hle' : n ≤ 65536 := by omega
        simp only [← he]
        clear he hno hs hle hp
        go_wp2
        go_ret
        exact ⟨rfl, rfl⟩
      · generalize hK : 2 ^ j = K at *
        have he' : ¬ ((K : Int) = n) := by omega
        go_wp2
        go_roundw
        case rel =>
          refine ⟨j + 1, by omega, by omega, by rw [hs]; go_num, fun i h1 h2 => ?_, by trivial⟩
          rcases Nat.lt_or_ge i j with h | h
          · exact hno i h1 h
          · obtain rfl : i = j := by omega
            rw [hK]; exact he
        case measure => simp [intOf]; omega
    · obtain rfl : j = 17 := by omega
      obtain rfl : R = false := by
        rw [← hR, decide_eq_false_iff_not]
        rintro ⟨m, h3, h16, rfl⟩
        exact hno m h3 (by omega) rfl
      go_wp2
      go_ret
      exact ⟨rfl, rfl⟩

set_option maxRecDepth 100000 in
set_option maxHeartbeats 1000000 in
theorem l7Find_any (v : Value) (d : Dt) (h k : Int) (m : Nat) (w : World) (hr : RdD w v d) (hm : m ≤ 16) (hs : d.s.length = 2 ^ m) (hh0 : 0 ≤ h) (hh1 : h < 18446744073709551616)
    (hV : ∀ s, s < 2 ^ m → d.s.getD s 0 = -1 ∨ (0 ≤ d.s.getD s 0 ∧ d.s.getD s 0 < d.e.length)) (hF : ∃ j, j < 13 + 2 ^ m ∧ FD (2 ^ m) d.s d.e h k (r0 (2 ^ m) h.toNat) j) :
    Calls Try.prog 48 #[v, .int .u64 h, .int .i64 k] w fun e w' => e = .returned (.tuple #[.int .i64 (fnd d h k).1, .int .i64 (fnd d h k).2]) ∧ Below w.heap.size w w' := by
  obtain ⟨ds, de, dl⟩ := d
  obtain ⟨vs, ve, rfl, h1, h2⟩ := hr
  obtain ⟨J, hJ, hFD⟩ := hF
  simp only at hs hV hFD h1 h2 ⊢
  have hfn : fnd ⟨ds, de, dl⟩ h k = (ds.getD (it (2 ^ m) (r0 (2 ^ m) h.toNat) J).1 0, (J : Int) + 1) := by simp only [fnd, hs, fdj_eq hFD]
  generalize fnd ⟨ds, de, dl⟩ h k = R at hfn ⊢
  subst hfn
  simp only
  have hsz := sz_le hm
  have hpos := Nat.two_pow_pos m
  have hex : ∃ m', m' ≤ 16 ∧ 2 ^ m = 2 ^ m' := ⟨m, hm, rfl⟩
  obtain ⟨H, rfl⟩ : ∃ H : Nat, h = (H : Int) := ⟨h.toNat, by omega⟩
  rw [Int.toNat_natCast] at hFD ⊢
  have hH64 : H < 2 ^ 64 := by omega
  have HN := fun (s j : Nat) W hs hj => l7Next_any (2 ^ m) s H j W hex hs hH64 hj
  generalize hn : 2 ^ m = n at *
  have bX := Box3.new w vs ve (.int .i64 dl) 25
  have bW := Below.three (w := w) vs ve (.int .i64 dl) 25
  obtain ⟨a1, c1, e1, hl1, hz1, hn1, hc1⟩ := id h1
  obtain ⟨a2, c2, e2, hl2, hz2, hn2, hc2⟩ := id h2
  subst e1 e2
  rw [hs] at hc1 hn1 hl1 bX bW ⊢
  unfold dv
  have hk0 : ¬ ((n : Int) = 0) := by omega
  have hlt : ∀ j, (it n (r0 n H) j).1 < n := fun j => it_lt hpos (Nat.mod_lt _ hpos) j
  go_enter Try.func48, Try.ntmps48
  go_wp2
  go_loopw [9, 10, 11] (fun s l c wr => ∃ j : Nat, j ≤ J ∧ s = .int .u64 ((it n (r0 n H) j).1 : Nat) ∧ l = .int .i64 ((j : Int) + 1) ∧ c = .int .i64 ((j : Int) + 1) ∧ Below (w.heap.size + 1) (w.alloc (.cells #[.slice a1 n c1, .slice a2 de.length c2, .int .i64 dl] 25)) wr)
    (fun _ _ c _ => J + 1 - (intOf c).toNat)
  case atStart => exact ⟨0, Nat.zero_le _, by simp [it, r0], rfl, rfl, Below.refl _ _⟩
  case round =>
    obtain ⟨j, hj, rfl, rfl, rfl, hBt⟩ := hrel
    have hB1 : Below w.heap.size w wr := bW.trans (hBt.mono (Nat.le_succ _))
    obtain ⟨hbx, k0, k1, k2⟩ := bX.keep (by simpa using hBt)
    obtain ⟨b, off, rfl, hb, hcell⟩ := hc1 hpos
    have hsj := hlt j
    have cj := (hB1.cell (p := ⟨b, off + (it n (r0 n H) j).1, none⟩) hb).trans (hcell _ hsj)
    rcases Nat.lt_or_ge j J with hjJ | hjJ
    · have hv := hFD.2 j hjJ
      have hnext : (it n (r0 n H) (j + 1)).1 = (5 * (it n (r0 n H) j).1 + 1 + H / 32 ^ (j + 1)) % n := by
        show (5 * (it n (r0 n H) j).1 + 1 + (it n (r0 n H) j).2 / 32) % n = _
        rw [it_rest, Nat.div_div_eq_div_mul, ← Nat.pow_succ]; rfl
      have HC := fun W => HN (it n (r0 n H) j).1 (j + 1) W hsj (by omega)
      rw [← hnext, show ((j + 1 : Nat) : Int) = (j : Int) + 1 by omega] at HC
      have hvj := hV _ hsj
      generalize hz : ds.getD (it n (r0 n H) j).1 0 = z at hv hvj cj
      have hz0 : ¬ z = -1 := fun e => hv (.inl e)
      have hnh : hit de H k z = false := by
        cases e : hit de H k z
        · rfl
        · exact absurd (.inr e) hv
      obtain ⟨Z, rfl⟩ : ∃ Z : Nat, z = (Z : Int) := ⟨z.toNat, by omega⟩
      have hZ : Z < de.length := by omega
      obtain ⟨b', off', rfl, hb', hcell'⟩ := hc2 (by omega)
      obtain ⟨d0, d1, d2, d3⟩ := RdE.at (fun k hk j hj => (hB1.cell (p := ⟨b', _, none⟩) hb').trans (hcell' k hk j hj)) Z hZ
      simp only [hit, Int.toNat_natCast, List.getElem?_eq_getElem hZ] at hnh
      generalize de[Z] = E at *
      obtain ⟨Eh, Ek, Ev, Eg⟩ := E
      simp only at *
      clear hc1 hc2 hcell hcell' hnext HN hFD hV hv hvj
      generalize hS : (it n (r0 n H) j).1 = S at *
      have z0 := oldc k0 (.cells #[.int .u64 0, .int .i64 0, .int .i64 0, .bool false] 63)
      have z1 := oldc k1 (.cells #[.int .u64 0, .int .i64 0, .int .i64 0, .bool false] 63)
      have zj := oldc cj (.cells #[.int .u64 0, .int .i64 0, .int .i64 0, .bool false] 63)
      have x0 := oldc d0 (.cells #[.int .u64 0, .int .i64 0, .int .i64 0, .bool false] 63)
      have x1 := oldc d1 (.cells #[.int .u64 0, .int .i64 0, .int .i64 0, .bool false] 63)
      have x2 := oldc d2 (.cells #[.int .u64 0, .int .i64 0, .int .i64 0, .bool false] 63)
      have x3 := oldc d3 (.cells #[.int .u64 0, .int .i64 0, .int .i64 0, .bool false] 63)
      have hB2 : Below (w.heap.size + 1) (w.alloc (.cells #[.slice (some ⟨b, off, none⟩) n c1, .slice (some ⟨b', off', none⟩) de.length c2, .int .i64 dl] 25)) (wr.alloc (.cells #[.int .u64 Eh, .int .i64 Ek, .int .i64 Ev, .bool Eg] 63)) := hBt.alloc (by omega) _
      go_wp2_with (go_at_call 66; refine (HC _).mono ?_; rintro e w2 ⟨rfl, rfl⟩)
      go_region
      all_goals
        clear k0 k1 k2 cj d0 d1 d2 d3
        cases Eg
        · by_cases hEh : Eh = (H : Int)
          · have hEk : (Ek == k) = false := by
              have : ¬ Ek = k := fun e => by simp [hEh, e] at hnh
              simpa using this
            clear hnh
            rw [hEh] at x0 hB2 ⊢
            clear hEh
            go_wp2_with (go_at_call 66; refine (HC _).mono ?_; rintro e w2 ⟨rfl, rfl⟩)
            go_roundw
            case rel => exact ⟨j + 1, by omega, rfl, by go_num, by go_num, hB2.drew⟩
            case measure => simp [intOf]; omega
          · go_wp2_with (go_at_call 66; refine (HC _).mono ?_; rintro e w2 ⟨rfl, rfl⟩)
            go_roundw
            case rel => exact ⟨j + 1, by omega, rfl, by go_num, by go_num, hB2.drew⟩
            case measure => simp [intOf]; omega
        · go_wp2_with (go_at_call 66; refine (HC _).mono ?_; rintro e w2 ⟨rfl, rfl⟩)
          go_roundw
          case rel => exact ⟨j + 1, by omega, rfl, by go_num, by go_num, hB2.drew⟩
          case measure => simp [intOf]; omega
    · obtain rfl : j = J := by omega
      have hv := hFD.1
      have hvj := hV _ hsj
      generalize hz : ds.getD (it n (r0 n H) j).1 0 = z at hv hvj cj ⊢
      by_cases hz0 : z = -1
      · subst hz0
        clear hc1 hc2 hcell HN hFD hV hv hvj
        generalize hS : (it n (r0 n H) j).1 = S at *
        go_wp2
        refine bodyPost_ret (v := .tuple #[.int .i64 (-1), .int .i64 ((j : Int) + 1)]) (by simp [results, Try.results48, go_sem]) rfl ⟨by rw [hS, hz], hB1⟩
      · have hnh : hit de H k z = true := by
          rcases hv with h | h
          · exact absurd h hz0
          · exact h
        obtain ⟨Z, rfl⟩ : ∃ Z : Nat, z = (Z : Int) := ⟨z.toNat, by omega⟩
        have hZ : Z < de.length := by omega
        obtain ⟨b', off', rfl, hb', hcell'⟩ := hc2 (by omega)
        obtain ⟨d0, d1, d2, d3⟩ := RdE.at (fun k hk j hj => (hB1.cell (p := ⟨b', _, none⟩) hb').trans (hcell' k hk j hj)) Z hZ
        simp only [hit, Int.toNat_natCast, List.getElem?_eq_getElem hZ] at hnh
        generalize de[Z] = E at *
        obtain ⟨Eh, Ek, Ev, Eg⟩ := E
        simp only at *
        cases Eg
        · rw [show (!false) = true from rfl, Bool.true_and, Bool.and_eq_true] at hnh
          obtain ⟨hEh, hEk⟩ := hnh
          clear hc1 hc2 hcell hcell' HN hFD hV hv hvj
          generalize hS : (it n (r0 n H) j).1 = S at *
          have z0 := oldc k0 (.cells #[.int .u64 0, .int .i64 0, .int .i64 0, .bool false] 63)
          have z1 := oldc k1 (.cells #[.int .u64 0, .int .i64 0, .int .i64 0, .bool false] 63)
          have zj := oldc cj (.cells #[.int .u64 0, .int .i64 0, .int .i64 0, .bool false] 63)
          have x0 := oldc d0 (.cells #[.int .u64 0, .int .i64 0, .int .i64 0, .bool false] 63)
          have x1 := oldc d1 (.cells #[.int .u64 0, .int .i64 0, .int .i64 0, .bool false] 63)
          have x2 := oldc d2 (.cells #[.int .u64 0, .int .i64 0, .int .i64 0, .bool false] 63)
          have x3 := oldc d3 (.cells #[.int .u64 0, .int .i64 0, .int .i64 0, .bool false] 63)
          have y0 := oldc k0 (.cells #[.int .u64 Eh, .int .i64 Ek, .int .i64 Ev, .bool false] 63)
          have yj := oldc cj (.cells #[.int .u64 Eh, .int .i64 Ek, .int .i64 Ev, .bool false] 63)
          go_wp2
          go_region
          all_goals
            clear z0 z1 zj x0 x1 x2 x3 k0 k1 k2 d0 d1 d2 d3 cj
            go_wp2_with fail
            refine bodyPost_ret (v := .tuple #[.int .i64 Z, .int .i64 ((j : Int) + 1)]) (by simp [results, Try.results48, go_sem]) rfl ⟨by rw [hS, hz], ?_⟩
            exact (hB1.alloc hB1.size _).drew
        · simp at hnh

/-- A search in a dict that is a table. -/
theorem l7Find_tab (v : Value) (d : Dt) (h k : Int) (m : Nat) (w : World) (hr : RdD w v d) (hm : m ≤ 16) (hs : d.s = tabOf (2 ^ m) d.e) (hl : d.e.length < 2 ^ m) (hh0 : 0 ≤ h) (hh1 : h < 18446744073709551616) :
    Calls Try.prog 48 #[v, .int .u64 h, .int .i64 k] w fun e w' => e = .returned (.tuple #[.int .i64 (fnd d h k).1, .int .i64 (fnd d h k).2]) ∧ Below w.heap.size w w' := by
  refine l7Find_any v d h k m w hr hm (by rw [hs]; exact tabK_length _ _ _) hh0 hh1 ?_ ?_
  · intro s hs'; rw [hs]; exact tabOf_val s hs'
  · have := tab_fd (m := m) (es := d.e) hl h k (by omega)
    rw [← hs] at this; exact this
end Go.Proofs.Ytnpjlmnhailipaa
