import Derived.Test.YtnpjlmnhailipaaOrQ
import Derived.Deep.RegionHeldLaw
import Derived.BigQuiet
namespace Go.Proofs.Ytnpjlmnhailipaa
open Go.RowKit Go.Maps
set_option linter.unusedVariables false
set_option linter.unusedSimpArgs false

/-- A power of two is told by its bits. -/
theorem pow_bits (n : Nat) (h0 : 8 ≤ n) (h1 : n ≤ 65536) : n &&& (n - 1) = 0 ↔ Sz n := by
  constructor
  · intro h
    have hn : n ≠ 0 := by omega
    have hlo := Nat.log2_self_le hn
    have hhi : n < 2 ^ (n.log2 + 1) := Nat.lt_log2_self
    rw [Nat.pow_succ] at hhi
    generalize hm : n.log2 = m at *
    have he : n = 2 ^ m := by
      rcases Nat.lt_or_ge (2 ^ m) n with hl | hl
      · exfalso
        have t1 : n.testBit m = true := by
          rw [Nat.testBit_eq_decide_div_mod_eq, Nat.div_eq_of_lt_le (k := 1) (by omega) (by omega)]; rfl
        have t2 : (n - 1).testBit m = true := by
          rw [Nat.testBit_eq_decide_div_mod_eq, Nat.div_eq_of_lt_le (k := 1) (by omega) (by omega)]; rfl
        have := Nat.testBit_and n (n - 1) m
        rw [h, t1, t2] at this
        simp at this
      · omega
    refine ⟨m, ?_, ?_, he⟩
    · rcases Nat.lt_or_ge m 3 with h | h
      · have : 2 ^ m ≤ 2 ^ 2 := Nat.pow_le_pow_right (by decide) (by omega)
        omega
      · exact h
    · rcases Nat.lt_or_ge 16 m with h | h
      · have : 2 ^ 17 ≤ 2 ^ m := Nat.pow_le_pow_right (by decide) h
        omega
      · exact h
  · rintro ⟨m, h3, h16, rfl⟩
    rw [Nat.and_two_pow_sub_one_eq_mod]; exact Nat.mod_self _

theorem i64_and_nat (a b : Nat) (ha : a < 65537) (hb : b < 65537) : bits .and .i64 (a : Int) (b : Int) = ((a &&& b : Nat) : Int) := by
  have hx : a &&& b < 2 ^ 17 := Nat.and_lt_two_pow _ (by omega)
  show IntKind.i64.wrap ((BitVec.ofInt 64 (a : Int) &&& BitVec.ofInt 64 (b : Int)).toNat : Int) = _
  rw [BitVec.toNat_and, ofInt_u64 a (by omega), ofInt_u64 b (by omega)]
  first | (rw [IntKind.wrap_i64]; omega) | exact IntWalk.i64_in _ (by omega) | exact wrap64_in (by omega) (by omega)

open Classical in
theorem isSlot_any (n : Nat) (w : World) (h : n ≤ 16777216) : Calls Try.prog 70 #[.int .i64 n] w fun e w' => e = .returned (.bool (decide (Sz n))) ∧ w' = w := by
  generalize hR : decide (Sz n) = R
  by_cases h8 : 8 ≤ n
  · by_cases h6 : n ≤ 65536
    · have hb := pow_bits n h8 h6
      have ha : bits .and .i64 (n : Int) ((n : Int) - 1) = ((n &&& (n - 1) : Nat) : Int) := by
        rw [show (n : Int) - 1 = ((n - 1 : Nat) : Int) by omega, i64_and_nat _ _ (by omega) (by omega)]
      have hr : (bits .and .i64 (n : Int) ((n : Int) - 1) == 0) = R := by
        rw [ha, ← hR]
        by_cases hz : n &&& (n - 1) = 0
        · rw [hz, decide_eq_true (hb.1 hz)]; rfl
        · rw [decide_eq_false (fun h => hz (hb.2 h))]; simpa using hz
      clear ha hb hR
      go_enter Try.func70, Try.ntmps70
      go_wp2
      go_ret
      exact ⟨by first | rfl | (rw [← hr]; rfl) | simp [hr], rfl⟩
    · obtain rfl : R = false := by
        rw [← hR, decide_eq_false_iff_not]; rintro ⟨m, h3, h16, rfl⟩; exact h6 (sz_le h16)
      clear hR
      go_enter Try.func70, Try.ntmps70
      go_wp2
      go_ret
      exact ⟨rfl, rfl⟩
  · obtain rfl : R = false := by
      rw [← hR, decide_eq_false_iff_not]; rintro ⟨m, h3, h16, rfl⟩
      exact h8 (Nat.pow_le_pow_right (n := 2) (by decide) h3)
    clear hR
    go_enter Try.func70, Try.ntmps70
    go_wp2
    go_ret
    exact ⟨rfl, rfl⟩

theorem roomOf_any (n : Nat) (w : World) (h : n ≤ 16777216) : Calls Try.prog 71 #[.int .i64 n] w fun e w' => e = .returned (.int .i64 ((n : Int) * 2 / 3)) ∧ w' = w := by
  go_enter Try.func71, Try.ntmps71
  go_wp2
  go_ret
  exact ⟨rfl, rfl⟩

/-- 'append(xs, e)' as one step of a region that draws its order. -/
theorem step_append_one {α : Type} {S : Sh α} {T : TypeId} {zv : Value} {by' : Nat} (hinfo : (Try.prog.info? T).map (fun i => (i.zero, i.size, i.bytes)) = some (some zv, S.n, by')) (hzc : zv.cells.size = S.n) (hby : by' ≤ 64)
    {w : World} {ops : Array Oper} {o : Oper} {a : Act} {K : Act → World → Prop} {Q : Exit → Act → World → Prop} {E : Prop} (hgd : o.guard = none) (s x : Operand) (t : TypeId)
    (ho : o.op = .call { callee := .builtin .append, args := #[s, x], argTypes := #[t, t] }) (ht : Try.prog.underlying t = some (.slice T)) (B : Nat) (v : Value) (xs : List α) (e : α) (he : S.ok e) (g c : Nat) (hs : a.eval s = v) (hx : a.eval x = .slice (some ⟨g, 0, none⟩) 1 c)
    (hown : OwnG S T w B v xs) (hc : ∀ j, j < S.n → w.cell? ⟨g, j, none⟩ = (S.cs e)[j]?) (hlen : xs.length + 1 ≤ 16777216) (hB : B ≤ w.heap.size)
    (h : ∀ a' c' w', OwnG S T w' B (.slice a' (xs ++ [e]).length c') (xs ++ [e]) → w.grownBy w' v.ownBlock → K (a.put o.dst (.slice a' (xs ++ [e]).length c')) w') :
    if Region.wanted o (yielded ops a.tmps) = true then Oper.wp Try.prog o a w K Q else E := by
  have hw : Region.wanted o (yielded ops a.tmps) = true := by simp [Region.wanted, hgd]
  rw [if_pos hw]
  obtain ⟨i0, hi, hz0, hz1, hz2⟩ := info_parts hinfo
  refine wp_append_own w s x t ho B T i0 zv S.n by' ht hi hz0 hz1 hz2 hzc S.pos v _ _ hs hown.1 ⟨g, 0, none⟩ 1 c (S.cs e) hx (by rw [S.len]; omega) ?_ (fun u hu => S.one e u hu) (by unfold maxLen; omega) ?_ hB ?_
  · intro j u hj
    have hj' : j < S.n := by
      rcases Nat.lt_or_ge j S.n with h | h
      · exact h
      · rw [List.getElem?_eq_none (by rw [S.len]; exact h)] at hj; cases hj
    have e' : (⟨g, 0, none⟩ : Addr).add j = ⟨g, j, none⟩ := by unfold Addr.add; split <;> simp_all
    rw [e', hc j hj', hj]
  · have : (xs.length + 1) * by' ≤ (xs.length + 1) * 64 := Nat.mul_le_mul_left _ hby
    omega
  · intro v' w' h1 h2 _
    have hO : OwnG S T w' B v' (xs ++ [e]) := ⟨by simpa using h1, by simpa using hlen, fun y hy => by
      rcases List.mem_append.1 hy with h | h
      · exact hown.2.2 y h
      · simp at h; subst h; exact he⟩
    obtain ⟨a', c', rfl⟩ := hO.form
    exact h a' c' w' hO h2

theorem Try.infoE : (Try.prog.info? 97).map (fun i => (i.zero, i.size, i.bytes)) = some (some (.agg #[.int .u64 0, .int .i64 0, .int .i64 0, .bool false]), 4, 32) := by kernel_rfl

set_option maxRecDepth 100000 in
set_option maxHeartbeats 2000000 in
/-- The map with the entries of d: its answer is whether d is well formed; where it is, the map is there. -/
theorem orderedOf_any (v : Value) (d : Dt) (w : World) (hr : RdD w v d) (hb : -9223372036854775808 ≤ d.l ∧ d.l < 9223372036854775808) :
    Calls Try.prog 51 #[v] w fun e w' => ∃ g, e = .returned (.tuple #[.pointer (some ⟨g, 0, none⟩), .bool (okD d)]) ∧ w.heap.size ≤ g ∧ Below w.heap.size w w' ∧
      (OkD d → ∃ vs ve, Box3 w' g vs ve (.int .i64 d.l) ∧ Own w' (g + 1) vs d.s ∧ OwnE 97 w' (g + 1) ve d.e ∧ (vs.ownBlock = none ∨ vs.ownBlock ≠ ve.ownBlock) ∧ ∀ o, w'.frozen? ⟨g, o, none⟩ = false) := by
  obtain ⟨ds, de, dl⟩ := d
  obtain ⟨vs, ve, rfl, h1, h2⟩ := hr
  simp only at h1 h2 hb ⊢
  generalize hR : okD ⟨ds, de, dl⟩ = R
  obtain ⟨a1, c1, e1, hl1, hz1, hn1, hc1⟩ := id h1
  obtain ⟨a2, c2, e2, hl2, hz2, hn2, hc2⟩ := id h2
  subst e1 e2
  unfold dv
  have HSz := fun W => isSlot_any ds.length W hl1
  by_cases hS : Sz ds.length
  · simp only [hS, decide_true] at HSz
    go_enter Try.func51, Try.ntmps51
    go_wp2_with fail
    have bD := (Box3.new w (.slice a1 ds.length c1) (.slice a2 de.length c2) (.int .i64 dl) 25).alloc (.cells #[.slice none 0 0, .slice none 0 0, .int .i64 0] 93)
    obtain ⟨-, k0, k1, k2⟩ := id bD
    by_cases hE : de.length ≤ ds.length * 2 / 3
    · have hE' : ¬ ((ds.length : Int) * 2 / 3 < (de.length : Int)) := by omega
      have HR : Hid (okD ⟨ds, de, dl⟩ = R) := hR
      have HS : Hid (Sz ds.length) := hS
      clear hS hR
      go_region_held3 (fun W => W.cell? ⟨w.heap.size, 0, none⟩ = some (.slice a1 ds.length c1) ∧ W.cell? ⟨w.heap.size, 1, none⟩ = some (.slice a2 de.length c2)) (go_keep) (first | (go_at_call 70; refine (HSz _).mono ?_; rintro e w2 ⟨rfl, rfl⟩) | (go_at_call 71; refine (roomOf_any _ _ hl1).mono ?_; rintro e w2 ⟨rfl, rfl⟩))
      go_wp2_with fail
      have bM0 := Box3.new (w.alloc (.cells #[.slice a1 ds.length c1, .slice a2 de.length c2, .int .i64 dl] 25)) (.slice none 0 0) (.slice none 0 0) (.int .i64 0) 93
      have fM0 : ∀ o, ((w.alloc (.cells #[.slice a1 ds.length c1, .slice a2 de.length c2, .int .i64 dl] 25)).alloc (.cells #[.slice none 0 0, .slice none 0 0, .int .i64 0] 93)).drew.frozen? ⟨w.heap.size + 1, o, none⟩ = false := fun o => World.frozen?_alloc_at _ _ _ _ (by simp)
      have hB0 : Below w.heap.size w ((w.alloc (.cells #[.slice a1 ds.length c1, .slice a2 de.length c2, .int .i64 dl] 25)).alloc (.cells #[.slice none 0 0, .slice none 0 0, .int .i64 0] 93)) := ((Below.refl _ w).alloc (Nat.le_refl _) _).alloc (by simp) _
      simp only [World.size_alloc] at bM0
      clear k0 k1 k2
      go_loopw [28] (fun i wr => ∃ (k : Nat) (ve : Value), k ≤ de.length ∧ i = .int .i64 k ∧ Box3 wr (w.heap.size + 1) (.slice none 0 0) ve (.int .i64 (livN (de.take k))) ∧ OwnE 97 wr (w.heap.size + 2) ve (de.take k) ∧ (∀ o, wr.frozen? ⟨w.heap.size + 1, o, none⟩ = false) ∧ Box3 wr w.heap.size (.slice a1 ds.length c1) (.slice a2 de.length c2) (.int .i64 dl) ∧ Below w.heap.size w wr ∧ (∀ e ∈ de.take k, e.g = true → e.k = 0 ∧ e.v = 0)) (fun i _ => de.length - (intOf i).toNat)
      case atStart => exact ⟨0, _, Nat.zero_le _, rfl, by simpa [livN] using bM0.drew, by simpa using OwnG.nil shE _ _ _, fM0, bD.drew, hB0.drew, by simp⟩
      case round =>
        obtain ⟨k, ve, hk, rfl, bM, hO, hfM, bDr, hBr, hA⟩ := hrel
        clear bM0 fM0 hB0 bD
        by_cases hlt : k < de.length
        · obtain ⟨b, off, rfl, hb', hcell⟩ := hc2 (by omega)
          obtain ⟨d0, d1, d2, d3⟩ := RdE.at (fun k hk j hj => (hBr.cell (p := ⟨b, _, none⟩) hb').trans (hcell k hk j hj)) k hlt
          have hok := hz2 de[k] (List.getElem_mem hlt)
          have htk := List.take_succ_eq_append_getElem hlt
          have hmem := List.getElem_mem hlt
          have hlk : (de.take k).length = k := by simp; omega
          have hlv : livN (de.take k) ≤ k := by
            have := List.countP_le_length (p := fun e : En => !e.g) (l := de.take k)
            rw [hlk] at this; exact this
          generalize de[k] = E at *
          obtain ⟨Eh, Ek, Ev, Eg⟩ := E
          obtain ⟨va, vc, hv⟩ := hO.form
          rw [hlk] at hv
          subst hv
          have Htk : Hid (de.take (k + 1) = de.take k ++ [⟨Eh, Ek, Ev, Eg⟩]) := htk
          generalize hXS : de.take k = XS at *
          obtain ⟨L, hL⟩ : ∃ L, L = livN XS := ⟨_, rfl⟩
          rw [← hL] at bM hlv
          have HL : Hid (L = livN XS) := hL
          clear hL hXS
          simp only at d0 d1 d2 d3
          clear hcell hc2 hc1 htk
          have hlo := hO.lt
          obtain ⟨hgM, m0, m1, m2⟩ := id bM
          have f1 := hfM 1
          have f2 := hfM 2
          cases Eg
          · go_wp2
            have xl := Box4.new (wr.setCell ⟨w.heap.size + 1, 2, none⟩ (.int .i64 ((L : Int) + 1))) (.int .u64 Eh) (.int .i64 Ek) (.int .i64 Ev) (.bool false) 63
            have bMl := (bM.p2 (.int .i64 ((L : Int) + 1))).alloc (.cells #[.int .u64 Eh, .int .i64 Ek, .int .i64 Ev, .bool false] 63)
            have hOl := (hO.setBelow (a := ⟨w.heap.size + 1, 2, none⟩) (by show w.heap.size + 1 < _; omega) (.int .i64 ((L : Int) + 1))).alloc (.cells #[.int .u64 Eh, .int .i64 Ek, .int .i64 Ev, .bool false] 63)
            have bDl := (bDr.far (c := w.heap.size + 1) (o := 2) (by omega) (.int .i64 ((L : Int) + 1))).alloc (.cells #[.int .u64 Eh, .int .i64 Ek, .int .i64 Ev, .bool false] 63)
            have hBs := below_set (o := 2) hBr hBr.size (show w.heap.size ≤ w.heap.size + 1 by omega) (.int .i64 ((L : Int) + 1))
            have hBl := hBs.alloc hBs.size (.cells #[.int .u64 Eh, .int .i64 Ek, .int .i64 Ev, .bool false] 63)
            have fMl : ∀ o, ((wr.setCell ⟨w.heap.size + 1, 2, none⟩ (.int .i64 ((L : Int) + 1))).alloc (.cells #[.int .u64 Eh, .int .i64 Ek, .int .i64 Ev, .bool false] 63)).frozen? ⟨w.heap.size + 1, o, none⟩ = false := fun o => by
              rw [World.frozen?_alloc_past _ _ _ (by simpa [World.setCell] using hgM), World.frozen?_setCell]; exact hfM o
            rw [show (wr.setCell ⟨w.heap.size + 1, 2, none⟩ (.int .i64 ((L : Int) + 1))).heap.size = wr.heap.size by simp [World.setCell]] at xl
            clear hBs
            generalize ((wr.setCell ⟨w.heap.size + 1, 2, none⟩ (.int .i64 ((L : Int) + 1))).alloc (.cells #[.int .u64 Eh, .int .i64 Ek, .int .i64 Ev, .bool false] 63)) = Wl at *
            have hne : ∀ c, c ≤ w.heap.size + 1 → some c ≠ (Value.slice va k vc).ownBlock := fun c hc e => by have := hlo c e.symm; omega
            have hnx : some wr.heap.size ≠ (Value.slice va k vc).ownBlock := fun e => by have := hlo wr.heap.size e.symm; omega
            obtain ⟨-, x0, x1, x2, x3⟩ := id xl
            obtain ⟨hgl, n0, n1, n2⟩ := id bMl
            have q1 := fMl 1
            have hlen1 : XS.length + 1 ≤ 16777216 := by rw [hlk]; omega
            have hBB1 : w.heap.size + 2 ≤ (Wl.alloc (.cells #[.int .u64 Eh, .int .i64 Ek, .int .i64 Ev, .bool false] 97)).drew.heap.size := by show _ ≤ (Wl.alloc _).heap.size; simp; omega
            have hb2 : w.heap.size + 1 ≤ w.heap.size + 1 := Nat.le_refl _
            have hsn : w.heap.size + 1 ≠ wr.heap.size := by omega
            clear m0 m1 m2 f1 f2 d0 d1 d2 d3 bM hO hfM bDr hBr
            refine wp_region_held_drew (S := (fun W => W.cell? ⟨wr.heap.size, 0, none⟩ = some (.int .u64 Eh) ∧ W.cell? ⟨wr.heap.size, 1, none⟩ = some (.int .i64 Ek) ∧ W.cell? ⟨wr.heap.size, 2, none⟩ = some (.int .i64 Ev) ∧ W.cell? ⟨wr.heap.size, 3, none⟩ = some (.bool false))) (by kernel_rfl) ?_ (fun hHeld => ?_)
            · (try dsimp only); go_keep
            refine' wpAnyH_take (i := 0) (oi := _) (v := _) ?hi0 (by kernel_rfl) (by kernel_rfl) (by kernel_rfl) ?hq0 (Or.inl ⟨?hg0, ?hy0⟩) (by assumption) ?rest0
            case hi0 => (rw [List.getElem?_toArray]; exact rfl)
            case hg0 => rfl
            case hy0 => (intro w hSw; (try dsimp only at hSw); go_simp; try with_reducible rfl)
            case hq0 => exact fun _ _ _ h => h
            try simp only [Act.put, List.setIfInBounds_toArray, List.set_cons_zero, List.set_cons_succ]
            refine' wpAnyH_take (i := 1) (oi := _) (v := _) ?hi1 (by kernel_rfl) (by kernel_rfl) (by kernel_rfl) ?hq1 (Or.inl ⟨?hg1, ?hy1⟩) (by assumption) ?rest1
            case hi1 => (rw [List.getElem?_toArray]; exact rfl)
            case hg1 => rfl
            case hy1 => (intro w hSw; (try dsimp only at hSw); go_simp; try with_reducible rfl)
            case hq1 => exact fun _ _ _ h => h
            try simp only [Act.put, List.setIfInBounds_toArray, List.set_cons_zero, List.set_cons_succ]
            refine' wpAnyH_take (i := 2) (oi := _) (v := _) ?hi2 (by kernel_rfl) (by kernel_rfl) (by kernel_rfl) ?hq2 (Or.inl ⟨?hg2, ?hy2⟩) (by assumption) ?rest2
            case hi2 => (rw [List.getElem?_toArray]; exact rfl)
            case hg2 => rfl
            case hy2 => (intro w hSw; (try dsimp only at hSw); go_simp; try with_reducible rfl)
            case hq2 => exact fun _ _ _ h => h
            try simp only [Act.put, List.setIfInBounds_toArray, List.set_cons_zero, List.set_cons_succ]
            refine' wpAnyH_take (i := 3) (oi := _) (v := _) ?hi3 (by kernel_rfl) (by kernel_rfl) (by kernel_rfl) ?hq3 (Or.inl ⟨?hg3, ?hy3⟩) (by assumption) ?rest3
            case hi3 => (rw [List.getElem?_toArray]; exact rfl)
            case hg3 => rfl
            case hy3 => (intro w hSw; (try dsimp only at hSw); go_simp; try with_reducible rfl)
            case hq3 => exact fun _ _ _ h => h
            try simp only [Act.put, List.setIfInBounds_toArray, List.set_cons_zero, List.set_cons_succ]
            refine' wpAnyH_take (i := 5) (oi := _) (v := _) ?hi5 (by kernel_rfl) (by kernel_rfl) (by kernel_rfl) ?hq5 (Or.inl ⟨?hg5, ?hy5⟩) (by assumption) ?rest5
            case hi5 => (rw [List.getElem?_toArray]; exact rfl)
            case hg5 => rfl
            case hy5 => (intro w hSw; (try dsimp only at hSw); go_simp; try with_reducible rfl)
            case hq5 => exact fun _ _ _ h => h
            try simp only [Act.put, List.setIfInBounds_toArray, List.set_cons_zero, List.set_cons_succ]
            refine' wpAnyH_take (i := 6) (oi := _) (v := _) ?hi6 (by kernel_rfl) (by kernel_rfl) (by kernel_rfl) ?hq6 (Or.inl ⟨?hg6, ?hy6⟩) (by assumption) ?rest6
            case hi6 => (rw [List.getElem?_toArray]; exact rfl)
            case hg6 => rfl
            case hy6 => (intro w hSw; (try dsimp only at hSw); go_simp; try with_reducible rfl)
            case hq6 => exact fun _ _ _ h => h
            try simp only [Act.put, List.setIfInBounds_toArray, List.set_cons_zero, List.set_cons_succ]
            refine' wpAnyH_take (i := 7) (oi := _) (v := _) ?hi7 (by kernel_rfl) (by kernel_rfl) (by kernel_rfl) ?hq7 (Or.inl ⟨?hg7, ?hy7⟩) (by assumption) ?rest7
            case hi7 => (rw [List.getElem?_toArray]; exact rfl)
            case hg7 => rfl
            case hy7 => (intro w hSw; (try dsimp only at hSw); go_simp; try with_reducible rfl)
            case hq7 => exact fun _ _ _ h => h
            try simp only [Act.put, List.setIfInBounds_toArray, List.set_cons_zero, List.set_cons_succ]
            refine' wpAnyH_take (i := 8) (oi := _) (v := _) ?hi8 (by kernel_rfl) (by kernel_rfl) (by kernel_rfl) ?hq8 (Or.inl ⟨?hg8, ?hy8⟩) (by assumption) ?rest8
            case hi8 => (rw [List.getElem?_toArray]; exact rfl)
            case hg8 => rfl
            case hy8 => (intro w hSw; (try dsimp only at hSw); go_simp; try with_reducible rfl)
            case hq8 => exact fun _ _ _ h => h
            try simp only [Act.put, List.setIfInBounds_toArray, List.set_cons_zero, List.set_cons_succ]
            refine' wpAnyH_take (i := 9) (oi := _) (v := _) ?hi9 (by kernel_rfl) (by kernel_rfl) (by kernel_rfl) ?hq9 (Or.inl ⟨?hg9, ?hy9⟩) (by assumption) ?rest9
            case hi9 => (rw [List.getElem?_toArray]; exact rfl)
            case hg9 => rfl
            case hy9 => (intro w hSw; (try dsimp only at hSw); go_simp; try with_reducible rfl)
            case hq9 => exact fun _ _ _ h => h
            try simp only [Act.put, List.setIfInBounds_toArray, List.set_cons_zero, List.set_cons_succ]
            refine' wpAnyH_take (i := 10) (oi := _) (v := _) ?hi10 (by kernel_rfl) (by kernel_rfl) (by kernel_rfl) ?hq10 (Or.inl ⟨?hg10, ?hy10⟩) (by assumption) ?rest10
            case hi10 => (rw [List.getElem?_toArray]; exact rfl)
            case hg10 => rfl
            case hy10 => (intro w hSw; (try dsimp only at hSw); go_simp; try with_reducible rfl)
            case hq10 => exact fun _ _ _ h => h
            try simp only [Act.put, List.setIfInBounds_toArray, List.set_cons_zero, List.set_cons_succ]
            refine' wpAnyH_take (i := 11) (oi := _) (v := _) ?hi11 (by kernel_rfl) (by kernel_rfl) (by kernel_rfl) ?hq11 (Or.inl ⟨?hg11, ?hy11⟩) (by assumption) ?rest11
            case hi11 => (rw [List.getElem?_toArray]; exact rfl)
            case hg11 => rfl
            case hy11 => (intro w hSw; (try dsimp only at hSw); go_simp; try with_reducible rfl)
            case hq11 => exact fun _ _ _ h => h
            try simp only [Act.put, List.setIfInBounds_toArray, List.set_cons_zero, List.set_cons_succ]
            refine' wpAnyH_take (i := 12) (oi := _) (v := _) ?hi12 (by kernel_rfl) (by kernel_rfl) (by kernel_rfl) ?hq12 (Or.inl ⟨?hg12, ?hy12⟩) (by assumption) ?rest12
            case hi12 => (rw [List.getElem?_toArray]; exact rfl)
            case hg12 => rfl
            case hy12 => (intro w hSw; (try dsimp only at hSw); go_simp; try with_reducible rfl)
            case hq12 => exact fun _ _ _ h => h
            try simp only [Act.put, List.setIfInBounds_toArray, List.set_cons_zero, List.set_cons_succ]
            refine' wpAnyH_take (i := 13) (oi := _) (v := _) ?hi13 (by kernel_rfl) (by kernel_rfl) (by kernel_rfl) ?hq13 (Or.inl ⟨?hg13, ?hy13⟩) (by assumption) ?rest13
            case hi13 => (rw [List.getElem?_toArray]; exact rfl)
            case hg13 => rfl
            case hy13 => (intro w hSw; (try dsimp only at hSw); go_simp; try with_reducible rfl)
            case hq13 => exact fun _ _ _ h => h
            try simp only [Act.put, List.setIfInBounds_toArray, List.set_cons_zero, List.set_cons_succ]
            refine' wpAnyH_take (i := 14) (oi := _) (v := _) ?hi14 (by kernel_rfl) (by kernel_rfl) (by kernel_rfl) ?hq14 (Or.inl ⟨?hg14, ?hy14⟩) (by assumption) ?rest14
            case hi14 => (rw [List.getElem?_toArray]; exact rfl)
            case hg14 => rfl
            case hy14 => (intro w hSw; (try dsimp only at hSw); go_simp; try with_reducible rfl)
            case hq14 => exact fun _ _ _ h => h
            try simp only [Act.put, List.setIfInBounds_toArray, List.set_cons_zero, List.set_cons_succ]
            refine wpAnyH_ready (rs := [4, 15]) (by kernel_rfl) (by simp) ?_
            refine AllReadyH.cons rfl (fun K hK => ?_) (AllReadyH.cons rfl (fun K hK => ?_) AllReadyH.nil)
            · (go_simp)
              refine hK.out _ _ ?_ (fun hHeld => ?_)
              · ((try dsimp only); go_keep)
              clear hK K
              refine wpAnyH_ready (rs := [15]) (by kernel_rfl) (by simp) ?_
              refine AllReadyH.cons rfl (fun K hK => ?_) AllReadyH.nil
              (go_simp)
              refine hK.out _ _ ?_ (fun hHeld => ?_)
              · ((try dsimp only); go_keep)
              clear hK K
              refine wpAnyH_ready (rs := [16]) (by kernel_rfl) (by simp) ?_
              refine AllReadyH.cons rfl (fun K hK => ?_) AllReadyH.nil
              (refine step_append_one (S := shE) Try.infoE rfl (by omega) rfl (.tmp 59) (.tmp 70) 91 rfl Try.underlying91 (w.heap.size + 2) (.slice va k vc) XS ⟨Eh, Ek, Ev, false⟩ hok Wl.heap.size 1 (by simp [Act.eval, Act.put]) (by simp [Act.eval, Act.put]) ((hOl.alloc (.cells #[.int .u64 Eh, .int .i64 Ek, .int .i64 Ev, .bool false] 97)).drew) (en_new Wl ⟨Eh, Ek, Ev, false⟩ 97 _ rfl) hlen1 hBB1 ?_; intro va' vc' w' hO' hg'; have hgr := gb_trans (gb_below (Value.slice va k vc).ownBlock (((Below.refl _ Wl).alloc (Nat.le_refl _) (.cells #[.int .u64 Eh, .int .i64 Ek, .int .i64 Ev, .bool false] 97)).drew)) hg'; have y0 := hgr.cell x0 hnx; have y1 := hgr.cell x1 hnx; have y2 := hgr.cell x2 hnx; have y3 := hgr.cell x3 hnx; have y4 := hgr.cell n1 (hne _ hb2); have y5 : w'.frozen? ⟨w.heap.size + 1, 1, none⟩ = false := (World.frozen?_of_block (hgr.block (w.heap.size + 1) hgl (hne _ hb2))).trans q1)
              refine hK.out _ _ ?_ (fun hHeld => ?_)
              · ((try dsimp only); go_keep)
              clear hK K
              refine wpAnyH_ready (rs := [17]) (by kernel_rfl) (by simp) ?_
              refine AllReadyH.cons rfl (fun K hK => ?_) AllReadyH.nil
              (go_simp)
              refine hK.out _ _ ?_ (fun hHeld => ?_)
              · ((try dsimp only); go_keep)
              clear hK K
              refine wpAnyH_ready (rs := [18]) (by kernel_rfl) (by simp) ?_
              refine AllReadyH.cons rfl (fun K hK => ?_) AllReadyH.nil
              (go_simp)
              refine hK.out _ _ ?_ (fun hHeld => ?_)
              · ((try dsimp only); go_keep)
              clear hK K
              refine wpAnyH_ready (rs := [19]) (by kernel_rfl) (by simp) ?_
              refine AllReadyH.cons rfl (fun K hK => ?_) AllReadyH.nil
              (go_simp)
              refine hK.out _ _ ?_ (fun hHeld => ?_)
              · ((try dsimp only); go_keep)
              clear hK K
              refine wpAnyH_done (by kernel_rfl) ?_ _
              rw [show (XS ++ [(⟨Eh, Ek, Ev, false⟩ : En)]).length = k + 1 by simp [hlk]] at hO'
              have bM2 := (bMl.but hgr (hne _ hb2)).p1 (.slice va' (k + 1) vc')
              have bD2 := (bDl.but hgr (hne _ (Nat.le_succ _))).far (c := w.heap.size + 1) (o := 1) (by omega) (.slice va' (k + 1) vc')
              have hO2 := hO'.setBelow (a := ⟨w.heap.size + 1, 1, none⟩) (by show w.heap.size + 1 < _; omega) (.slice va' (k + 1) vc')
              have hBl' : Below w.heap.size w w' := hBl.grown hgr hBl.size (fun j hj => by have := hlo j hj; omega)
              have hB2 := below_set (o := 1) hBl' hBl'.size (show w.heap.size ≤ w.heap.size + 1 by omega) (.slice va' (k + 1) vc')
              have fM2 : ∀ o, (w'.setCell ⟨w.heap.size + 1, 1, none⟩ (.slice va' (k + 1) vc')).frozen? ⟨w.heap.size + 1, o, none⟩ = false := fun o => by
                rw [World.frozen?_setCell, World.frozen?_of_block (hgr.block (w.heap.size + 1) hgl (hne _ hb2))]; exact fMl o
              clear y0 y1 y2 y3 y4 y5 x0 x1 x2 x3 n0 n1 n2 q1
              go_wp2
              go_roundw
              case rel =>
                refine ⟨k + 1, .slice va' (k + 1) vc', by omega, by go_num, ?_, ?_, fM2, bD2, hB2, ?_⟩
                · have e : livN (de.take (k + 1)) = L + 1 := by rw [Htk.out, HL.out]; simp [livN, List.countP_append]
                  rw [e]
                  first | exact bM2 | (push_cast; exact bM2)
                · rw [Htk.out]; exact hO2
                · rw [Htk.out]; intro e he hg
                  rcases List.mem_append.1 he with h | h
                  · exact hA e h hg
                  · simp at h; subst h; cases hg
              case measure => simp [intOf]; omega
            · (go_simp)
              refine hK.out _ _ ?_ (fun hHeld => ?_)
              · ((try dsimp only); go_keep)
              clear hK K
              refine wpAnyH_ready (rs := [4]) (by kernel_rfl) (by simp) ?_
              refine AllReadyH.cons rfl (fun K hK => ?_) AllReadyH.nil
              (go_simp)
              refine hK.out _ _ ?_ (fun hHeld => ?_)
              · ((try dsimp only); go_keep)
              clear hK K
              refine wpAnyH_ready (rs := [16]) (by kernel_rfl) (by simp) ?_
              refine AllReadyH.cons rfl (fun K hK => ?_) AllReadyH.nil
              (refine step_append_one (S := shE) Try.infoE rfl (by omega) rfl (.tmp 59) (.tmp 70) 91 rfl Try.underlying91 (w.heap.size + 2) (.slice va k vc) XS ⟨Eh, Ek, Ev, false⟩ hok Wl.heap.size 1 (by simp [Act.eval, Act.put]) (by simp [Act.eval, Act.put]) ((hOl.alloc (.cells #[.int .u64 Eh, .int .i64 Ek, .int .i64 Ev, .bool false] 97)).drew) (en_new Wl ⟨Eh, Ek, Ev, false⟩ 97 _ rfl) hlen1 hBB1 ?_; intro va' vc' w' hO' hg'; have hgr := gb_trans (gb_below (Value.slice va k vc).ownBlock (((Below.refl _ Wl).alloc (Nat.le_refl _) (.cells #[.int .u64 Eh, .int .i64 Ek, .int .i64 Ev, .bool false] 97)).drew)) hg'; have y0 := hgr.cell x0 hnx; have y1 := hgr.cell x1 hnx; have y2 := hgr.cell x2 hnx; have y3 := hgr.cell x3 hnx; have y4 := hgr.cell n1 (hne _ hb2); have y5 : w'.frozen? ⟨w.heap.size + 1, 1, none⟩ = false := (World.frozen?_of_block (hgr.block (w.heap.size + 1) hgl (hne _ hb2))).trans q1)
              refine hK.out _ _ ?_ (fun hHeld => ?_)
              · ((try dsimp only); go_keep)
              clear hK K
              refine wpAnyH_ready (rs := [17]) (by kernel_rfl) (by simp) ?_
              refine AllReadyH.cons rfl (fun K hK => ?_) AllReadyH.nil
              (go_simp)
              refine hK.out _ _ ?_ (fun hHeld => ?_)
              · ((try dsimp only); go_keep)
              clear hK K
              refine wpAnyH_ready (rs := [18]) (by kernel_rfl) (by simp) ?_
              refine AllReadyH.cons rfl (fun K hK => ?_) AllReadyH.nil
              (go_simp)
              refine hK.out _ _ ?_ (fun hHeld => ?_)
              · ((try dsimp only); go_keep)
              clear hK K
              refine wpAnyH_ready (rs := [19]) (by kernel_rfl) (by simp) ?_
              refine AllReadyH.cons rfl (fun K hK => ?_) AllReadyH.nil
              (go_simp)
              refine hK.out _ _ ?_ (fun hHeld => ?_)
              · ((try dsimp only); go_keep)
              clear hK K
              refine wpAnyH_done (by kernel_rfl) ?_ _
              rw [show (XS ++ [(⟨Eh, Ek, Ev, false⟩ : En)]).length = k + 1 by simp [hlk]] at hO'
              have bM2 := (bMl.but hgr (hne _ hb2)).p1 (.slice va' (k + 1) vc')
              have bD2 := (bDl.but hgr (hne _ (Nat.le_succ _))).far (c := w.heap.size + 1) (o := 1) (by omega) (.slice va' (k + 1) vc')
              have hO2 := hO'.setBelow (a := ⟨w.heap.size + 1, 1, none⟩) (by show w.heap.size + 1 < _; omega) (.slice va' (k + 1) vc')
              have hBl' : Below w.heap.size w w' := hBl.grown hgr hBl.size (fun j hj => by have := hlo j hj; omega)
              have hB2 := below_set (o := 1) hBl' hBl'.size (show w.heap.size ≤ w.heap.size + 1 by omega) (.slice va' (k + 1) vc')
              have fM2 : ∀ o, (w'.setCell ⟨w.heap.size + 1, 1, none⟩ (.slice va' (k + 1) vc')).frozen? ⟨w.heap.size + 1, o, none⟩ = false := fun o => by
                rw [World.frozen?_setCell, World.frozen?_of_block (hgr.block (w.heap.size + 1) hgl (hne _ hb2))]; exact fMl o
              clear y0 y1 y2 y3 y4 y5 x0 x1 x2 x3 n0 n1 n2 q1
              go_wp2
              go_roundw
              case rel =>
                refine ⟨k + 1, .slice va' (k + 1) vc', by omega, by go_num, ?_, ?_, fM2, bD2, hB2, ?_⟩
                · have e : livN (de.take (k + 1)) = L + 1 := by rw [Htk.out, HL.out]; simp [livN, List.countP_append]
                  rw [e]
                  first | exact bM2 | (push_cast; exact bM2)
                · rw [Htk.out]; exact hO2
                · rw [Htk.out]; intro e he hg
                  rcases List.mem_append.1 he with h | h
                  · exact hA e h hg
                  · simp at h; subst h; cases hg
              case measure => simp [intOf]; omega
          · by_cases hz : Ek = 0
            · by_cases hz' : Ev = 0
              · subst hz
                subst hz'
                go_wp2
                have xl := Box4.new wr (.int .u64 Eh) (.int .i64 0) (.int .i64 0) (.bool true) 63
                have bMl := bM.alloc (.cells #[.int .u64 Eh, .int .i64 0, .int .i64 0, .bool true] 63)
                have hOl := hO.alloc (.cells #[.int .u64 Eh, .int .i64 0, .int .i64 0, .bool true] 63)
                have bDl := bDr.alloc (.cells #[.int .u64 Eh, .int .i64 0, .int .i64 0, .bool true] 63)
                have hBl := hBr.alloc hBr.size (.cells #[.int .u64 Eh, .int .i64 0, .int .i64 0, .bool true] 63)
                have fMl : ∀ o, (wr.alloc (.cells #[.int .u64 Eh, .int .i64 0, .int .i64 0, .bool true] 63)).frozen? ⟨w.heap.size + 1, o, none⟩ = false := fun o => by
                  rw [World.frozen?_alloc_past _ _ _ hgM]; exact hfM o
                generalize (wr.alloc (.cells #[.int .u64 Eh, .int .i64 0, .int .i64 0, .bool true] 63)) = Wl at *
                have hne : ∀ c, c ≤ w.heap.size + 1 → some c ≠ (Value.slice va k vc).ownBlock := fun c hc e => by have := hlo c e.symm; omega
                have hnx : some wr.heap.size ≠ (Value.slice va k vc).ownBlock := fun e => by have := hlo wr.heap.size e.symm; omega
                obtain ⟨-, x0, x1, x2, x3⟩ := id xl
                obtain ⟨hgl, n0, n1, n2⟩ := id bMl
                have q1 := fMl 1
                have hlen1 : XS.length + 1 ≤ 16777216 := by rw [hlk]; omega
                have hBB1 : w.heap.size + 2 ≤ (Wl.alloc (.cells #[.int .u64 Eh, .int .i64 0, .int .i64 0, .bool true] 97)).drew.heap.size := by show _ ≤ (Wl.alloc _).heap.size; simp; omega
                have hb2 : w.heap.size + 1 ≤ w.heap.size + 1 := Nat.le_refl _
                have hsn : w.heap.size + 1 ≠ wr.heap.size := by omega
                clear m0 m1 m2 f1 f2 d0 d1 d2 d3 bM hO hfM bDr hBr
                refine wp_region_held_drew (S := (fun W => W.cell? ⟨wr.heap.size, 0, none⟩ = some (.int .u64 Eh) ∧ W.cell? ⟨wr.heap.size, 1, none⟩ = some (.int .i64 0) ∧ W.cell? ⟨wr.heap.size, 2, none⟩ = some (.int .i64 0) ∧ W.cell? ⟨wr.heap.size, 3, none⟩ = some (.bool true))) (by kernel_rfl) ?_ (fun hHeld => ?_)
                · (try dsimp only); go_keep
                refine' wpAnyH_take (i := 0) (oi := _) (v := _) ?hib0 (by kernel_rfl) (by kernel_rfl) (by kernel_rfl) ?hqb0 (Or.inl ⟨?hgb0, ?hyb0⟩) (by assumption) ?restb0
                case hib0 => (rw [List.getElem?_toArray]; exact rfl)
                case hgb0 => rfl
                case hyb0 => (intro w hSw; (try dsimp only at hSw); go_simp; try with_reducible rfl)
                case hqb0 => exact fun _ _ _ h => h
                try simp only [Act.put, List.setIfInBounds_toArray, List.set_cons_zero, List.set_cons_succ]
                refine' wpAnyH_take (i := 1) (oi := _) (v := _) ?hib1 (by kernel_rfl) (by kernel_rfl) (by kernel_rfl) ?hqb1 (Or.inl ⟨?hgb1, ?hyb1⟩) (by assumption) ?restb1
                case hib1 => (rw [List.getElem?_toArray]; exact rfl)
                case hgb1 => rfl
                case hyb1 => (intro w hSw; (try dsimp only at hSw); go_simp; try with_reducible rfl)
                case hqb1 => exact fun _ _ _ h => h
                try simp only [Act.put, List.setIfInBounds_toArray, List.set_cons_zero, List.set_cons_succ]
                refine' wpAnyH_take (i := 2) (oi := _) (v := _) ?hib2 (by kernel_rfl) (by kernel_rfl) (by kernel_rfl) ?hqb2 (Or.inl ⟨?hgb2, ?hyb2⟩) (by assumption) ?restb2
                case hib2 => (rw [List.getElem?_toArray]; exact rfl)
                case hgb2 => rfl
                case hyb2 => (intro w hSw; (try dsimp only at hSw); go_simp; try with_reducible rfl)
                case hqb2 => exact fun _ _ _ h => h
                try simp only [Act.put, List.setIfInBounds_toArray, List.set_cons_zero, List.set_cons_succ]
                refine' wpAnyH_take (i := 3) (oi := _) (v := _) ?hib3 (by kernel_rfl) (by kernel_rfl) (by kernel_rfl) ?hqb3 (Or.inl ⟨?hgb3, ?hyb3⟩) (by assumption) ?restb3
                case hib3 => (rw [List.getElem?_toArray]; exact rfl)
                case hgb3 => rfl
                case hyb3 => (intro w hSw; (try dsimp only at hSw); go_simp; try with_reducible rfl)
                case hqb3 => exact fun _ _ _ h => h
                try simp only [Act.put, List.setIfInBounds_toArray, List.set_cons_zero, List.set_cons_succ]
                refine' wpAnyH_take (i := 5) (oi := _) (v := _) ?hib5 (by kernel_rfl) (by kernel_rfl) (by kernel_rfl) ?hqb5 (Or.inl ⟨?hgb5, ?hyb5⟩) (by assumption) ?restb5
                case hib5 => (rw [List.getElem?_toArray]; exact rfl)
                case hgb5 => rfl
                case hyb5 => (intro w hSw; (try dsimp only at hSw); go_simp; try with_reducible rfl)
                case hqb5 => exact fun _ _ _ h => h
                try simp only [Act.put, List.setIfInBounds_toArray, List.set_cons_zero, List.set_cons_succ]
                refine' wpAnyH_take (i := 6) (oi := _) (v := _) ?hib6 (by kernel_rfl) (by kernel_rfl) (by kernel_rfl) ?hqb6 (Or.inl ⟨?hgb6, ?hyb6⟩) (by assumption) ?restb6
                case hib6 => (rw [List.getElem?_toArray]; exact rfl)
                case hgb6 => rfl
                case hyb6 => (intro w hSw; (try dsimp only at hSw); go_simp; try with_reducible rfl)
                case hqb6 => exact fun _ _ _ h => h
                try simp only [Act.put, List.setIfInBounds_toArray, List.set_cons_zero, List.set_cons_succ]
                refine' wpAnyH_take (i := 7) (oi := _) (v := _) ?hib7 (by kernel_rfl) (by kernel_rfl) (by kernel_rfl) ?hqb7 (Or.inl ⟨?hgb7, ?hyb7⟩) (by assumption) ?restb7
                case hib7 => (rw [List.getElem?_toArray]; exact rfl)
                case hgb7 => rfl
                case hyb7 => (intro w hSw; (try dsimp only at hSw); go_simp; try with_reducible rfl)
                case hqb7 => exact fun _ _ _ h => h
                try simp only [Act.put, List.setIfInBounds_toArray, List.set_cons_zero, List.set_cons_succ]
                refine' wpAnyH_take (i := 8) (oi := _) (v := _) ?hib8 (by kernel_rfl) (by kernel_rfl) (by kernel_rfl) ?hqb8 (Or.inl ⟨?hgb8, ?hyb8⟩) (by assumption) ?restb8
                case hib8 => (rw [List.getElem?_toArray]; exact rfl)
                case hgb8 => rfl
                case hyb8 => (intro w hSw; (try dsimp only at hSw); go_simp; try with_reducible rfl)
                case hqb8 => exact fun _ _ _ h => h
                try simp only [Act.put, List.setIfInBounds_toArray, List.set_cons_zero, List.set_cons_succ]
                refine' wpAnyH_take (i := 9) (oi := _) (v := _) ?hib9 (by kernel_rfl) (by kernel_rfl) (by kernel_rfl) ?hqb9 (Or.inl ⟨?hgb9, ?hyb9⟩) (by assumption) ?restb9
                case hib9 => (rw [List.getElem?_toArray]; exact rfl)
                case hgb9 => rfl
                case hyb9 => (intro w hSw; (try dsimp only at hSw); go_simp; try with_reducible rfl)
                case hqb9 => exact fun _ _ _ h => h
                try simp only [Act.put, List.setIfInBounds_toArray, List.set_cons_zero, List.set_cons_succ]
                refine' wpAnyH_take (i := 10) (oi := _) (v := _) ?hib10 (by kernel_rfl) (by kernel_rfl) (by kernel_rfl) ?hqb10 (Or.inl ⟨?hgb10, ?hyb10⟩) (by assumption) ?restb10
                case hib10 => (rw [List.getElem?_toArray]; exact rfl)
                case hgb10 => rfl
                case hyb10 => (intro w hSw; (try dsimp only at hSw); go_simp; try with_reducible rfl)
                case hqb10 => exact fun _ _ _ h => h
                try simp only [Act.put, List.setIfInBounds_toArray, List.set_cons_zero, List.set_cons_succ]
                refine' wpAnyH_take (i := 11) (oi := _) (v := _) ?hib11 (by kernel_rfl) (by kernel_rfl) (by kernel_rfl) ?hqb11 (Or.inl ⟨?hgb11, ?hyb11⟩) (by assumption) ?restb11
                case hib11 => (rw [List.getElem?_toArray]; exact rfl)
                case hgb11 => rfl
                case hyb11 => (intro w hSw; (try dsimp only at hSw); go_simp; try with_reducible rfl)
                case hqb11 => exact fun _ _ _ h => h
                try simp only [Act.put, List.setIfInBounds_toArray, List.set_cons_zero, List.set_cons_succ]
                refine' wpAnyH_take (i := 12) (oi := _) (v := _) ?hib12 (by kernel_rfl) (by kernel_rfl) (by kernel_rfl) ?hqb12 (Or.inl ⟨?hgb12, ?hyb12⟩) (by assumption) ?restb12
                case hib12 => (rw [List.getElem?_toArray]; exact rfl)
                case hgb12 => rfl
                case hyb12 => (intro w hSw; (try dsimp only at hSw); go_simp; try with_reducible rfl)
                case hqb12 => exact fun _ _ _ h => h
                try simp only [Act.put, List.setIfInBounds_toArray, List.set_cons_zero, List.set_cons_succ]
                refine' wpAnyH_take (i := 13) (oi := _) (v := _) ?hib13 (by kernel_rfl) (by kernel_rfl) (by kernel_rfl) ?hqb13 (Or.inl ⟨?hgb13, ?hyb13⟩) (by assumption) ?restb13
                case hib13 => (rw [List.getElem?_toArray]; exact rfl)
                case hgb13 => rfl
                case hyb13 => (intro w hSw; (try dsimp only at hSw); go_simp; try with_reducible rfl)
                case hqb13 => exact fun _ _ _ h => h
                try simp only [Act.put, List.setIfInBounds_toArray, List.set_cons_zero, List.set_cons_succ]
                refine' wpAnyH_take (i := 14) (oi := _) (v := _) ?hib14 (by kernel_rfl) (by kernel_rfl) (by kernel_rfl) ?hqb14 (Or.inl ⟨?hgb14, ?hyb14⟩) (by assumption) ?restb14
                case hib14 => (rw [List.getElem?_toArray]; exact rfl)
                case hgb14 => rfl
                case hyb14 => (intro w hSw; (try dsimp only at hSw); go_simp; try with_reducible rfl)
                case hqb14 => exact fun _ _ _ h => h
                try simp only [Act.put, List.setIfInBounds_toArray, List.set_cons_zero, List.set_cons_succ]
                refine wpAnyH_ready (rs := [4, 15]) (by kernel_rfl) (by simp) ?_
                refine AllReadyH.cons rfl (fun K hK => ?_) (AllReadyH.cons rfl (fun K hK => ?_) AllReadyH.nil)
                · (go_simp)
                  refine hK.out _ _ ?_ (fun hHeld => ?_)
                  · ((try dsimp only); go_keep)
                  clear hK K
                  refine wpAnyH_ready (rs := [15]) (by kernel_rfl) (by simp) ?_
                  refine AllReadyH.cons rfl (fun K hK => ?_) AllReadyH.nil
                  (go_simp)
                  refine hK.out _ _ ?_ (fun hHeld => ?_)
                  · ((try dsimp only); go_keep)
                  clear hK K
                  refine wpAnyH_ready (rs := [16]) (by kernel_rfl) (by simp) ?_
                  refine AllReadyH.cons rfl (fun K hK => ?_) AllReadyH.nil
                  (refine step_append_one (S := shE) Try.infoE rfl (by omega) rfl (.tmp 59) (.tmp 70) 91 rfl Try.underlying91 (w.heap.size + 2) (.slice va k vc) XS ⟨Eh, 0, 0, true⟩ hok Wl.heap.size 1 (by simp [Act.eval, Act.put]) (by simp [Act.eval, Act.put]) ((hOl.alloc (.cells #[.int .u64 Eh, .int .i64 0, .int .i64 0, .bool true] 97)).drew) (en_new Wl ⟨Eh, 0, 0, true⟩ 97 _ rfl) hlen1 hBB1 ?_; intro va' vc' w' hO' hg'; have hgr := gb_trans (gb_below (Value.slice va k vc).ownBlock (((Below.refl _ Wl).alloc (Nat.le_refl _) (.cells #[.int .u64 Eh, .int .i64 0, .int .i64 0, .bool true] 97)).drew)) hg'; have y0 := hgr.cell x0 hnx; have y1 := hgr.cell x1 hnx; have y2 := hgr.cell x2 hnx; have y3 := hgr.cell x3 hnx; have y4 := hgr.cell n1 (hne _ hb2); have y5 : w'.frozen? ⟨w.heap.size + 1, 1, none⟩ = false := (World.frozen?_of_block (hgr.block (w.heap.size + 1) hgl (hne _ hb2))).trans q1)
                  refine hK.out _ _ ?_ (fun hHeld => ?_)
                  · ((try dsimp only); go_keep)
                  clear hK K
                  refine wpAnyH_ready (rs := [17]) (by kernel_rfl) (by simp) ?_
                  refine AllReadyH.cons rfl (fun K hK => ?_) AllReadyH.nil
                  (go_simp)
                  refine hK.out _ _ ?_ (fun hHeld => ?_)
                  · ((try dsimp only); go_keep)
                  clear hK K
                  refine wpAnyH_ready (rs := [18]) (by kernel_rfl) (by simp) ?_
                  refine AllReadyH.cons rfl (fun K hK => ?_) AllReadyH.nil
                  (go_simp)
                  refine hK.out _ _ ?_ (fun hHeld => ?_)
                  · ((try dsimp only); go_keep)
                  clear hK K
                  refine wpAnyH_ready (rs := [19]) (by kernel_rfl) (by simp) ?_
                  refine AllReadyH.cons rfl (fun K hK => ?_) AllReadyH.nil
                  (go_simp)
                  refine hK.out _ _ ?_ (fun hHeld => ?_)
                  · ((try dsimp only); go_keep)
                  clear hK K
                  refine wpAnyH_done (by kernel_rfl) ?_ _
                  rw [show (XS ++ [(⟨Eh, 0, 0, true⟩ : En)]).length = k + 1 by simp [hlk]] at hO'
                  have bM2 := (bMl.but hgr (hne _ hb2)).p1 (.slice va' (k + 1) vc')
                  have bD2 := (bDl.but hgr (hne _ (Nat.le_succ _))).far (c := w.heap.size + 1) (o := 1) (by omega) (.slice va' (k + 1) vc')
                  have hO2 := hO'.setBelow (a := ⟨w.heap.size + 1, 1, none⟩) (by show w.heap.size + 1 < _; omega) (.slice va' (k + 1) vc')
                  have hBl' : Below w.heap.size w w' := hBl.grown hgr hBl.size (fun j hj => by have := hlo j hj; omega)
                  have hB2 := below_set (o := 1) hBl' hBl'.size (show w.heap.size ≤ w.heap.size + 1 by omega) (.slice va' (k + 1) vc')
                  have fM2 : ∀ o, (w'.setCell ⟨w.heap.size + 1, 1, none⟩ (.slice va' (k + 1) vc')).frozen? ⟨w.heap.size + 1, o, none⟩ = false := fun o => by
                    rw [World.frozen?_setCell, World.frozen?_of_block (hgr.block (w.heap.size + 1) hgl (hne _ hb2))]; exact fMl o
                  clear y0 y1 y2 y3 y4 y5 x0 x1 x2 x3 n0 n1 n2 q1
                  go_wp2
                  go_roundw
                  case rel =>
                    refine ⟨k + 1, .slice va' (k + 1) vc', by omega, by go_num, ?_, ?_, fM2, bD2, hB2, ?_⟩
                    · have e : livN (de.take (k + 1)) = L := by rw [Htk.out, HL.out]; simp [livN, List.countP_append]
                      rw [e]
                      first | exact bM2 | (push_cast; exact bM2)
                    · rw [Htk.out]; exact hO2
                    · rw [Htk.out]; intro e he hg
                      rcases List.mem_append.1 he with h | h
                      · exact hA e h hg
                      · simp at h; subst h; exact ⟨rfl, rfl⟩
                  case measure => simp [intOf]; omega
                · (go_simp)
                  refine hK.out _ _ ?_ (fun hHeld => ?_)
                  · ((try dsimp only); go_keep)
                  clear hK K
                  refine wpAnyH_ready (rs := [4]) (by kernel_rfl) (by simp) ?_
                  refine AllReadyH.cons rfl (fun K hK => ?_) AllReadyH.nil
                  (go_simp)
                  refine hK.out _ _ ?_ (fun hHeld => ?_)
                  · ((try dsimp only); go_keep)
                  clear hK K
                  refine wpAnyH_ready (rs := [16]) (by kernel_rfl) (by simp) ?_
                  refine AllReadyH.cons rfl (fun K hK => ?_) AllReadyH.nil
                  (refine step_append_one (S := shE) Try.infoE rfl (by omega) rfl (.tmp 59) (.tmp 70) 91 rfl Try.underlying91 (w.heap.size + 2) (.slice va k vc) XS ⟨Eh, 0, 0, true⟩ hok Wl.heap.size 1 (by simp [Act.eval, Act.put]) (by simp [Act.eval, Act.put]) ((hOl.alloc (.cells #[.int .u64 Eh, .int .i64 0, .int .i64 0, .bool true] 97)).drew) (en_new Wl ⟨Eh, 0, 0, true⟩ 97 _ rfl) hlen1 hBB1 ?_; intro va' vc' w' hO' hg'; have hgr := gb_trans (gb_below (Value.slice va k vc).ownBlock (((Below.refl _ Wl).alloc (Nat.le_refl _) (.cells #[.int .u64 Eh, .int .i64 0, .int .i64 0, .bool true] 97)).drew)) hg'; have y0 := hgr.cell x0 hnx; have y1 := hgr.cell x1 hnx; have y2 := hgr.cell x2 hnx; have y3 := hgr.cell x3 hnx; have y4 := hgr.cell n1 (hne _ hb2); have y5 : w'.frozen? ⟨w.heap.size + 1, 1, none⟩ = false := (World.frozen?_of_block (hgr.block (w.heap.size + 1) hgl (hne _ hb2))).trans q1)
                  refine hK.out _ _ ?_ (fun hHeld => ?_)
                  · ((try dsimp only); go_keep)
                  clear hK K
                  refine wpAnyH_ready (rs := [17]) (by kernel_rfl) (by simp) ?_
                  refine AllReadyH.cons rfl (fun K hK => ?_) AllReadyH.nil
                  (go_simp)
                  refine hK.out _ _ ?_ (fun hHeld => ?_)
                  · ((try dsimp only); go_keep)
                  clear hK K
                  refine wpAnyH_ready (rs := [18]) (by kernel_rfl) (by simp) ?_
                  refine AllReadyH.cons rfl (fun K hK => ?_) AllReadyH.nil
                  (go_simp)
                  refine hK.out _ _ ?_ (fun hHeld => ?_)
                  · ((try dsimp only); go_keep)
                  clear hK K
                  refine wpAnyH_ready (rs := [19]) (by kernel_rfl) (by simp) ?_
                  refine AllReadyH.cons rfl (fun K hK => ?_) AllReadyH.nil
                  (go_simp)
                  refine hK.out _ _ ?_ (fun hHeld => ?_)
                  · ((try dsimp only); go_keep)
                  clear hK K
                  refine wpAnyH_done (by kernel_rfl) ?_ _
                  rw [show (XS ++ [(⟨Eh, 0, 0, true⟩ : En)]).length = k + 1 by simp [hlk]] at hO'
                  have bM2 := (bMl.but hgr (hne _ hb2)).p1 (.slice va' (k + 1) vc')
                  have bD2 := (bDl.but hgr (hne _ (Nat.le_succ _))).far (c := w.heap.size + 1) (o := 1) (by omega) (.slice va' (k + 1) vc')
                  have hO2 := hO'.setBelow (a := ⟨w.heap.size + 1, 1, none⟩) (by show w.heap.size + 1 < _; omega) (.slice va' (k + 1) vc')
                  have hBl' : Below w.heap.size w w' := hBl.grown hgr hBl.size (fun j hj => by have := hlo j hj; omega)
                  have hB2 := below_set (o := 1) hBl' hBl'.size (show w.heap.size ≤ w.heap.size + 1 by omega) (.slice va' (k + 1) vc')
                  have fM2 : ∀ o, (w'.setCell ⟨w.heap.size + 1, 1, none⟩ (.slice va' (k + 1) vc')).frozen? ⟨w.heap.size + 1, o, none⟩ = false := fun o => by
                    rw [World.frozen?_setCell, World.frozen?_of_block (hgr.block (w.heap.size + 1) hgl (hne _ hb2))]; exact fMl o
                  clear y0 y1 y2 y3 y4 y5 x0 x1 x2 x3 n0 n1 n2 q1
                  go_wp2
                  go_roundw
                  case rel =>
                    refine ⟨k + 1, .slice va' (k + 1) vc', by omega, by go_num, ?_, ?_, fM2, bD2, hB2, ?_⟩
                    · have e : livN (de.take (k + 1)) = L := by rw [Htk.out, HL.out]; simp [livN, List.countP_append]
                      rw [e]
                      first | exact bM2 | (push_cast; exact bM2)
                    · rw [Htk.out]; exact hO2
                    · rw [Htk.out]; intro e he hg
                      rcases List.mem_append.1 he with h | h
                      · exact hA e h hg
                      · simp at h; subst h; exact ⟨rfl, rfl⟩
                  case measure => simp [intOf]; omega
              · obtain rfl : R = false := by rw [← HR.out]; exact okD_false (fun h => hz' (h.2.2.1 _ hmem rfl).2)
                have hv2 : (Ev == 0) = false := by simpa using hz'
                have hNo : ¬ OkD ⟨ds, de, dl⟩ := fun h => hz' (h.2.2.1 _ hmem rfl).2
                clear hz' HR
                go_wp2
                exact bodyPost_ret (v := .tuple #[.pointer (some ⟨w.heap.size + 1, 0, none⟩), .bool false]) (by simp [results, Try.results51, go_sem]) rfl ⟨_, rfl, Nat.le_succ _, hBr.alloc hBr.size _, fun h => absurd h hNo⟩
            · obtain rfl : R = false := by rw [← HR.out]; exact okD_false (fun h => hz (h.2.2.1 _ hmem rfl).1)
              have hv1 : (Ek == 0) = false := by simpa using hz
              have hNo : ¬ OkD ⟨ds, de, dl⟩ := fun h => hz (h.2.2.1 _ hmem rfl).1
              clear hz HR
              go_wp2
              exact bodyPost_ret (v := .tuple #[.pointer (some ⟨w.heap.size + 1, 0, none⟩), .bool false]) (by simp [results, Try.results51, go_sem]) rfl ⟨_, rfl, Nat.le_succ _, hBr.alloc hBr.size _, fun h => absurd h hNo⟩
        · obtain rfl : k = de.length := by omega
          rw [List.take_length] at hA hO bM
          obtain ⟨m, h3, h16, hmm⟩ := HS.out
          have hsz := sz_le h16
          rw [← hmm] at hsz
          have hpos : 0 < ds.length := by rw [hmm]; exact Nat.two_pow_pos m
          have hlo := hO.lt
          obtain ⟨va, vc, hv⟩ := hO.form
          subst hv
          have HLay := lay_any (w.heap.size + 1) ds.length _ _ _ de wr ⟨m, h16, hmm⟩ (by omega) bM hfM hO.rd (fun a l c e => by
            intro e2
            have := hlo a.block (by simp at e; obtain ⟨rfl, _, _⟩ := e; rfl)
            omega)
          obtain ⟨hgM, m0, m1, m2⟩ := id bM
          obtain ⟨-, p0, p1, p2⟩ := id bDr
          have H1 := h1.keep hBr
          have Hmm : Hid (ds.length = 2 ^ m) := hmm
          clear hmm hc1 hc2 HSz
          obtain ⟨L, hL⟩ : ∃ L, L = livN de := ⟨_, rfl⟩
          rw [← hL] at bM HLay m2
          have HL : Hid (L = livN de) := hL
          clear hL
          go_wp2_with (go_at_call 67; refine HLay.mono ?_; rintro e w2 ⟨rfl, bb, hbb, bM2, fM2, oS2, hg2⟩)
          have bD2 := bDr.but hg2 (by simp)
          have hB2 : Below w.heap.size w w2 := hBr.grown hg2 hBr.size (fun j hj => by cases hj; exact Nat.le_succ _)
          have hO2 := hO.but hg2 (.inr (fun e => by have := hlo _ e; omega))
          have H1' := h1.keep hB2
          have hz2 := hB2.size
          have hgr2 := hg2.size
          clear HLay bM bDr hBr hO hfM H1 m0 m1 m2 p0 p1 p2 hg2
          obtain ⟨-, m0, m1, m2⟩ := id bM2
          obtain ⟨-, p0, p1, p2⟩ := id bD2
          have hOS : ∀ W, Below w2.heap.size w2 W → Own W bb (.slice (some ⟨bb, 0, none⟩) ds.length ds.length) (tabOf ds.length de) := fun W h => oS2.keep h
          have HEq := fun W h h' => equal_any (.slice (some ⟨bb, 0, none⟩) ds.length ds.length) (.slice a1 ds.length c1) (tabOf ds.length de) ds W h h'
          have HNm := fun W hB hE => names_any (w.heap.size + 1) (.slice (some ⟨bb, 0, none⟩) ds.length ds.length) (.slice va de.length vc) (.int .i64 L) de W hB hE (by omega)
          have HAl := fun v W h => allUnlike_any v (lv de) W h (by
            have h1 : (lv de).length ≤ de.length := by unfold lv; rw [List.length_map]; exact List.length_filter_le _ _
            omega)
          by_cases hLd : (L : Int) = dl
          · obtain rfl : dl = (L : Int) := hLd.symm
            clear hLd
            by_cases hT : tabOf ds.length de = ds
            · have HEq' : ∀ W, Rd W (.slice (some ⟨bb, 0, none⟩) ds.length ds.length) (tabOf ds.length de) → Rd W (.slice a1 ds.length c1) ds → Calls Try.prog 72 #[.slice (some ⟨bb, 0, none⟩) ds.length ds.length, .slice a1 ds.length c1] W fun e w' => e = .returned (.bool true) ∧ Below W.heap.size W w' := fun W h h' => by
                have := HEq W h h'; rwa [decide_eq_true hT] at this
              have HT : Hid (tabOf ds.length de = ds) := hT
              clear HEq hT
              by_cases hN : (lv de).Nodup
              · have HAl' : ∀ v W, RdG shN W v (lv de) → Calls Try.prog 73 #[v] W fun e w' => e = .returned (.bool true) ∧ Below W.heap.size W w' := fun v W h => by
                  have := HAl v W h; rwa [decide_eq_true hN] at this
                have HN : Hid ((lv de).Nodup) := hN
                clear HAl hN
                obtain rfl : R = true := by
                  rw [← HR.out]; exact okD_true ⟨HS.out, hE, hA, by show (L : Int) = _; rw [HL.out], HT.out.symm, HN.out⟩
                clear HR
                go_region_held3 (fun W => W.cell? ⟨w.heap.size + 1, 0, none⟩ = some (.slice (some ⟨bb, 0, none⟩) ds.length ds.length) ∧ W.cell? ⟨w.heap.size + 1, 2, none⟩ = some (.int .i64 L) ∧ W.cell? ⟨w.heap.size, 0, none⟩ = some (.slice a1 ds.length c1) ∧ W.cell? ⟨w.heap.size, 2, none⟩ = some (.int .i64 (L : Int))) (go_keep) (first | (go_at_call 72; refine (HEq' _ oS2.drew.rd H1'.drew).mono ?_; rintro e w3 ⟨rfl, hB3⟩; have y0 := keepc hB3 m0; have y1 := keepc hB3 m2; have y2 := keepc hB3 p0; have y3 := keepc hB3 p2; have V3 := hB2.drew.trans (hB3.mono hz2)) | (go_at_call 74; refine (HNm _ (bM2.drew.keep hB3) (hO2.drew.keep hB3).rd).mono ?_; rintro e w4 ⟨vN, rfl, oN, hB4⟩; obtain ⟨na, nc, hvN⟩ := oN.form; subst hvN; have z0 := (hB4.cell (p := ⟨w.heap.size + 1, 0, none⟩) (World.block_lt_of_cell? _ _ y0)).trans y0; have z1 := (hB4.cell (p := ⟨w.heap.size + 1, 2, none⟩) (World.block_lt_of_cell? _ _ y1)).trans y1; have z2 := (hB4.cell (p := ⟨w.heap.size, 0, none⟩) (World.block_lt_of_cell? _ _ y2)).trans y2; have z3 := (hB4.cell (p := ⟨w.heap.size, 2, none⟩) (World.block_lt_of_cell? _ _ y3)).trans y3; have V4 := V3.trans (hB4.mono V3.size)) | (go_at_call 73; refine (HAl' _ _ oN.rd).mono ?_; rintro e w5 ⟨rfl, hB5⟩; have u0 := (hB5.cell (p := ⟨w.heap.size + 1, 0, none⟩) (World.block_lt_of_cell? _ _ z0)).trans z0; have u1 := (hB5.cell (p := ⟨w.heap.size + 1, 2, none⟩) (World.block_lt_of_cell? _ _ z1)).trans z1; have u2 := (hB5.cell (p := ⟨w.heap.size, 0, none⟩) (World.block_lt_of_cell? _ _ z2)).trans z2; have u3 := (hB5.cell (p := ⟨w.heap.size, 2, none⟩) (World.block_lt_of_cell? _ _ z3)).trans z3; have V5 := V4.trans (hB5.mono V4.size)))
                go_wp2_with fail
                have B5 : Below w2.heap.size w2 w5 := ((Below.refl _ w2).drew.trans hB3).trans ((hB4.mono hB3.size).trans (hB5.mono (Nat.le_trans hB3.size hB4.size)))
                refine bodyPost_ret (v := .tuple #[.pointer (some ⟨w.heap.size + 1, 0, none⟩), .bool true]) (by simp [results, Try.results51, go_sem]) rfl ⟨_, rfl, Nat.le_succ _, V5, fun _ => ⟨.slice (some ⟨bb, 0, none⟩) ds.length ds.length, .slice va de.length vc, ?_, ?_, (hO2.keep B5), ?_, fun o => ?_⟩⟩
                · exact bM2.keep B5
                · have := (oS2.keep B5).mono (show w.heap.size + 1 + 1 ≤ bb by omega); rw [HT.out] at this; exact this
                · right; intro e; have := hlo bb e.symm; omega
                · rw [B5.frozen (p := ⟨w.heap.size + 1, o, none⟩) bM2.1]; exact fM2 o
              · have HAl' : ∀ v W, RdG shN W v (lv de) → Calls Try.prog 73 #[v] W fun e w' => e = .returned (.bool false) ∧ Below W.heap.size W w' := fun v W h => by
                  have := HAl v W h; rwa [decide_eq_false hN] at this
                have hNo : ¬ OkD ⟨ds, de, (L : Int)⟩ := fun h => hN h.2.2.2.2.2
                clear HAl hN
                obtain rfl : R = false := by rw [← HR.out]; exact okD_false hNo
                clear HR
                go_region_held3 (fun W => W.cell? ⟨w.heap.size + 1, 0, none⟩ = some (.slice (some ⟨bb, 0, none⟩) ds.length ds.length) ∧ W.cell? ⟨w.heap.size + 1, 2, none⟩ = some (.int .i64 L) ∧ W.cell? ⟨w.heap.size, 0, none⟩ = some (.slice a1 ds.length c1) ∧ W.cell? ⟨w.heap.size, 2, none⟩ = some (.int .i64 (L : Int))) (go_keep) (first | (go_at_call 72; refine (HEq' _ oS2.drew.rd H1'.drew).mono ?_; rintro e w3 ⟨rfl, hB3⟩; have y0 := keepc hB3 m0; have y1 := keepc hB3 m2; have y2 := keepc hB3 p0; have y3 := keepc hB3 p2; have V3 := hB2.drew.trans (hB3.mono hz2)) | (go_at_call 74; refine (HNm _ (bM2.drew.keep hB3) (hO2.drew.keep hB3).rd).mono ?_; rintro e w4 ⟨vN, rfl, oN, hB4⟩; obtain ⟨na, nc, hvN⟩ := oN.form; subst hvN; have z0 := (hB4.cell (p := ⟨w.heap.size + 1, 0, none⟩) (World.block_lt_of_cell? _ _ y0)).trans y0; have z1 := (hB4.cell (p := ⟨w.heap.size + 1, 2, none⟩) (World.block_lt_of_cell? _ _ y1)).trans y1; have z2 := (hB4.cell (p := ⟨w.heap.size, 0, none⟩) (World.block_lt_of_cell? _ _ y2)).trans y2; have z3 := (hB4.cell (p := ⟨w.heap.size, 2, none⟩) (World.block_lt_of_cell? _ _ y3)).trans y3; have V4 := V3.trans (hB4.mono V3.size)) | (go_at_call 73; refine (HAl' _ _ oN.rd).mono ?_; rintro e w5 ⟨rfl, hB5⟩; have u0 := (hB5.cell (p := ⟨w.heap.size + 1, 0, none⟩) (World.block_lt_of_cell? _ _ z0)).trans z0; have u1 := (hB5.cell (p := ⟨w.heap.size + 1, 2, none⟩) (World.block_lt_of_cell? _ _ z1)).trans z1; have u2 := (hB5.cell (p := ⟨w.heap.size, 0, none⟩) (World.block_lt_of_cell? _ _ z2)).trans z2; have u3 := (hB5.cell (p := ⟨w.heap.size, 2, none⟩) (World.block_lt_of_cell? _ _ z3)).trans z3; have V5 := V4.trans (hB5.mono V4.size)))
                go_wp2_with fail
                exact bodyPost_ret (v := .tuple #[.pointer (some ⟨w.heap.size + 1, 0, none⟩), .bool false]) (by simp [results, Try.results51, go_sem]) rfl ⟨_, rfl, Nat.le_succ _, V5, fun h => absurd h hNo⟩
            · have HEq' : ∀ n, Calls Try.prog 72 #[.slice (some ⟨bb, 0, none⟩) ds.length ds.length, .slice a1 ds.length c1] (w2.drewN n) fun e w' => e = .returned (.bool false) ∧ ∃ m, w' = (w2.drewN n).drewN m := fun n => by
                have := equal_q (.slice (some ⟨bb, 0, none⟩) ds.length ds.length) (.slice a1 ds.length c1) (tabOf ds.length de) ds (w2.drewN n) oS2.rd H1'; rwa [decide_eq_false hT] at this
              have hNo : ¬ OkD ⟨ds, de, (L : Int)⟩ := fun h => hT h.2.2.2.2.1.symm
              clear HEq hT
              obtain rfl : R = false := by rw [← HR.out]; exact okD_false hNo
              clear HR
              go_quiet (first | (go_at_call 72; refine Calls.quiet_of (HEq' _)))
              go_wp2_with fail
              exact bodyPost_ret (v := .tuple #[.pointer (some ⟨w.heap.size + 1, 0, none⟩), .bool false]) (by simp [results, Try.results51, go_sem]) rfl ⟨_, rfl, Nat.le_succ _, below_dn hB2 _, fun h => absurd h hNo⟩
          · have e1 : ((L : Int) == dl) = false := by simpa using hLd
            have hNo : ¬ OkD ⟨ds, de, dl⟩ := fun h => hLd (by have h4 : dl = livN de := h.2.2.2.1; rw [h4, HL.out])
            clear hLd
            obtain rfl : R = false := by rw [← HR.out]; exact okD_false hNo
            clear HR
            go_quiet (fail)
            go_wp2_with fail
            exact bodyPost_ret (v := .tuple #[.pointer (some ⟨w.heap.size + 1, 0, none⟩), .bool false]) (by simp [results, Try.results51, go_sem]) rfl ⟨_, rfl, Nat.le_succ _, below_dn hB2 _, fun h => absurd h hNo⟩
    · have hE' : (ds.length : Int) * 2 / 3 < (de.length : Int) := by omega
      have hNo : ¬ OkD ⟨ds, de, dl⟩ := fun h => hE h.2.1
      obtain rfl : R = false := by rw [← hR]; exact okD_false hNo
      clear hR hS hE hc1 hc2
      go_region_held3 (fun W => W.cell? ⟨w.heap.size, 0, none⟩ = some (.slice a1 ds.length c1) ∧ W.cell? ⟨w.heap.size, 1, none⟩ = some (.slice a2 de.length c2)) (go_keep) (first | (go_at_call 70; refine (HSz _).mono ?_; rintro e w2 ⟨rfl, rfl⟩) | (go_at_call 71; refine (roomOf_any _ _ hl1).mono ?_; rintro e w2 ⟨rfl, rfl⟩))
      go_wp2_with fail
      exact bodyPost_ret (v := .tuple #[.pointer (some ⟨w.heap.size + 1, 0, none⟩), .bool false]) (by simp [results, Try.results51, go_sem]) rfl ⟨_, rfl, Nat.le_succ _, (((Below.refl _ w).alloc (Nat.le_refl _) _).alloc (by simp) _).drew, fun h => absurd h hNo⟩
  · simp only [hS, decide_false] at HSz
    have hNo : ¬ OkD ⟨ds, de, dl⟩ := fun h => hS h.1
    obtain rfl : R = false := by rw [← hR]; exact okD_false hNo
    clear hR hS hc1 hc2
    have bD := (Box3.new w (.slice a1 ds.length c1) (.slice a2 de.length c2) (.int .i64 dl) 25).alloc (.cells #[.slice none 0 0, .slice none 0 0, .int .i64 0] 93)
    obtain ⟨-, k0, k1, k2⟩ := id bD
    go_enter Try.func51, Try.ntmps51
    go_wp2_with fail
    go_quiet (first | (go_at_call 70; refine Calls.quiet_of_same (HSz _)))
    go_wp2_with fail
    exact bodyPost_ret (v := .tuple #[.pointer (some ⟨w.heap.size + 1, 0, none⟩), .bool false]) (by simp [results, Try.results51, go_sem]) rfl ⟨_, rfl, Nat.le_succ _, below_dn (((Below.refl _ w).alloc (Nat.le_refl _) _).alloc (by simp) _) _, fun h => absurd h hNo⟩

theorem okI_any (v : Value) (d : Dt) (w : World) (hr : RdD w v d) (hb : -9223372036854775808 ≤ d.l ∧ d.l < 9223372036854775808) :
    Calls Try.prog 19 #[v] w fun e w' => e = .returned (.bool (okD d)) ∧ Below w.heap.size w w' := by
  obtain ⟨a1, n1, c1, a2, n2, c2, e0⟩ := hr.form
  subst e0
  generalize hR : okD d = R
  go_enter Try.func19, Try.ntmps19
  go_wp2_with fail
  refine (orderedOf_any _ d _ (hr.alloc _) hb).mono ?_
  rintro e w1 ⟨g, rfl, hg, hB1, -⟩
  rw [hR]
  go_wp2
  go_ret
  exact ⟨rfl, ((Below.refl _ w).alloc (Nat.le_refl _) _).trans (hB1.mono (by simp))⟩
end Go.Proofs.Ytnpjlmnhailipaa
