import Derived.Test.YtfbibbjiomfncaaClA
namespace Go.Proofs.Ytfbibbjiomfncaa
open Go.RowKit
set_option linter.unusedVariables false
set_option linter.unusedSimpArgs false

set_option maxRecDepth 100000 in
theorem eqA_any (x y : At) (w : World) : Calls Try.prog 58 #[x.val, y.val] w fun e w' => e = .returned (.bool (decide (x = y))) ∧ Below w.heap.size w w' := by
  obtain ⟨h, k, v⟩ := x
  obtain ⟨h', k', v'⟩ := y
  have bW : Below w.heap.size w ((w.alloc (Obj.cells #[.string h, .int .i64 k, .int .i64 v] 58)).alloc (Obj.cells #[.string h', .int .i64 k', .int .i64 v'] 58)) := ((Below.refl _ w).alloc (Nat.le_refl _) _).alloc (by simp) _
  simp only [At.val, At.mk.injEq]
  by_cases e1 : h = h'
  · by_cases e2 : k = k'
    · by_cases e3 : v = v'
      · subst e1 e2 e3
        go_enter Try.func58, Try.ntmps58
        go_wp2
        all_goals (go_ret; exact ⟨by simp, bW⟩)
      · subst e1 e2
        go_enter Try.func58, Try.ntmps58
        go_wp2
        go_ret; exact ⟨by simp [e3], bW⟩
    · subst e1
      go_enter Try.func58, Try.ntmps58
      go_wp2
      go_ret; exact ⟨by simp [e2], bW⟩
  · have hS := str_ne e1
    go_enter Try.func58, Try.ntmps58
    go_wp2
    go_ret; exact ⟨by simp [e1], bW⟩

set_option maxRecDepth 100000 in
theorem eqAS_any (v u : Value) (xs ys : List At) (w : World) (hx : RdA w v xs) (hy : RdA w u ys) :
    Calls Try.prog 30 #[v, u] w fun e w' => e = .returned (.bool (decide (xs = ys))) ∧ Below w.heap.size w w' := by
  obtain ⟨a, cap, rfl, hlx, hzx, hnx, hcx⟩ := hx
  obtain ⟨a', cap', rfl, hly, hzy, hny, hcy⟩ := hy
  by_cases hlen : xs.length = ys.length
  · go_enter Try.func30, Try.ntmps30
    go_wp2
    go_loopw [5] (fun i wr => ∃ k : Nat, k ≤ xs.length ∧ i = .int .i64 k ∧ xs.take k = ys.take k ∧ Below w.heap.size w wr)
      (fun i _ => xs.length - (intOf i).toNat)
    case atStart => exact ⟨0, Nat.zero_le _, rfl, by simp, Below.refl _ _⟩
    case round =>
      obtain ⟨k, hk, rfl, hEq, hBr⟩ := hrel
      by_cases hlt : k < xs.length
      · obtain ⟨b, off, rfl, hb, hcell⟩ := hcx (by omega)
        obtain ⟨b', off', rfl, hb', hcell'⟩ := hcy (by omega)
        obtain ⟨c0, c1, c2⟩ := RdA.at (fun k hk j hj => (hBr.cell (p := ⟨b, _, none⟩) hb).trans (hcell k hk j hj)) k hlt
        have hlt' : k < ys.length := by omega
        obtain ⟨d0, d1, d2⟩ := RdA.at (fun k hk j hj => (hBr.cell (p := ⟨b', _, none⟩) hb').trans (hcell' k hk j hj)) k hlt'
        have hA := hEq
        have HL : Hid (xs.length = ys.length) := hlen
        clear hcell hcell' hcx hcy hEq hlen
        generalize hX : xs[k] = X at *
        generalize hY : ys[k] = Y at *
        have hE := fun W => eqA_any X Y W
        simp only [At.val] at hE
        go_wp2
        go_region_with (go_at_call 58; refine (hE _).mono ?_; rintro e w2 ⟨rfl, hB⟩)
        all_goals
          by_cases hXY : X = Y
          · rw [decide_eq_true hXY]
            go_wp2
            go_roundw
            case rel =>
              refine ⟨k + 1, by omega, by go_num, ?_, hBr.drew.trans (hB.mono hBr.size)⟩
              rw [List.take_succ_eq_append_getElem hlt, List.take_succ_eq_append_getElem hlt', hA, hX, hY, hXY]
            case measure => simp [intOf]; omega
          · rw [decide_eq_false hXY]
            go_wp2
            go_ret
            refine ⟨?_, hBr.drew.trans (hB.mono hBr.size)⟩
            have : xs ≠ ys := fun h => hXY (by subst h; rw [← hX, ← hY])
            simp [this]
      · go_wp2
        go_ret
        refine ⟨?_, hBr⟩
        rw [List.take_of_length_le (by omega), List.take_of_length_le (by omega)] at hEq
        simp [hEq]
  · have hne : ((xs.length : Int) == (ys.length : Int)) = false := by simp; omega
    go_enter Try.func30, Try.ntmps30
    go_wp2
    go_ret
    have : xs ≠ ys := fun h => hlen (by rw [h])
    exact ⟨by simp [this], Below.refl _ _⟩

set_option maxRecDepth 100000 in
theorem eqK_any (p q : Sp) (x y : Cl) (w : World) (hx : RdK w p x) (hy : RdK w q y) :
    Calls Try.prog 43 #[.agg #[p.s1, p.s2], .agg #[q.s1, q.s2]] w fun e w' => e = .returned (.bool (decide (x = y))) ∧ Below w.heap.size w w' := by
  obtain ⟨xb, xa⟩ := x
  obtain ⟨yb, ya⟩ := y
  obtain ⟨a1, n1, c1, a2, n2, c2⟩ := p
  obtain ⟨a3, n3, c3, a4, n4, c4⟩ := q
  obtain ⟨h1, h2⟩ := hx
  obtain ⟨g1, g2⟩ := hy
  simp only [Sp.s1, Sp.s2] at *
  have bW : Below w.heap.size w ((w.alloc (.cells #[.slice a1 n1 c1, .slice a2 n2 c2] 54)).alloc (.cells #[.slice a3 n3 c3, .slice a4 n4 c4] 54)) := ((Below.refl _ w).alloc (Nat.le_refl _) _).alloc (by simp) _
  have bX := (Box.new w (.slice a1 n1 c1) (.slice a2 n2 c2) 54).alloc (.cells #[.slice a3 n3 c3, .slice a4 n4 c4] 54)
  have bY := Box.new (w.alloc (.cells #[.slice a1 n1 c1, .slice a2 n2 c2] 54)) (.slice a3 n3 c3) (.slice a4 n4 c4) 54
  simp only [World.size_alloc] at bY
  have hQ := fun W h h' => eqS_any (.slice a1 n1 c1) (.slice a3 n3 c3) xb yb W h h'
  have hR := fun W h h' => eqAS_any (.slice a2 n2 c2) (.slice a4 n4 c4) xa ya W h h'
  go_enter Try.func43, Try.ntmps43
  go_wp2_with fail
  refine (hQ _ (h1.keep bW) (g1.keep bW)).mono ?_
  rintro e w1 ⟨rfl, hB1⟩
  have hW1 := bW.trans (hB1.mono bW.size)
  have bX1 := bX.keep hB1
  have bY1 := bY.keep hB1
  have r2 := (h2.keep bW).keep hB1
  have q2 := (g2.keep bW).keep hB1
  clear hB1 bX bY bW h1 g1 h2 g2 hQ
  by_cases E1 : xb = yb
  · rw [decide_eq_true E1]
    obtain ⟨-, k0, k1⟩ := id bX1
    obtain ⟨-, k3, k4⟩ := id bY1
    go_wp2_with fail
    refine (hR _ r2 q2).mono ?_
    rintro e w2 ⟨rfl, hB2⟩
    have hW2 := hW1.trans (hB2.mono hW1.size)
    clear hB2 k0 k1 k3 k4 bX1 bY1 hR
    by_cases E2 : xa = ya
    · rw [decide_eq_true E2]
      go_wp2
      go_ret
      exact ⟨by simp [E1, E2], hW2⟩
    · rw [decide_eq_false E2]
      go_wp2
      go_ret
      exact ⟨by simp [E2], hW2⟩
  · rw [decide_eq_false E1]
    go_wp2
    go_ret
    exact ⟨by simp [E1], hW1⟩

set_option maxRecDepth 100000 in
theorem eqC_any (v u : Value) (cs : List Cl) (w : World) (hx : RdC w v cs) (hy : RdC w u cs) :
    Calls Try.prog 14 #[v, u] w fun e w' => e = .returned (.bool true) ∧ Below w.heap.size w w' := by
  obtain ⟨ps, ⟨a, cap, rfl, hlx, hzx, hnx, hcx⟩, hpl, hK⟩ := hx
  obtain ⟨qs, ⟨a', cap', rfl, hly, hzy, hny, hcy⟩, hql, hJ⟩ := hy
  have HP : Hid (ps.length = cs.length) := hpl
  have HQ : Hid (qs.length = cs.length) := hql
  rw [hpl] at hlx
  rw [hql] at hly
  rw [hpl, hql]
  clear hpl hql
  go_enter Try.func14, Try.ntmps14
  go_wp2
  go_loopw [5] (fun i wr => ∃ k : Nat, k ≤ cs.length ∧ i = .int .i64 k ∧ Below w.heap.size w wr)
    (fun i _ => cs.length - (intOf i).toNat)
  case atStart => exact ⟨0, Nat.zero_le _, rfl, Below.refl _ _⟩
  case round =>
    obtain ⟨k, hk, rfl, hBr⟩ := hrel
    by_cases hlt : k < cs.length
    · have hp : k < ps.length := by rw [HP.out]; exact hlt
      have hq : k < qs.length := by rw [HQ.out]; exact hlt
      obtain ⟨b, off, rfl, hb, hcell⟩ := hcx (by omega)
      obtain ⟨b', off', rfl, hb', hcell'⟩ := hcy (by omega)
      obtain ⟨c0, c1⟩ := RdP.at (fun k hk j hj => (hBr.cell (p := ⟨b, _, none⟩) hb).trans (hcell k hk j hj)) k hp
      obtain ⟨d0, d1⟩ := RdP.at (fun k hk j hj => (hBr.cell (p := ⟨b', _, none⟩) hb').trans (hcell' k hk j hj)) k hq
      have kx := (hK k hp hlt).keep hBr
      have ky := (hJ k hq hlt).keep hBr
      have hE := fun W (h : Below wr.heap.size wr W) => eqK_any ps[k] qs[k] cs[k] cs[k] W (kx.keep h) (ky.keep h)
      have hED : ∀ W (h : Below wr.heap.size wr W), Calls Try.prog 43 #[.agg #[ps[k].s1, ps[k].s2], .agg #[qs[k].s1, qs[k].s2]] W fun e w' => e = .returned (.bool true) ∧ Below W.heap.size W w' := fun W h => (hE W h).mono (by simp)
      clear hcell hcell' hcx hcy hE hK hJ kx ky hzx hzy
      generalize ps[k] = P at *
      generalize qs[k] = Q at *
      obtain ⟨a1, n1, c1', a2, n2, c2⟩ := P
      obtain ⟨a3, n3, c3, a4, n4, c4⟩ := Q
      simp only [Sp.s1, Sp.s2] at *
      go_wp2
      go_region_with (go_at_call 43; refine (hED _ (Below.refl _ _).drew).mono ?_; rintro e w2 ⟨rfl, hB⟩)
      all_goals
        go_wp2
        go_roundw
        case rel => exact ⟨k + 1, by omega, by go_num, hBr.drew.trans (hB.mono hBr.size)⟩
        case measure => simp [intOf]; omega
    · go_wp2
      go_ret
      exact ⟨rfl, hBr⟩
end Go.Proofs.Ytfbibbjiomfncaa
