import Derived.Test.YtfbibbjiomfncaaClA
namespace Go.Proofs.Ytfbibbjiomfncaa
open Go.RowKit
set_option linter.unusedVariables false
set_option linter.unusedSimpArgs false

theorem szI_any (a : Option Addr) (n c : Nat) (l : Int) (w : World) (hn : n ≤ 9223372036854775807) (h0 : 0 ≤ l) (h1 : l ≤ 1048576) :
    Calls Try.prog 64 #[.slice a n c, .int .i64 l] w fun e w' => ∃ x : Int, e = .returned (.int .i64 x) ∧ ((x = -1) ∨ (0 ≤ x ∧ x ≤ 1048576 ∧ n ≤ 1048576)) ∧ w' = w := by
  have hb0 : -9223372036854775808 ≤ l - n := by omega
  have hb1 : l - n < 9223372036854775808 := by omega
  by_cases h : l - n < 0
  · go_enter Try.func64, Try.ntmps64
    go_wp2
    go_ret
    exact ⟨-1, rfl, .inl rfl, rfl⟩
  · go_enter Try.func64, Try.ntmps64
    go_wp2
    go_ret
    exact ⟨_, rfl, .inr ⟨by omega, by omega, by omega⟩, rfl⟩

set_option maxRecDepth 100000 in
theorem szA_any (x : At) (l : Int) (w : World) (hx : x.ok) (h0 : 0 ≤ l) (h1 : l ≤ 1048576) :
    Calls Try.prog 50 #[x.val, .int .i64 l] w fun e w' => ∃ x : Int, e = .returned (.int .i64 x) ∧ ((x = -1) ∨ (0 ≤ x ∧ x ≤ 1048576)) ∧ Below w.heap.size w w' := by
  obtain ⟨n, k, v⟩ := x
  obtain ⟨hn, -, -⟩ := hx
  simp only at hn
  unfold maxLen at hn
  have hb0 : -9223372036854775808 ≤ l - n.size := by omega
  have hb1 : l - n.size < 9223372036854775808 := by omega
  simp only [At.val]
  have bW : Below w.heap.size w (w.alloc (Obj.cells #[.string n, .int .i64 k, .int .i64 v] 71)) := (Below.refl _ w).alloc (Nat.le_refl _) _
  by_cases h : l - n.size < 0
  · go_enter Try.func50, Try.ntmps50
    go_wp2
    go_ret
    exact ⟨-1, rfl, .inl rfl, bW⟩
  · go_enter Try.func50, Try.ntmps50
    go_wp2
    go_ret
    exact ⟨_, rfl, .inr ⟨by omega, by omega⟩, bW⟩

set_option maxRecDepth 100000 in
theorem szAS_any (v : Value) (xs : List At) (l : Int) (w : World) (hr : Ub w v xs.length (RdA w v xs)) (h0 : 0 ≤ l) (h1 : l ≤ 1048576) :
    Calls Try.prog 26 #[v, .int .i64 l] w fun e w' => ∃ x : Int, e = .returned (.int .i64 x) ∧ ((x = -1) ∨ (0 ≤ x ∧ x ≤ 1048576 ∧ xs.length ≤ 1048576)) ∧ Below w.heap.size w w' := by
  obtain ⟨⟨a, c, rfl⟩, hn, hr⟩ := hr
  have hb0 : -9223372036854775808 ≤ l - xs.length := by omega
  have hb1 : l - xs.length < 9223372036854775808 := by omega
  by_cases h : l - xs.length < 0
  · go_enter Try.func26, Try.ntmps26
    go_wp2
    go_ret
    exact ⟨-1, rfl, .inl rfl, Below.refl _ _⟩
  · have hlen : xs.length ≤ 1048576 := by omega
    obtain ⟨a', cap', ea, hl, hz, hn0, hc⟩ := hr hlen
    simp only [Value.slice.injEq, true_and] at ea
    obtain ⟨rfl, rfl⟩ := ea
    go_enter Try.func26, Try.ntmps26
    go_wp2
    go_loopw [1, 5] (fun q i wr => ∃ (k : Nat) (x : Int), k ≤ xs.length ∧ q = .int .i64 x ∧ 0 ≤ x ∧ x ≤ 1048576 ∧ i = .int .i64 k ∧ Below w.heap.size w wr)
      (fun _ i _ => xs.length - (intOf i).toNat)
    case atStart => exact ⟨0, _, Nat.zero_le _, rfl, by omega, by omega, rfl, Below.refl _ _⟩
    case round =>
      obtain ⟨k, x, hk, rfl, hx0, hx1, rfl, hBr⟩ := hrel
      by_cases hlt : k < xs.length
      · obtain ⟨b, off, rfl, hb, hcell⟩ := hc (by omega)
        obtain ⟨d0, d1, d2⟩ := RdA.at (fun k hk j hj => (hBr.cell (p := ⟨b, _, none⟩) hb).trans (hcell k hk j hj)) k hlt
        have hok : At.ok xs[k] := hz xs[k] (List.getElem_mem hlt)
        have hS := fun W => szA_any xs[k] x W hok hx0 hx1
        clear hcell hc hz hr hok
        generalize xs[k] = E at *
        simp only [At.val] at hS
        go_wp2_with fail
        refine (hS _).mono ?_
        rintro e w2 ⟨y, rfl, hy, hB⟩
        rcases hy with rfl | ⟨hy0, hy1⟩
        · go_wp2
          go_ret
          exact ⟨-1, rfl, .inl rfl, hBr.trans (hB.mono hBr.size)⟩
        · have hyn : ¬ y < 0 := by omega
          go_wp2
          go_roundw
          case rel => exact ⟨k + 1, y, by omega, rfl, hy0, hy1, by go_num, hBr.trans (hB.mono hBr.size)⟩
          case measure => simp [intOf]; omega
      · go_wp2
        go_ret
        exact ⟨x, rfl, .inr ⟨hx0, hx1, hlen⟩, hBr⟩

set_option maxRecDepth 100000 in
theorem szK_any (p : Sp) (c : Cl) (l : Int) (w : World) (hr : UbK w p c) (h0 : 0 ≤ l) (h1 : l ≤ 1048576) :
    Calls Try.prog 37 #[.agg #[p.s1, p.s2], .int .i64 l] w fun e w' => ∃ x : Int, e = .returned (.int .i64 x) ∧ ((x = -1) ∨ (0 ≤ x ∧ x ≤ 1048576 ∧ c.b.length ≤ 1048576 ∧ c.a.length ≤ 1048576)) ∧ Below w.heap.size w w' := by
  obtain ⟨⟨⟨a1, c1, e1⟩, hn1, hr1⟩, hr2⟩ := hr
  obtain ⟨⟨a2, c2, e2⟩, hn2, hR2⟩ := id hr2
  rw [e1, e2]
  rw [e1] at hr1
  rw [e2] at hr2 hR2
  have bW : Below w.heap.size w (w.alloc (.cells #[.slice a1 c.b.length c1, .slice a2 c.a.length c2] 61)) := (Below.refl _ w).alloc (Nat.le_refl _) _
  have bX := Box.new w (.slice a1 c.b.length c1) (.slice a2 c.a.length c2) 61
  generalize hn : c.b.length = n1 at *
  obtain ⟨-, k0, k1⟩ := id bX
  go_enter Try.func37, Try.ntmps37
  go_wp2_with fail
  refine (szI_any _ _ _ _ _ hn1 h0 h1).mono ?_
  rintro e w1 ⟨x, rfl, hx, rfl⟩
  rcases hx with rfl | ⟨hx0, hx1, hx2⟩
  · go_wp2
    go_ret
    exact ⟨-1, rfl, .inl rfl, bW⟩
  · have hxn : ¬ x < 0 := by omega
    have hU : Ub (w.alloc (.cells #[.slice a1 n1 c1, .slice a2 c.a.length c2] 61)) (.slice a2 c.a.length c2) c.a.length (RdA (w.alloc (.cells #[.slice a1 n1 c1, .slice a2 c.a.length c2] 61)) (.slice a2 c.a.length c2) c.a) := ⟨hr2.1, hr2.2.1, fun h => (hr2.2.2 h).keep bW⟩
    have hS := fun x h0 h1 => szAS_any (.slice a2 c.a.length c2) c.a x _ hU h0 h1
    generalize hn2' : c.a.length = n2 at *
    go_wp2_with fail
    refine (hS _ hx0 hx1).mono ?_
    rintro e w2 ⟨y, rfl, hy, hB⟩
    rcases hy with rfl | ⟨hy0, hy1, hy2⟩
    · go_wp2
      go_ret
      exact ⟨-1, rfl, .inl rfl, bW.trans (hB.mono bW.size)⟩
    · have hyn : ¬ y < 0 := by omega
      go_wp2
      go_ret
      exact ⟨y, rfl, .inr ⟨hy0, hy1, by omega, by omega⟩, bW.trans (hB.mono bW.size)⟩

theorem Ub.keep {w w' : World} {v : Value} {n : Nat} {R R' : Prop} (h : Ub w v n R) (hk : R → R') : Ub w' v n R' := ⟨h.1, h.2.1, fun hn => hk (h.2.2 hn)⟩
theorem UbK.keep {w w' : World} {p : Sp} {c : Cl} (h : UbK w p c) (hb : Below w.heap.size w w') : UbK w' p c := ⟨h.1.keep fun r => r.keep hb, h.2.keep fun r => r.keep hb⟩

set_option maxRecDepth 100000 in
theorem szC_any (v : Value) (cs : List Cl) (l : Int) (w : World) (hr : UbC w v cs) (h0 : 0 ≤ l) (h1 : l ≤ 1048576) :
    Calls Try.prog 10 #[v, .int .i64 l] w fun e w' => ∃ x : Int, e = .returned (.int .i64 x) ∧ ((x = -1) ∨ (0 ≤ x ∧ x ≤ 1048576 ∧ RdC w v cs)) ∧ Below w.heap.size w w' := by
  obtain ⟨⟨a, c, rfl⟩, hn, hr⟩ := hr
  have hb0 : -9223372036854775808 ≤ l - cs.length := by omega
  have hb1 : l - cs.length < 9223372036854775808 := by omega
  by_cases h : l - cs.length < 0
  · go_enter Try.func10, Try.ntmps10
    go_wp2
    go_ret
    exact ⟨-1, rfl, .inl rfl, Below.refl _ _⟩
  · have hlen : cs.length ≤ 1048576 := by omega
    obtain ⟨ps, hG, hpl, hK⟩ := hr hlen
    have hG' := hG
    obtain ⟨a', cap', ea, hl, hz, hn0, hc⟩ := hG
    simp only [Value.slice.injEq] at ea
    obtain ⟨rfl, -, rfl⟩ := ea
    have HP : Hid (ps.length = cs.length) := hpl
    clear hpl
    go_enter Try.func10, Try.ntmps10
    go_wp2
    go_loopw [1, 5] (fun q i wr => ∃ (k : Nat) (x : Int), k ≤ cs.length ∧ q = .int .i64 x ∧ 0 ≤ x ∧ x ≤ 1048576 ∧ i = .int .i64 k ∧ (∀ j (h' : j < cs.length), j < k → cs[j].b.length ≤ 1048576 ∧ cs[j].a.length ≤ 1048576) ∧ Below w.heap.size w wr)
      (fun _ i _ => cs.length - (intOf i).toNat)
    case atStart => exact ⟨0, _, Nat.zero_le _, rfl, by omega, by omega, rfl, fun j _ h => absurd h (by omega), Below.refl _ _⟩
    case round =>
      obtain ⟨k, x, hk, rfl, hx0, hx1, rfl, hJ, hBr⟩ := hrel
      by_cases hlt : k < cs.length
      · have hlt' : k < ps.length := by rw [HP.out]; exact hlt
        obtain ⟨b, off, rfl, hb, hcell⟩ := hc (by omega)
        obtain ⟨d0, d1⟩ := RdP.at (fun k hk j hj => (hBr.cell (p := ⟨b, _, none⟩) hb).trans (hcell k hk j hj)) k hlt'
        have hS := szK_any ps[k] cs[k] x wr ((hK k hlt' hlt).keep hBr) hx0 hx1
        have hJ' : cs[k].b.length ≤ 1048576 ∧ cs[k].a.length ≤ 1048576 → ∀ j (h' : j < cs.length), j < k + 1 → cs[j].b.length ≤ 1048576 ∧ cs[j].a.length ≤ 1048576 := fun hx j h' hj => by
          by_cases e : j = k
          · subst e; exact hx
          · exact hJ j h' (by omega)
        clear hcell hc hz hr hK hG' hn0
        generalize cs[k] = C at hS hJ'
        generalize ps[k] = P at *
        obtain ⟨a1, n1, c1, a2, n2, c2⟩ := P
        simp only [Sp.s1, Sp.s2] at *
        go_wp2_with fail
        refine hS.mono ?_
        rintro e w2 ⟨y, rfl, hy, hB⟩
        rcases hy with rfl | ⟨hy0, hy1, hy2⟩
        · go_wp2
          go_ret
          exact ⟨-1, rfl, .inl rfl, hBr.trans (hB.mono hBr.size)⟩
        · have hyn : ¬ y < 0 := by omega
          go_wp2
          go_roundw
          case rel => exact ⟨k + 1, y, by omega, rfl, hy0, hy1, by go_num, hJ' hy2, hBr.trans (hB.mono hBr.size)⟩
          case measure => simp [intOf]; omega
      · go_wp2
        go_ret
        exact ⟨x, rfl, .inr ⟨hx0, hx1, ps, hG', HP.out, fun j h h' => ⟨(hK j h h').1.2.2 (hJ j h' (by omega)).1, (hK j h h').2.2.2 (hJ j h' (by omega)).2⟩⟩, hBr⟩
end Go.Proofs.Ytfbibbjiomfncaa
