import Derived.Test.YthgpacajeaphhaaTwT
import Derived.Deep.RegionHeld3
import Derived.Laws.AppendOwnNone
namespace Go.Proofs.Ythgpacajeaphhaa
open Go.RowKit
set_option linter.unusedVariables false
set_option linter.unusedSimpArgs false

theorem wp_append_none {w : World} {o : Oper} {a : Act} {K : Act → World → Prop} {Q : Exit → Act → World → Prop} (s x : Operand) (t : TypeId)
    (ho : o.op = .call { callee := .builtin .append, args := #[s, x], argTypes := #[t, t] })
    (base : Nat) (e : TypeId) (i : TypeInfo) (size : Nat) (ht : Try.prog.underlying t = some (.slice e)) (hi : Try.prog.info? e = some i)
    (v : Value) (n : Nat) (xs : List Value) (hs : a.eval s = v) (hown : w.ownsRow base e size v n xs) (hx : a.eval x = .slice none 0 0)
    (h : K (a.put o.dst v) w) : Oper.wp Try.prog o a w K Q := by
  have hrun := run_append_owned_none (P := Try.prog) (w := w) base t o.type e i size ht hi v n xs hown
  unfold Oper.wp
  simp [execOp, ho, resolve, invoke, builtin, hs, hx, hrun, Result.andThen]
  exact h

/-- 'append(xs, ys...)' as a step of a region that draws: ints. -/
theorem step_append_rd {w : World} {ops : Array Oper} {o : Oper} {a : Act} {K : Act → World → Prop} {Q : Exit → Act → World → Prop} {E : Prop} (hgd : o.guard = none) (s x : Operand) (t : TypeId)
    (ho : o.op = .call { callee := .builtin .append, args := #[s, x], argTypes := #[t, t] }) (ht : Try.prog.underlying t = some (.slice 49))
    (B : Nat) (v u : Value) (xs ys : List Int) (hs : a.eval s = v) (hx : a.eval x = u) (hown : Own w B v xs) (hr : Rd w u ys) (hlen : xs.length + ys.length ≤ 16777216) (hB : B ≤ w.heap.size)
    (h : ∀ a' c' w', Own w' B (.slice a' (xs ++ ys).length c') (xs ++ ys) → w.grownBy w' v.ownBlock → K (a.put o.dst (.slice a' (xs ++ ys).length c')) w') :
    if Region.wanted o (yielded ops a.tmps) = true then Oper.wp Try.prog o a w K Q else E := by
  have hw : Region.wanted o (yielded ops a.tmps) = true := by simp [Region.wanted, hgd]
  rw [if_pos hw]
  obtain ⟨i0, hi, hz0, hz1, hz2⟩ := info_parts Try.info49
  obtain ⟨ao, cap, rfl, hl, hz, hn0, hc⟩ := hr
  cases ao with
  | none =>
    have h0 : ys = [] := by
      cases ys with
      | nil => rfl
      | cons y r => obtain ⟨b, off, h1, _⟩ := hc (by simp); cases h1
    subst h0
    have hc0 := hn0.2 rfl
    subst hc0
    obtain ⟨a', c', rfl⟩ := hown.form
    refine wp_append_none s x t ho B 49 i0 1 ht hi _ _ _ hs hown.1 hx ?_
    have := h a' c' w (by simpa using hown) (World.grownBy.refl _ _)
    simpa using this
  | some ad =>
    refine wp_append_own w s x t ho B 49 i0 (.int .u32 0) 1 4 ht hi hz0 hz1 hz2 rfl (by decide) v _ _ hs hown.1 ad ys.length cap (ys.map (Value.int .u32)) hx (by simp) ?_ ?_ (by unfold maxLen; omega) (by omega) hB ?_
    · intro j z hj
      have hj' : j < ys.length := by
        rcases Nat.lt_or_ge j ys.length with h | h
        · exact h
        · rw [List.getElem?_eq_none (by simpa using h)] at hj; cases hj
      obtain ⟨b, off, h1, _, hcell⟩ := hc (by omega)
      simp at h1
      subst h1
      have e : (⟨b, off, none⟩ : Addr).add j = ⟨b, off + j, none⟩ := by unfold Addr.add; split <;> simp_all
      rw [e, hcell j hj']
      simp [hj', List.getD] at hj ⊢
      exact hj
    · intro z hz'
      simp at hz'
      obtain ⟨y, _, rfl⟩ := hz'
      rfl
    · intro v' w' h1 h2 _
      have hO : Own w' B v' (xs ++ ys) := ⟨by simpa using h1, by simpa using hlen, hown.2.2.append hz⟩
      obtain ⟨a', c', rfl⟩ := hO.form
      exact h a' c' w' hO h2


theorem Unf.but' {w w' : World} {b : Nat} {row : Option Nat} (h : Unf w b) (hg : w.grownBy w' row) (hne : some b ≠ row) : Unf w' b :=
  ⟨Nat.lt_of_lt_of_le h.1 hg.size, fun o => (World.frozen?_of_block (hg.block b h.1 hne)).trans (h.2 o)⟩
set_option maxHeartbeats 1000000 in
set_option maxRecDepth 100000 in
theorem copy_any (p : Bool) (v : Value) (xs : List Int) (w : World) (hx : Rd w v xs) :
    Calls Try.prog 58 #[.agg #[.bool p, v]] w fun e w' => ∃ a c, e = .returned (.agg #[.bool p, .slice a xs.length c]) ∧ Own w' w.heap.size (.slice a xs.length c) xs ∧ Below w.heap.size w w' := by
  obtain ⟨a, cap, rfl⟩ : ∃ a c, v = .slice a xs.length c := by obtain ⟨a, c, e, _⟩ := hx; exact ⟨a, c, e⟩
  have hl : xs.length ≤ 16777216 := by obtain ⟨_, _, _, h, _⟩ := hx; exact h
  have bA := (Box.new w (.bool p) (.slice a xs.length cap) 26).alloc (Obj.cells #[.bool false, .slice none 0 0] 26)
  have bR := Box.new (w.alloc (Obj.cells #[.bool p, .slice a xs.length cap] 26)) (.bool false) (.slice none 0 0) 26
  have fR := Unf.new (w.alloc (Obj.cells #[.bool p, .slice a xs.length cap] 26)) #[.bool false, .slice none 0 0] 26
  have rx := (hx.alloc (Obj.cells #[.bool p, .slice a xs.length cap] 26)).alloc (Obj.cells #[.bool false, .slice none 0 0] 26)
  have hW := ((Below.refl w.heap.size w).alloc (Nat.le_refl _) (Obj.cells #[.bool p, .slice a xs.length cap] 26)).alloc (by simp) (Obj.cells #[.bool false, .slice none 0 0] 26)
  simp only [World.size_alloc] at bR fR
  generalize hw0 : (w.alloc (Obj.cells #[.bool p, .slice a xs.length cap] 26)).alloc (Obj.cells #[.bool false, .slice none 0 0] 26) = w0 at bA bR fR rx hW
  generalize hXL : xs.length = XL at *
  go_enter Try.func58, Try.ntmps58
  go_upto_region 1 with fail
  clear hw0
  have HXL : Hid (xs.length = XL) := hXL
  clear hXL
  obtain ⟨lA, k0, k1⟩ := id bA
  obtain ⟨lR, r0, r1⟩ := id bR
  have ne1 := World.new_ne w0 _ k0
  have ne2 := World.new_ne w0 _ k1
  have hneA : some w.heap.size ≠ some w0.heap.size := by simp; omega
  have hneR : some (w.heap.size + 1) ≠ some w0.heap.size := by simp; omega
  have hlen : ([] : List Int).length + xs.length ≤ 16777216 := by rw [HXL.out]; simpa using hl
  go_region_held3 (fun W => W.cell? ⟨w.heap.size, 0, none⟩ = some (.bool p) ∧ W.cell? ⟨w.heap.size, 1, none⟩ = some (.slice a XL cap)) (go_keep) (first | (refine step_append_rd rfl (.tmp 5) (.tmp 7) 24 rfl Try.underlying24 w0.heap.size _ _ [] xs rfl rfl (by first | exact Own.empty w0 | exact (Own.empty w0).drew | exact Own.empty w0.drew) (by first | exact rx.alloc _ | exact (rx.alloc _).drew | exact (rx.drew).alloc _) hlen (by first | (simp; done) | (simp; omega)) ?_; intro a1 c1 w1 hO1 hg1; have bA1 : Box w1 w.heap.size (.bool p) (.slice a XL cap) := (by first | exact (bA.alloc _).but hg1 hneA | exact ((bA.alloc _).drew).but hg1 hneA | exact ((bA.drew).alloc _).but hg1 hneA); have bR1 : Box w1 (w.heap.size + 1) (.bool false) (.slice none 0 0) := (by first | exact (bR.alloc _).but hg1 hneR | exact ((bR.alloc _).drew).but hg1 hneR | exact ((bR.drew).alloc _).but hg1 hneR); have hB1 : Below w.heap.size w w1 := (by first | exact (hW.alloc hW.size _).grown hg1 (by simp; omega) (fun k hk => by cases hk; show w.heap.size ≤ w0.heap.size; omega) | exact ((hW.alloc hW.size _).drew).grown hg1 (by simp; omega) (fun k hk => by cases hk; show w.heap.size ≤ w0.heap.size; omega) | exact ((hW.drew).alloc hW.size _).grown hg1 (by simp; omega) (fun k hk => by cases hk; show w.heap.size ≤ w0.heap.size; omega)); have fR1 : Unf w1 (w.heap.size + 1) := (by first | exact (fR.keep ((Below.refl _ _).alloc (Nat.le_refl _) _)).but' hg1 hneR | exact (fR.keep (((Below.refl _ _).alloc (Nat.le_refl _) _).drew)).but' hg1 hneR | exact (fR.keep ((Below.refl _ _).drew.alloc (Nat.le_refl _) _)).but' hg1 hneR); obtain ⟨lA1, x0, x1⟩ := id bA1; obtain ⟨lR1, y0, y1⟩ := id bR1; have z0 := fR1.2 0; have z1 := fR1.2 1))
  all_goals go_wp2
  all_goals refine bodyPost_ret (v := .agg #[.bool p, .slice a1 xs.length c1]) (by simp [results, Try.results58, go_sem, y0, y1, lR1]) rfl ⟨a1, c1, by rw [HXL.out], ?_, ?_⟩
  all_goals first | exact (hB1.setCell (show w.heap.size ≤ w.heap.size + 1 by omega) _).setCell (show w.heap.size ≤ w.heap.size + 1 by omega) _ | (rw [← HXL.out]; exact (((by simpa using hO1 : Own w1 w0.heap.size (.slice a1 xs.length c1) xs).setBelow (a := ⟨w.heap.size + 1, 0, none⟩) (show w.heap.size + 1 < w0.heap.size by omega) _).setBelow (a := ⟨w.heap.size + 1, 1, none⟩) (show w.heap.size + 1 < w0.heap.size by omega) _).mono (by omega))
end Go.Proofs.Ythgpacajeaphhaa
