import Derived.Test.YtjnalkeopehlbaaGdB
namespace Go.Proofs.Ytjnalkeopehlbaa
open Go.RowKit Go.Maps
set_option linter.unusedVariables false
set_option linter.unusedSimpArgs false

/-- append(xs, ys...), whatever ys, and where it lies. -/
theorem wp_append_rdL {w : World} {o : Oper} {a : Act} {K : Act → World → Prop} {Q : Exit → Act → World → Prop} (s x : Operand) (t : TypeId)
    (ho : o.op = .call { callee := .builtin .append, args := #[s, x], argTypes := #[t, t] }) (ht : Try.prog.underlying t = some (.slice 2))
    (B : Nat) (v u : Value) (xs ys : List Int) (hs : a.eval s = v) (hx : a.eval x = u) (hown : Own w B v xs) (hr : Rd w u ys) (n : Nat) (hn : xs.length + ys.length = n) (hlen : n ≤ 16777216) (hB : B ≤ w.heap.size)
    (h : ∀ a' c' w', Own w' B (.slice a' n c') (xs ++ ys) → w.grownBy w' v.ownBlock → ((Value.slice a' n c').ownBlock = v.ownBlock ∨ (Value.slice a' n c').ownBlock = some w.heap.size) → K (a.put o.dst (.slice a' n c')) w') : o.wp Try.prog a w K Q := by
  subst hn
  obtain ⟨i0, hi, hz0, hz1, hz2⟩ := info_parts Try.info2
  obtain ⟨ao, cap, rfl, hl, hz, hn0, hc⟩ := hr
  obtain ⟨v', w', hrun, hO, hg, hlie⟩ : ∃ v' w', (Builtin.append_ #[t, t] o.type #[v, .slice ao ys.length cap]).run Try.prog w = .ok v' w' ∧ Own w' B v' (xs ++ ys) ∧ w.grownBy w' v.ownBlock ∧ (v'.ownBlock = v.ownBlock ∨ v'.ownBlock = some w.heap.size) := by
    cases ao with
    | none =>
      have h0 : ys = [] := by
        cases ys with
        | nil => rfl
        | cons y r => obtain ⟨b, off, h1, _⟩ := hc (by simp); cases h1
      subst h0
      have hc0 := hn0.2 rfl
      subst hc0
      exact ⟨v, w, run_append_owned_none (P := Try.prog) (w := w) B t o.type 2 i0 1 ht hi v _ _ hown.1, by simpa using hown, World.grownBy.refl _ _, .inl rfl⟩
    | some ad =>
      obtain ⟨v', w', hr', h2, h3, _, h5⟩ := run_append_own_at (P := Try.prog) w B t o.type 2 i0 (.int .i64 0) 1 8 ht hi hz0 hz1 hz2 rfl (by decide) v _ _ hown.1 ad ys.length cap (ys.map (Value.int .i64)) (by simp) (by
        intro j z hj
        have hj' : j < ys.length := by
          rcases Nat.lt_or_ge j ys.length with h | h
          · exact h
          · rw [List.getElem?_eq_none (by simpa using h)] at hj; cases hj
        obtain ⟨b, off, h1, _, hcell⟩ := hc (by omega)
        simp at h1
        subst h1
        have e : (⟨b, off, none⟩ : Addr).add j = ⟨b, off + j, none⟩ := by unfold Addr.add; split <;> simp_all
        rw [e, hcell j hj']
        simp [hj', List.getD] at hj ⊢
        exact hj) (by
        intro z hz'
        simp at hz'
        obtain ⟨y, _, rfl⟩ := hz'
        rfl) (by unfold maxLen; omega) (by omega) hB
      exact ⟨v', w', hr', ⟨by simpa using h2, by simpa using hlen, hown.2.2.append hz⟩, h3, h5⟩
  obtain ⟨a', c', rfl⟩ := hO.form
  rw [List.length_append] at hO hlie hrun
  unfold Oper.wp execOp
  simp only [ho, resolve, invoke, builtin, Sem.run_bind, Sem.run_pure, Result.andThen_ok, List.map_toArray, List.map_cons, List.map_nil, hs, hx, hrun]
  exact h a' c' w' hO hg hlie
theorem wpList_append_rdL {w : World} {ops : Array Oper} {rest : List Oper} {o : Oper} {a : Act} {Q : Exit → Act → World → Prop} (hgd : o.guard = none) (s x : Operand) (t : TypeId)
    (ho : o.op = .call { callee := .builtin .append, args := #[s, x], argTypes := #[t, t] }) (ht : Try.prog.underlying t = some (.slice 2))
    (B : Nat) (v u : Value) (xs ys : List Int) (hs : a.eval s = v) (hx : a.eval x = u) (hown : Own w B v xs) (hr : Rd w u ys) (n : Nat) (hn : xs.length + ys.length = n) (hlen : n ≤ 16777216) (hB : B ≤ w.heap.size)
    (h : ∀ a' c' w', Own w' B (.slice a' n c') (xs ++ ys) → w.grownBy w' v.ownBlock → ((Value.slice a' n c').ownBlock = v.ownBlock ∨ (Value.slice a' n c').ownBlock = some w.heap.size) → wpList Try.prog ops Q rest (a.put o.dst (.slice a' n c')) w') :
    wpList Try.prog ops Q (o :: rest) a w :=
  wpList_plain hgd fun _ hK => wp_append_rdL s x t ho ht B v u xs ys hs hx hown hr n hn hlen hB fun a' c' w' h2 h3 h4 => hK _ _ (h a' c' w' h2 h3 h4)
theorem step_append_rdL {w : World} {ops : Array Oper} {o : Oper} {a : Act} {K : Act → World → Prop} {Q : Exit → Act → World → Prop} {E : Prop} (hgd : o.guard = none) (s x : Operand) (t : TypeId)
    (ho : o.op = .call { callee := .builtin .append, args := #[s, x], argTypes := #[t, t] }) (ht : Try.prog.underlying t = some (.slice 2))
    (B : Nat) (v u : Value) (xs ys : List Int) (hs : a.eval s = v) (hx : a.eval x = u) (hown : Own w B v xs) (hr : Rd w u ys) (n : Nat) (hn : xs.length + ys.length = n) (hlen : n ≤ 16777216) (hB : B ≤ w.heap.size)
    (h : ∀ a' c' w', Own w' B (.slice a' n c') (xs ++ ys) → w.grownBy w' v.ownBlock → ((Value.slice a' n c').ownBlock = v.ownBlock ∨ (Value.slice a' n c').ownBlock = some w.heap.size) → K (a.put o.dst (.slice a' n c')) w') :
    if Region.wanted o (yielded ops a.tmps) = true then Oper.wp Try.prog o a w K Q else E := by
  have hw : Region.wanted o (yielded ops a.tmps) = true := by simp [Region.wanted, hgd]
  rw [if_pos hw]
  exact wp_append_rdL s x t ho ht B v u xs ys hs hx hown hr n hn hlen hB h
theorem upd_upd {α : Type} (f : Nat → α) (i : Nat) (a b : α) : upd (upd f i a) i b = upd f i b := by
  funext k
  unfold upd
  split <;> rfl
end Go.Proofs.Ytjnalkeopehlbaa
