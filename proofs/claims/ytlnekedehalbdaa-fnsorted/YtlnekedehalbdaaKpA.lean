import Derived.Test.YtlnekedehalbdaaBaseZ
namespace Go.Proofs.Ytlnekedehalbdaa
open Go.RowKit
set_option linter.unusedVariables false
set_option linter.unusedSimpArgs false

/-- 'append(xs, ys...)', one at least: what else it leaves. -/
theorem wpList_append_gb {w : World} {ops : Array Oper} {rest : List Oper} {o : Oper} {a : Act} {Q : Exit → Act → World → Prop} (hgd : o.guard = none) (s x : Operand) (t : TypeId)
    (ho : o.op = .call { callee := .builtin .append, args := #[s, x], argTypes := #[t, t] }) (ht : Try.prog.underlying t = some (.slice 2))
    (B : Nat) (v u : Value) (xs ys : List Int) (m : Nat) (hm : m = xs.length + ys.length) (hs : a.eval s = v) (hx : a.eval x = u) (hown : Own w B v xs) (hr : Rd w u ys) (hy : 0 < ys.length) (hlen : m ≤ 16777216) (hB : B ≤ w.heap.size)
    (h : ∀ a' c' w', Own w' B (.slice a' m c') (xs ++ ys) → w.grownBy w' v.ownBlock → wpList Try.prog ops Q rest (a.put o.dst (.slice a' m c')) w') :
    wpList Try.prog ops Q (o :: rest) a w := by
  obtain ⟨i0, hi, hz0, hz1, hz2⟩ := info_parts Try.info2
  obtain ⟨ao, cap, rfl, hl, hz, hn0, hc⟩ := hr
  obtain ⟨b, off, rfl, _, hcell⟩ := hc hy
  refine wpList_append_own w hgd s x t ho B 2 i0 (.int .i64 0) 1 8 ht hi hz0 hz1 hz2 rfl (by decide) v _ _ hs hown.1 ⟨b, off, none⟩ ys.length cap (ys.map (Value.int .i64)) hx (by simp) ?_ ?_ (by unfold maxLen; omega) (by omega) hB ?_
  · intro j z hj
    have hj' : j < ys.length := by
      rcases Nat.lt_or_ge j ys.length with h | h
      · exact h
      · rw [List.getElem?_eq_none (by simpa using h)] at hj; cases hj
    have e : (⟨b, off, none⟩ : Addr).add j = ⟨b, off + j, none⟩ := by unfold Addr.add; split <;> simp_all
    rw [e, hcell j hj']
    simp [hj', List.getD] at hj ⊢
    exact hj
  · intro z hz'
    simp at hz'
    obtain ⟨y, _, rfl⟩ := hz'
    rfl
  · intro v' w' h1 h2 _
    have hO : Own w' B v' (xs ++ ys) := ⟨by simpa using h1, by simp; omega, hown.2.2.append hz⟩
    obtain ⟨a', c', rfl⟩ := hO.form
    rw [List.length_append, ← hm] at hO ⊢
    exact h a' c' w' hO h2
theorem gbr_frozen {w w' : World} {row : Option Nat} {L o : Nat} (hgb : w.grownBy w' row) (hne : some L ≠ row) (hl : L < w.heap.size) (h : w.frozen? ⟨L, o, none⟩ = false) : w'.frozen? ⟨L, o, none⟩ = false := by
  have := hgb.block L hl hne
  unfold World.frozen?; simp only; rw [this]; exact h
end Go.Proofs.Ytlnekedehalbdaa
