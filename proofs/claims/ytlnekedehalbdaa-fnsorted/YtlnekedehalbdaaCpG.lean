import Derived.Test.YtlnekedehalbdaaBaseG
import Derived.Deep.RegionHeld3
import Derived.Laws.AppendOwnNone
namespace Go.Proofs.Ytlnekedehalbdaa
open Go.RowKit
set_option linter.unusedVariables false
set_option linter.unusedSimpArgs false

theorem wp_append_none {w : World} {o : Oper} {a : Act} {K : Act → World → Prop} {Q : Exit → Act → World → Prop} (s x : Operand) (t : TypeId)
    (ho : o.op = .call { callee := .builtin .append, args := #[s, x], argTypes := #[t, t] })
    (base : Nat) (e : TypeId) (i : TypeInfo) (size : Nat) (ht : Try.prog.underlying t = some (.slice e)) (hi : Try.prog.info? e = some i)
    (v : Value) (n : Nat) (xs : List Value) (hs : a.eval s = v) (hown : w.ownsRow base e size v n xs) (hx : a.eval x = .slice none 0 0)
    (h : K (a.put o.dst v) w) : Oper.wp Try.prog o a w K Q := by
  have hrun := run_append_owned_none (P := Try.prog) (w := w) base t o.type e i size ht hi v n xs hown
  unfold Oper.wp
  simp [execOp, ho, resolve, invoke, builtin, hs, hx, hrun, Result.andThen]
  exact h

/-- The same, of rows of structs. -/
theorem step_append_rdG {α : Type} {S : Sh α} {T : TypeId} {zv : Value} {by' : Nat} (hinfo : (Try.prog.info? T).map (fun i => (i.zero, i.size, i.bytes)) = some (some zv, S.n, by')) (hzc : zv.cells.size = S.n) (hby : by' ≤ 64)
    {w : World} {ops : Array Oper} {o : Oper} {a : Act} {K : Act → World → Prop} {Q : Exit → Act → World → Prop} {E : Prop} (hgd : o.guard = none) (s x : Operand) (t : TypeId)
    (ho : o.op = .call { callee := .builtin .append, args := #[s, x], argTypes := #[t, t] }) (ht : Try.prog.underlying t = some (.slice T)) (B : Nat) (v u : Value) (xs ys : List α) (hs : a.eval s = v) (hx : a.eval x = u)
    (hown : OwnG S T w B v xs) (hr : RdG S w u ys) (hlen : xs.length + ys.length ≤ 16777216) (hB : B ≤ w.heap.size)
    (h : ∀ a' c' w', OwnG S T w' B (.slice a' (xs ++ ys).length c') (xs ++ ys) → w.grownBy w' v.ownBlock → K (a.put o.dst (.slice a' (xs ++ ys).length c')) w') :
    if Region.wanted o (yielded ops a.tmps) = true then Oper.wp Try.prog o a w K Q else E := by
  have hw : Region.wanted o (yielded ops a.tmps) = true := by simp [Region.wanted, hgd]
  rw [if_pos hw]
  obtain ⟨i0, hi, hz0, hz1, hz2⟩ := info_parts hinfo
  obtain ⟨ao, cap, rfl, hl, hz, hn0, hc⟩ := hr
  cases ao with
  | none =>
    have h0 : ys = [] := by
      cases ys with
      | nil => rfl
      | cons y r => obtain ⟨b, off, h1, _⟩ := hc (by simp); cases h1
    subst h0
    have hc0 := hn0.2 rfl
    subst hc0
    obtain ⟨a', c', rfl⟩ := hown.form
    refine wp_append_none s x t ho B T i0 S.n ht hi _ _ _ hs hown.1 hx ?_
    have := h a' c' w (by simpa using hown) (World.grownBy.refl _ _)
    simpa using this
  | some ad =>
    refine wp_append_own w s x t ho B T i0 zv S.n by' ht hi hz0 hz1 hz2 hzc S.pos v _ _ hs hown.1 ad ys.length cap (ys.flatMap S.cs) hx (flat_length S ys) ?_ ?_ (by unfold maxLen; omega) ?_ hB ?_
    · intro j z hj
      have hj' : j < ys.length * S.n := by
        rcases Nat.lt_or_ge j (ys.length * S.n) with h | h
        · exact h
        · rw [List.getElem?_eq_none (by rw [flat_length]; exact h)] at hj; cases hj
      have hpos := S.pos
      have hy0 : 0 < ys.length := by
        rcases Nat.eq_zero_or_pos ys.length with h | h
        · rw [h] at hj'; omega
        · exact h
      obtain ⟨b, off, h1, _, hcell⟩ := hc hy0
      simp at h1
      subst h1
      have hk : j / S.n < ys.length := Nat.div_lt_of_lt_mul (by rw [Nat.mul_comm]; exact hj')
      have hm : j % S.n < S.n := Nat.mod_lt _ hpos
      have hjd : j / S.n * S.n + j % S.n = j := by rw [Nat.mul_comm]; exact Nat.div_add_mod _ _
      have e : (⟨b, off, none⟩ : Addr).add j = ⟨b, off + j, none⟩ := by unfold Addr.add; split <;> simp_all
      have h2 := hcell (j / S.n) hk (j % S.n) hm
      rw [Nat.add_assoc, hjd] at h2
      have h3 := flat_get S ys (j / S.n) hk (j % S.n) hm
      rw [hjd, hj] at h3
      rw [e, h2, ← h3]
    · intro z hz'
      rw [List.mem_flatMap] at hz'
      obtain ⟨y, _, h2⟩ := hz'
      exact S.one y z h2
    · have : (xs.length + ys.length) * by' ≤ (xs.length + ys.length) * 64 := Nat.mul_le_mul_left _ hby
      omega
    · intro v' w' h1 h2 _
      have hO : OwnG S T w' B v' (xs ++ ys) := ⟨by simpa using h1, by simpa using hlen, fun y hy => by
        rcases List.mem_append.1 hy with h | h
        · exact hown.2.2 y h
        · exact hz y h⟩
      obtain ⟨a', c', rfl⟩ := hO.form
      exact h a' c' w' hO h2

theorem OwnG.empty {α : Type} (S : Sh α) (T : TypeId) (w : World) (g : Nat) (hg : g = w.heap.size) (B : Nat) (hB : B ≤ g) : OwnG S T (w.alloc (.cells #[] T)) B (.slice (some ⟨g, 0, none⟩) 0 0) [] := by
  subst hg
  exact OwnG.mono (B := w.heap.size) ⟨World.ownsRow_lit w #[] 0 (Nat.le_refl _) (Nat.zero_le _) (by simp), by simp, by simp⟩ hB
/-- 'append(xs, ys...)' of rows of structs. -/
theorem wpList_append_rdG {α : Type} {S : Sh α} {T : TypeId} {zv : Value} {by' : Nat} (hinfo : (Try.prog.info? T).map (fun i => (i.zero, i.size, i.bytes)) = some (some zv, S.n, by')) (hzc : zv.cells.size = S.n) (hby : by' ≤ 64)
    {w : World} {ops : Array Oper} {rest : List Oper} {o : Oper} {a : Act} {Q : Exit → Act → World → Prop} (hgd : o.guard = none) (s x : Operand) (t : TypeId)
    (ho : o.op = .call { callee := .builtin .append, args := #[s, x], argTypes := #[t, t] }) (ht : Try.prog.underlying t = some (.slice T)) (B : Nat) (v u : Value) (xs ys : List α) (hs : a.eval s = v) (hx : a.eval x = u)
    (hown : OwnG S T w B v xs) (hr : RdG S w u ys) (hlen : xs.length + ys.length ≤ 16777216) (hB : B ≤ w.heap.size)
    (h : ∀ a' c' w', OwnG S T w' B (.slice a' (xs ++ ys).length c') (xs ++ ys) → w.grownBy w' v.ownBlock → wpList Try.prog ops Q rest (a.put o.dst (.slice a' (xs ++ ys).length c')) w') :
    wpList Try.prog ops Q (o :: rest) a w := by
  have hw : Region.wanted o (yielded ops a.tmps) = true := by simp [Region.wanted, hgd]
  have h1 := step_append_rdG (E := False) (ops := ops) (Q := Q) hinfo hzc hby hgd s x t ho ht B v u xs ys hs hx hown hr hlen hB h
  rw [if_pos hw] at h1
  simp only [wpList]
  rw [if_pos hw]
  exact .inl h1

end Go.Proofs.Ytlnekedehalbdaa
