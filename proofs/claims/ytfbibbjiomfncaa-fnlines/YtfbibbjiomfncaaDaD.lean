import Derived.Test.YtfbibbjiomfncaaDaB
import Derived.Test.YtfbibbjiomfncaaCpG
namespace Go.Proofs.Ytfbibbjiomfncaa
open Go.RowKit Go.Lib
set_option linter.unusedVariables false
set_option linter.unusedSimpArgs false

/-- 'append(xs, ys...)' as a step of a region that draws: ints. -/
theorem step_append_rd {w : World} {ops : Array Oper} {o : Oper} {a : Act} {K : Act → World → Prop} {Q : Exit → Act → World → Prop} {E : Prop} (hgd : o.guard = none) (s x : Operand) (t : TypeId)
    (ho : o.op = .call { callee := .builtin .append, args := #[s, x], argTypes := #[t, t] }) (ht : Try.prog.underlying t = some (.slice 2))
    (B : Nat) (v u : Value) (xs ys : List Int) (hs : a.eval s = v) (hx : a.eval x = u) (hown : Own w B v xs) (hr : Rd w u ys) (hlen : xs.length + ys.length ≤ 16777216) (hB : B ≤ w.heap.size)
    (h : ∀ a' c' w', Own w' B (.slice a' (xs ++ ys).length c') (xs ++ ys) → w.grownBy w' v.ownBlock → K (a.put o.dst (.slice a' (xs ++ ys).length c')) w') :
    if Region.wanted o (yielded ops a.tmps) = true then Oper.wp Try.prog o a w K Q else E := by
  have hw : Region.wanted o (yielded ops a.tmps) = true := by simp [Region.wanted, hgd]
  rw [if_pos hw]
  obtain ⟨i0, hi, hz0, hz1, hz2⟩ := info_parts Try.info2
  obtain ⟨ao, cap, rfl, hl, hz, hn0, hc⟩ := hr
  cases ao with
  | none =>
    have h0 : ys = [] := by
      cases ys with
      | nil => rfl
      | cons y r => obtain ⟨b, off, h1, _⟩ := hc (by simp); cases h1
    subst h0
    have hc0 := hn0.2 rfl
    subst hc0
    obtain ⟨a', c', rfl⟩ := hown.form
    refine wp_append_none s x t ho B 2 i0 1 ht hi _ _ _ hs hown.1 hx ?_
    have := h a' c' w (by simpa using hown) (World.grownBy.refl _ _)
    simpa using this
  | some ad =>
    refine wp_append_own w s x t ho B 2 i0 (.int .i64 0) 1 8 ht hi hz0 hz1 hz2 rfl (by decide) v _ _ hs hown.1 ad ys.length cap (ys.map (Value.int .i64)) hx (by simp) ?_ ?_ (by unfold maxLen; omega) (by omega) hB ?_
    · intro j z hj
      have hj' : j < ys.length := by
        rcases Nat.lt_or_ge j ys.length with h | h
        · exact h
        · rw [List.getElem?_eq_none (by simpa using h)] at hj; cases hj
      obtain ⟨b, off, h1, _, hcell⟩ := hc (by omega)
      simp at h1
      subst h1
      have e : (⟨b, off, none⟩ : Addr).add j = ⟨b, off + j, none⟩ := by unfold Addr.add; split <;> simp_all
      rw [e, hcell j hj']
      simp [hj', List.getD] at hj ⊢
      exact hj
    · intro z hz'
      simp at hz'
      obtain ⟨y, _, rfl⟩ := hz'
      rfl
    · intro v' w' h1 h2 _
      have hO : Own w' B v' (xs ++ ys) := ⟨by simpa using h1, by simpa using hlen, hown.2.2.append hz⟩
      obtain ⟨a', c', rfl⟩ := hO.form
      exact h a' c' w' hO h2


/-- Classes that are drawn: all ours. -/
structure CR (w : World) (B : Nat) (v : Value) (ps : List Sp) (cs : List Cl) : Prop where
  out : OwnG shP 54 w B v ps
  len : ps.length = cs.length
  row : ∀ k (h : k < ps.length) (h' : k < cs.length), Own w B ps[k].s1 cs[k].b ∧ OwnA w B ps[k].s2 cs[k].a
theorem CO.cr {w : World} {B : Nat} {v : Value} {ps : List Sp} {cs : List Cl} (h : CO w B v ps cs) : CR w B v ps cs := ⟨h.out, h.len, h.row⟩
theorem CR.but {w w' : World} {B : Nat} {v : Value} {ps : List Sp} {cs : List Cl} {row : Option Nat} (h : CR w B v ps cs) (hg : w.grownBy w' row) (hr : ∀ j, row = some j → j < B) : CR w' B v ps cs :=
  ⟨h.out.but hg (by
      cases hv : v.ownBlock with
      | none => exact .inl rfl
      | some q => exact .inr (fun e => by have := (h.out.lt q hv).1; have := hr q e.symm; omega)), h.len,
   fun k hk hk' => ⟨(h.row k hk hk').1.but hg (by
      cases hv : ps[k].s1.ownBlock with
      | none => exact .inl rfl
      | some q => exact .inr (fun e => by have := ((h.row k hk hk').1.lt q hv).1; have := hr q e.symm; omega)), (h.row k hk hk').2.but hg (by
      cases hv : ps[k].s2.ownBlock with
      | none => exact .inl rfl
      | some q => exact .inr (fun e => by have := ((h.row k hk hk').2.lt q hv).1; have := hr q e.symm; omega))⟩⟩
theorem CR.keep {w w' : World} {B : Nat} {v : Value} {ps : List Sp} {cs : List Cl} (h : CR w B v ps cs) (hb : Below w.heap.size w w') : CR w' B v ps cs :=
  ⟨h.out.keep hb, h.len, fun k hk hk' => ⟨(h.row k hk hk').1.keep hb, (h.row k hk hk').2.keep hb⟩⟩
theorem CR.rd {w : World} {B : Nat} {v : Value} {ps : List Sp} {cs : List Cl} (h : CR w B v ps cs) : RdC w v cs :=
  ⟨ps, h.out.rd, h.len, fun k hk hk' => ⟨(h.row k hk hk').1.rd, (h.row k hk hk').2.rd⟩⟩
theorem CR.snoc {w w' : World} {B : Nat} {v v' : Value} {ps : List Sp} {cs : List Cl} {p : Sp} {bs : List Int} {xs : List At} (h : CR w B v ps cs) (h1 : Own w B p.s1 bs) (h2 : OwnA w B p.s2 xs)
    (ho : OwnG shP 54 w' B v' (ps ++ [p])) (hg : w.grownBy w' v.ownBlock) : CR w' B v' (ps ++ [p]) (cs ++ [⟨bs, xs⟩]) := by
  have kI : ∀ (u : Value) (zs : List Int), Own w B u zs → Own w' B u zs := fun u zs hu => hu.but hg (by
    rcases h.out.shape with ⟨e, _⟩ | ⟨gv, cv, e, _⟩
    · rw [e]; cases u.ownBlock with
      | none => exact .inl rfl
      | some q => exact .inr (by simp [Value.ownBlock])
    · right
      have hO := h.out
      rw [e] at hO ⊢
      exact own_apart hO hu (by decide))
  have kA : ∀ (u : Value) (zs : List At), OwnA w B u zs → OwnA w' B u zs := fun u zs hu => hu.but hg (by
    rcases h.out.shape with ⟨e, _⟩ | ⟨gv, cv, e, _⟩
    · rw [e]; cases u.ownBlock with
      | none => exact .inl rfl
      | some q => exact .inr (by simp [Value.ownBlock])
    · right
      have hO := h.out
      rw [e] at hO ⊢
      exact own_unlike hO hu (by decide))
  refine ⟨ho, by simp [h.len], fun k hk hk' => ?_⟩
  · rw [List.getElem_append, List.getElem_append]
    split
    · rename_i hk1
      rw [dif_pos (by have := h.len; omega)]
      exact ⟨kI _ _ (h.row k hk1 (by have := h.len; omega)).1, kA _ _ (h.row k hk1 (by have := h.len; omega)).2⟩
    · rename_i hk1
      rw [dif_neg (by have := h.len; omega)]
      simp only [List.getElem_singleton]
      exact ⟨kI _ _ h1, kA _ _ h2⟩

/-- Bases get one more. -/
theorem CO.more {w w' : World} {B gv n cap : Nat} {ps : List Sp} {cs : List Cl} (h : CO w B (.slice (some ⟨gv, 0, none⟩) n cap) ps cs) (x : Nat) (hx : x < ps.length) (hx' : x < cs.length) (a' : Option Addr) (m c' : Nat) (bs : List Int)
    (ho : Own w' B (.slice a' m c') bs) (hg : w.grownBy w' ps[x].s1.ownBlock) :
    CR (w'.setCell ⟨gv, x * 2, none⟩ (.slice a' m c')) B (.slice (some ⟨gv, 0, none⟩) n cap) (ps.set x ⟨a', m, c', ps[x].a2, ps[x].n2, ps[x].c2⟩) (cs.set x ⟨bs, cs[x].a⟩) := by
  have hOx := (h.row x hx hx').1
  have hO1 := h.out.but hg (.inr (fun e => own_apart h.out hOx (by decide) e.symm))
  have hI : ∀ j (hj : j < ps.length) (hj' : j < cs.length), j ≠ x → Own w' B ps[j].s1 cs[j].b := fun j hj hj' hne => (h.row j hj hj').1.but hg (h.apart j x hj hx hne)
  have hA : ∀ j (hj : j < ps.length) (hj' : j < cs.length), OwnA w' B ps[j].s2 cs[j].a := fun j hj hj' => (h.row j hj hj').2.but hg (by
    cases hq : ps[x].s1.ownBlock with
    | none =>
      cases ps[j].s2.ownBlock with
      | none => exact .inl rfl
      | some q => exact .inr (by simp)
    | some q =>
      right
      intro e
      rcases (h.row j hj hj').2.shape with ⟨e2, _⟩ | ⟨g2, c2, e2, _⟩
      · rw [e2] at e; cases e
      · have hh := (h.row j hj hj').2
        rw [e2] at hh e
        simp only [Value.ownBlock, Option.some.injEq] at e
        exact own_apart hh hOx (by decide) (by rw [hq, e]))
  have hput := hO1.put x hx 0 (by decide) (.slice a' m c') ⟨a', m, c', ps[x].a2, ps[x].n2, ps[x].c2⟩ trivial (by simp [shP, Sp.s1, Sp.s2])
  simp only [show shP.n = 2 from rfl, Nat.add_zero] at hput
  have gs := gb_set w' gv (x * 2) (.slice a' m c')
  have kI : ∀ (u : Value) (zs : List Int), Own w' B u zs → Own (w'.setCell ⟨gv, x * 2, none⟩ (.slice a' m c')) B u zs := fun u zs hu => hu.but gs (.inr (own_apart hO1 hu (by decide)))
  have kA : ∀ (u : Value) (zs : List At), OwnA w' B u zs → OwnA (w'.setCell ⟨gv, x * 2, none⟩ (.slice a' m c')) B u zs := fun u zs hu => hu.but gs (.inr (own_unlike hO1 hu (by decide)))
  refine ⟨hput, by simp [h.len], fun j hj hj' => ?_⟩
  rw [List.getElem_set, List.getElem_set]
  by_cases e : x = j
  · subst e
    rw [if_pos rfl, if_pos rfl]
    exact ⟨kI _ _ ho, kA _ _ (hA x hx hx')⟩
  · rw [if_neg e, if_neg e]
    exact ⟨kI _ _ (hI j (by simpa using hj) (by simpa using hj') (fun e2 => e e2.symm)), kA _ _ (hA j (by simpa using hj) (by simpa using hj'))⟩

/-- 'append(xs, x)' as an equation. -/
theorem ap1 (w : World) (B : Nat) (v : Value) (xs : List Int) (x : Int) (hO : Own (w.alloc (.cells #[.int .i64 x] 2)) B v xs) (hx : -9223372036854775808 ≤ x ∧ x < 9223372036854775808) (hl : xs.length ≤ 1000) (hB : B ≤ (w.alloc (.cells #[.int .i64 x] 2)).heap.size) :
    ∃ a' c' w', (Builtin.append_ #[51, 51] 51 #[v, .slice (some ⟨w.heap.size, 0, none⟩) 1 1]).run Try.prog (w.alloc (.cells #[.int .i64 x] 2)) = .ok (.slice a' (xs.length + 1) c') w' ∧ Own w' B (.slice a' (xs.length + 1) c') (xs ++ [x]) ∧ (w.alloc (.cells #[.int .i64 x] 2)).grownBy w' v.ownBlock := by
  obtain ⟨i0, hi, hz0, hz1, hz2⟩ := info_parts Try.info2
  obtain ⟨v', w', h1, h2, h3, _⟩ := run_append_own (P := Try.prog) (w.alloc (.cells #[.int .i64 x] 2)) B 51 51 2 i0 (.int .i64 0) 1 8 Try.underlying51 hi hz0 hz1 hz2 rfl (by decide) v _ _ hO.1 ⟨w.heap.size, 0, none⟩ 1 1 [.int .i64 x] (by simp) (fun j u hj => by
    cases j with
    | zero => simp at hj; subst hj; rw [Addr.add_lit, World.cell?_alloc_at _ _ _ _ rfl]; rfl
    | succ j => simp at hj) (by intro u hu; simp at hu; subst hu; rfl) (by unfold maxLen; omega) (by omega) hB
  have hO' : Own w' B v' (xs ++ [x]) := ⟨by simpa using h2, by simp; omega, hO.2.2.append (Limbs.one hx.1 hx.2)⟩
  obtain ⟨a', c', rfl⟩ := hO'.form
  simp only [List.length_append, List.length_singleton] at h1 hO'
  exact ⟨a', c', w', h1, hO', h3⟩
end Go.Proofs.Ytfbibbjiomfncaa
