import Derived.Test.YtlnekedehalbdaaSrV
import Derived.Test.YtlnekedehalbdaaSrQ
import Derived.Test.YtlnekedehalbdaaKpA
namespace Go.Proofs.Ytlnekedehalbdaa
open Go.RowKit
set_option linter.unusedVariables false
set_option linter.unusedSimpArgs false

theorem SS.keep {w0 w w' : World} {X : Nat} {ov : Bool} {ks an : Value} {s : St} (h : SS w0 w X ov ks an s) (hb : Below w.heap.size w w') : SS w0 w' X ov ks an s := by
  obtain ⟨h0, aq, h1, h2, h3⟩ := h
  exact ⟨h0, aq, h1.keep hb, h2.keep hb, h3.trans (hb.mono h3.size)⟩
theorem own_int {w : World} {B : Nat} {v : Value} {h : List Int} (hO : Own w B v h) : ∀ q, v.ownBlock = some q → ∃ cur p, w.heap[q]? = some (.cells cur 2 p) := by
  intro q hq
  rcases hO.1.2 with h2 | ⟨g', cap, cur, e, hg, hh, r⟩
  · rw [h2.1] at hq; cases hq
  · rw [e] at hq
    simp [Value.ownBlock] at hq
    subst hq
    exact ⟨cur, _, hh⟩
/-- A row of numbers of ours, above the sorter, grows: the sorter stays. -/
theorem SS.gb {w0 w w' : World} {X B : Nat} {ov : Bool} {ks an v : Value} {s : St} {zs : List Int} (h : SS w0 w X ov ks an s) (hO : Own w B v zs) (hB : X < B) (hg : w.grownBy w' v.ownBlock) : SS w0 w' X ov ks an s := by
  obtain ⟨h0, aq, h1, h2, h3⟩ := h
  refine ⟨h0, aq, h1.but hg (fun e => by have := (hO.lt _ e.symm).1; omega), h2.but hg ?_, h3.trans (gb_to hg (fun k hk => by have := (hO.lt k hk).1; omega) h3.size)⟩
  cases e : aq.ownBlock with
  | none => exact .inl rfl
  | some q =>
    right; intro e2
    obtain ⟨c1, p1, k1⟩ := own_ask h2 q e
    obtain ⟨c2, p2, k2⟩ := own_int hO q e2.symm
    rw [k1] at k2
    simp only [Option.some.injEq, Obj.cells.injEq] at k2
    exact absurd k2.2.1 (by decide)
theorem SS.lt {w0 w : World} {X : Nat} {ov : Bool} {ks an : Value} {s : St} (h : SS w0 w X ov ks an s) : X < w.heap.size := by obtain ⟨_, aq, h1, _⟩ := h; exact h1.lt
theorem SS.k {w0 w : World} {X : Nat} {ov : Bool} {ks an : Value} {s : St} (h : SS w0 w X ov ks an s) : w.cell? ⟨X, 4, none⟩ = some (.bool s.k) := by obtain ⟨_, aq, h1, _⟩ := h; exact h1.c4
theorem Off.far {w a b : World} {X : Nat} {row : Option Nat} (h : Off w a X) (k : a.grownBy b row) (hr : ∀ j, row = some j → w.heap.size ≤ j) : Off w b X :=
  ⟨Nat.le_trans h.1 k.size, fun i hi hX hn => (k.block i (Nat.lt_of_lt_of_le hi h.1) (fun e => by have := hr i e.symm; omega)).trans (h.2 i hi hX hn)⟩
theorem Off.low {w a b : World} {X : Nat} (h : Off w a X) (k : Below w.heap.size a b) : Off w b X :=
  ⟨Nat.le_trans h.1 k.size, fun i hi hX hn => (k.block i hi).trans (h.2 i hi hX hn)⟩
/-- 'append(xs, ys...)': what is appended to is the call's own, what is appended is read; what else it leaves. -/
theorem wpList_append_rg {w : World} {ops : Array Oper} {rest : List Oper} {o : Oper} {a : Act} {Q : Exit → Act → World → Prop} (hgd : o.guard = none) (s x : Operand) (t : TypeId)
    (ho : o.op = .call { callee := .builtin .append, args := #[s, x], argTypes := #[t, t] }) (ht : Try.prog.underlying t = some (.slice 2))
    (B : Nat) (v u : Value) (xs ys : List Int) (m : Nat) (hm : m = xs.length + ys.length) (hs : a.eval s = v) (hx : a.eval x = u) (hown : Own w B v xs) (hr : Rd w u ys) (hlen : m ≤ 16777216) (hB : B ≤ w.heap.size)
    (h : ∀ a' c' w', Own w' B (.slice a' m c') (xs ++ ys) → w.grownBy w' v.ownBlock → wpList Try.prog ops Q rest (a.put o.dst (.slice a' m c')) w') :
    wpList Try.prog ops Q (o :: rest) a w := by
  obtain ⟨i0, hi, hz0, hz1, hz2⟩ := info_parts Try.info2
  have hr' := hr
  obtain ⟨ao, cap, rfl, hl, hz, hn0, hc⟩ := hr
  cases ao with
  | none =>
    have h0 : ys = [] := by
      cases ys with
      | nil => rfl
      | cons y r => obtain ⟨b, off, h1, _⟩ := hc (by simp); cases h1
    subst h0
    have hc0 := hn0.2 rfl
    subst hc0
    obtain ⟨a', c', rfl⟩ := hown.form
    refine wpList_append_own_none hgd s x t ho B 2 i0 1 ht hi _ _ _ hs hown.1 hx ?_
    simp only [List.length_nil, Nat.add_zero] at hm
    subst hm
    have := h a' c' w (by simpa using hown) (World.grownBy.refl _ _)
    simpa using this
  | some ad =>
    refine wpList_append_own w hgd s x t ho B 2 i0 (.int .i64 0) 1 8 ht hi hz0 hz1 hz2 rfl (by decide) v _ _ hs hown.1 ad ys.length cap (ys.map (Value.int .i64)) hx (by simp) ?_ ?_ (by unfold maxLen; omega) (by omega) hB ?_
    · intro j z hj
      have hj' : j < ys.length := by
        rcases Nat.lt_or_ge j ys.length with h | h
        · exact h
        · rw [List.getElem?_eq_none (by simpa using h)] at hj; cases hj
      obtain ⟨b, off, h1, _, hcell⟩ := hc (by omega)
      simp at h1
      subst h1
      have e : (⟨b, off, none⟩ : Addr).add j = ⟨b, off + j, none⟩ := by unfold Addr.add; split <;> simp_all
      rw [e, hcell j hj']
      simp [hj', List.getD] at hj ⊢
      exact hj
    · intro z hz'
      simp at hz'
      obtain ⟨y, _, rfl⟩ := hz'
      rfl
    · intro v' w' h1 h2 _
      have hO : Own w' B v' (xs ++ ys) := ⟨by simpa using h1, by simp; omega, hown.2.2.append hz⟩
      obtain ⟨a', c', rfl⟩ := hO.form
      rw [List.length_append, ← hm] at hO ⊢
      exact h a' c' w' hO h2
/-- The tail of what is read. -/
theorem RdF.tail {X : Nat} {w : World} {b off n c : Nat} {z : Int} {zs : List Int} (h : RdF X w (.slice (some ⟨b, off, none⟩) n c) (z :: zs)) : RdF X w (.slice (if c = 1 then some ⟨b, off, none⟩ else some ⟨b, off + 1, none⟩) zs.length (c - 1)) zs := by
  obtain ⟨⟨a, cap, e, hl, hz, hn, hc⟩, hP⟩ := h
  simp only [Value.slice.injEq] at e
  obtain ⟨rfl, rfl, rfl⟩ := e
  obtain ⟨b', off', e', hb, hcell⟩ := hc (by simp)
  simp only [Option.some.injEq, Addr.mk.injEq, and_true] at e'
  obtain ⟨rfl, rfl⟩ := e'
  have hn1 := hn.1
  simp only [List.length_cons] at hn1 hl
  by_cases h1 : c = 1
  · subst h1
    have h0 : zs = [] := List.length_eq_zero_iff.mp (by omega)
    subst h0
    exact ⟨⟨_, _, rfl, by simp, Limbs.nil, ⟨by simp, fun h => by simp⟩, fun h => by simp at h⟩, fun h => by simp at h⟩
  · rw [if_neg h1]
    refine ⟨⟨_, _, rfl, by omega, fun y hy => hz y (List.mem_cons_of_mem _ hy), ⟨by omega, fun h => by cases h⟩, fun h0 => ⟨b, off + 1, rfl, hb, fun k hk => ?_⟩⟩, fun h0 b2 o2 n2 c2 e2 => ?_⟩
    · have := hcell (k + 1) (by simp; omega)
      rw [show off + 1 + k = off + (k + 1) by omega, this]
      simp [List.getD]
    · simp only [Value.slice.injEq, Option.some.injEq, Addr.mk.injEq, and_true] at e2
      obtain ⟨⟨rfl, rfl⟩, rfl, rfl⟩ := e2
      exact hP (by simp) b off _ _ rfl
theorem RdF.head {X : Nat} {w : World} {a : Option Addr} {n c : Nat} {z : Int} {zs : List Int} (h : RdF X w (.slice a n c) (z :: zs)) : ∃ b off, a = some ⟨b, off, none⟩ ∧ b < w.heap.size ∧ b ≠ X ∧ (∀ cur p, w.heap[b]? ≠ some (.cells cur 43 p)) ∧ w.cell? ⟨b, off, none⟩ = some (.int .i64 z) ∧ zs.length + 1 ≤ c ∧ n = zs.length + 1 := by
  obtain ⟨⟨a, cap, e, hl, hz, hn, hc⟩, hP⟩ := h
  simp only [Value.slice.injEq] at e
  obtain ⟨rfl, rfl, rfl⟩ := e
  obtain ⟨b, off, rfl, hb, hcell⟩ := hc (by simp)
  obtain ⟨h1, h2⟩ := hP (by simp) b off _ _ rfl
  have := hcell 0 (by simp)
  simp at this
  exact ⟨b, off, rfl, hb, h1, h2, this, by simpa using hn.1, by simp⟩
end Go.Proofs.Ytlnekedehalbdaa
