import Derived.Test.YtlnekedehalbdaaSrP
import Derived.Test.YtlnekedehalbdaaBaseG
import Derived.Deep.RegionHeld3
import Derived.Deep.RegionHeldLaw
namespace Go.Proofs.Ytlnekedehalbdaa
open Go.RowKit
set_option linter.unusedVariables false
set_option linter.unusedSimpArgs false

/-- 'append(xs, e)' for one element of several cells. -/
theorem wpList_append_one {α : Type} {S : Sh α} {T : TypeId} {zv : Value} {by' : Nat} (hinfo : (Try.prog.info? T).map (fun i => (i.zero, i.size, i.bytes)) = some (some zv, S.n, by')) (hzc : zv.cells.size = S.n) (hby : by' ≤ 64)
    {w : World} {ops : Array Oper} {rest : List Oper} {o : Oper} {a : Act} {Q : Exit → Act → World → Prop} (hgd : o.guard = none) (s x : Operand) (t : TypeId)
    (ho : o.op = .call { callee := .builtin .append, args := #[s, x], argTypes := #[t, t] }) (ht : Try.prog.underlying t = some (.slice T)) (B : Nat) (v : Value) (xs : List α) (e : α) (he : S.ok e) (g c : Nat) (hs : a.eval s = v) (hx : a.eval x = .slice (some ⟨g, 0, none⟩) 1 c)
    (hown : OwnG S T w B v xs) (hc : ∀ j, j < S.n → w.cell? ⟨g, j, none⟩ = (S.cs e)[j]?) (hlen : xs.length + 1 ≤ 16777216) (hB : B ≤ w.heap.size)
    (h : ∀ a' c' w', OwnG S T w' B (.slice a' (xs ++ [e]).length c') (xs ++ [e]) → w.grownBy w' v.ownBlock → wpList Try.prog ops Q rest (a.put o.dst (.slice a' (xs ++ [e]).length c')) w') :
    wpList Try.prog ops Q (o :: rest) a w := by
  obtain ⟨i0, hi, hz0, hz1, hz2⟩ := info_parts hinfo
  refine wpList_append_own w hgd s x t ho B T i0 zv S.n by' ht hi hz0 hz1 hz2 hzc S.pos v _ _ hs hown.1 ⟨g, 0, none⟩ 1 c (S.cs e) hx (by rw [S.len]; omega) ?_ (fun u hu => S.one e u hu) (by unfold maxLen; omega) ?_ hB ?_
  · intro j u hj
    have hj' : j < S.n := by
      rcases Nat.lt_or_ge j S.n with h | h
      · exact h
      · rw [List.getElem?_eq_none (by rw [S.len]; exact h)] at hj; cases hj
    have e' : (⟨g, 0, none⟩ : Addr).add j = ⟨g, j, none⟩ := by unfold Addr.add; split <;> simp_all
    rw [e', hc j hj', hj]
  · have : (xs.length + 1) * by' ≤ (xs.length + 1) * 64 := Nat.mul_le_mul_left _ hby
    omega
  · intro v' w' h1 h2 _
    have hO : OwnG S T w' B v' (xs ++ [e]) := ⟨by simpa using h1, by simpa using hlen, fun y hy => by
      rcases List.mem_append.1 hy with h | h
      · exact hown.2.2 y h
      · simp at h; subst h; exact he⟩
    obtain ⟨a', c', rfl⟩ := hO.form
    exact h a' c' w' hO h2
/-- A row of truths. -/
def shB : Sh Bool := ⟨1, by decide, fun b => [.bool b], fun _ => True, fun _ => rfl, fun a u hu => by simp at hu; subst hu; rfl⟩
/-- A row of what was asked. -/
def shQ : Sh (Int × Int) := ⟨2, by decide, fun p => [.int .i64 p.1, .int .i64 p.2], fun p => (-9223372036854775808 ≤ p.1 ∧ p.1 < 9223372036854775808) ∧ -9223372036854775808 ≤ p.2 ∧ p.2 < 9223372036854775808, fun _ => rfl, fun a u hu => by simp at hu; rcases hu with rfl | rfl <;> rfl⟩
theorem Try.info43 : (Try.prog.info? 43).map (fun i => (i.zero, i.size, i.bytes)) = some (some (.agg #[.int .i64 0, .int .i64 0]), 2, 16) := by kernel_rfl
/-- The sorter of the specification: a box of five cells. -/
structure Bx5 (w : World) (X : Nat) (ks : Value) (ov : Bool) (an : Value) (aq : Value) (k : Bool) : Prop where
  lt : X < w.heap.size
  c0 : w.cell? ⟨X, 0, none⟩ = some ks
  c1 : w.cell? ⟨X, 1, none⟩ = some (.bool ov)
  c2 : w.cell? ⟨X, 2, none⟩ = some an
  c3 : w.cell? ⟨X, 3, none⟩ = some aq
  c4 : w.cell? ⟨X, 4, none⟩ = some (.bool k)
  f : ∀ o, w.frozen? ⟨X, o, none⟩ = false
  ty : ∃ cur p, w.heap[X]? = some (.cells cur 46 p)
theorem ty_set {w : World} {X o : Nat} {T : TypeId} {u : Value} (h : ∃ cur p, w.heap[X]? = some (.cells cur T p)) : ∃ cur p, (w.setCell ⟨X, o, none⟩ u).heap[X]? = some (.cells cur T p) := by
  obtain ⟨cur, p, h⟩ := h
  unfold World.setCell
  simp only [Array.getElem?_modify, if_pos rfl, h, Option.map_some]
  exact ⟨_, _, rfl⟩
theorem Bx5.but {w w' : World} {X : Nat} {ks an aq : Value} {ov k : Bool} {row : Option Nat} (h : Bx5 w X ks ov an aq k) (hg : w.grownBy w' row) (hne : some X ≠ row) : Bx5 w' X ks ov an aq k := by
  have e := hg.block X h.lt hne
  exact ⟨Nat.lt_of_lt_of_le h.lt hg.size, (World.cell?_of_block (a := ⟨X, 0, none⟩) e).trans h.c0, (World.cell?_of_block (a := ⟨X, 1, none⟩) e).trans h.c1, (World.cell?_of_block (a := ⟨X, 2, none⟩) e).trans h.c2, (World.cell?_of_block (a := ⟨X, 3, none⟩) e).trans h.c3, (World.cell?_of_block (a := ⟨X, 4, none⟩) e).trans h.c4, fun o => (World.frozen?_of_block (a := ⟨X, o, none⟩) e).trans (h.f o), by rw [e]; exact h.ty⟩
theorem Bx5.keep {w w' : World} {X : Nat} {ks an aq : Value} {ov k : Bool} (h : Bx5 w X ks ov an aq k) (hb : Below w.heap.size w w') : Bx5 w' X ks ov an aq k := by
  have e := hb.block X h.lt
  exact ⟨Nat.lt_of_lt_of_le h.lt hb.size, (World.cell?_of_block (a := ⟨X, 0, none⟩) e).trans h.c0, (World.cell?_of_block (a := ⟨X, 1, none⟩) e).trans h.c1, (World.cell?_of_block (a := ⟨X, 2, none⟩) e).trans h.c2, (World.cell?_of_block (a := ⟨X, 3, none⟩) e).trans h.c3, (World.cell?_of_block (a := ⟨X, 4, none⟩) e).trans h.c4, fun o => (World.frozen?_of_block (a := ⟨X, o, none⟩) e).trans (h.f o), by rw [e]; exact h.ty⟩
theorem Bx5.set3 {w : World} {X : Nat} {ks an aq : Value} {ov k : Bool} (h : Bx5 w X ks ov an aq k) (u : Value) : Bx5 (w.setCell ⟨X, 3, none⟩ u) X ks ov an u k :=
  ⟨by simpa [World.setCell] using h.lt, by rw [World.cell?_setCell_other _ _ _ _ (by simp)]; exact h.c0, by rw [World.cell?_setCell_other _ _ _ _ (by simp)]; exact h.c1, by rw [World.cell?_setCell_other _ _ _ _ (by simp)]; exact h.c2, World.cell?_setCell_same _ _ _ h.c3, by rw [World.cell?_setCell_other _ _ _ _ (by simp)]; exact h.c4, fun o => by simp only [World.frozen?_setCell]; exact h.f o, ty_set h.ty⟩
theorem Bx5.set4 {w : World} {X : Nat} {ks an aq : Value} {ov k : Bool} (h : Bx5 w X ks ov an aq k) (u : Bool) : Bx5 (w.setCell ⟨X, 4, none⟩ (.bool u)) X ks ov an aq u :=
  ⟨by simpa [World.setCell] using h.lt, by rw [World.cell?_setCell_other _ _ _ _ (by simp)]; exact h.c0, by rw [World.cell?_setCell_other _ _ _ _ (by simp)]; exact h.c1, by rw [World.cell?_setCell_other _ _ _ _ (by simp)]; exact h.c2, by rw [World.cell?_setCell_other _ _ _ _ (by simp)]; exact h.c3, World.cell?_setCell_same _ _ _ h.c4, fun o => by simp only [World.frozen?_setCell]; exact h.f o, ty_set h.ty⟩
/-- The specification's sorter at a state. -/
def SS (w0 w : World) (X : Nat) (ov : Bool) (ks an : Value) (s : St) : Prop := w0.heap.size ≤ X ∧ ∃ aq, Bx5 w X ks ov an aq s.k ∧ OwnG shQ 43 w w0.heap.size aq s.h ∧ Below w0.heap.size w0 w
end Go.Proofs.Ytlnekedehalbdaa
