import Derived.Test.YtiihfaohdgkhaaaDoorBaseI
namespace Go.Proofs.YtiihfaohdgkhaaaDoor.Str
open Go.RowKit
set_option linter.unusedVariables false
set_option linter.unusedSimpArgs false

abbrev Z : ByteArray := ⟨#[]⟩
/-- The slice value v reads, in w, as the texts zs. -/
def Rd (w : World) (v : Value) (zs : List ByteArray) : Prop :=
  ∃ a cap, v = .slice a zs.length cap ∧ zs.length ≤ 16777216 ∧ (zs.length ≤ cap ∧ (a = none → cap = 0)) ∧
    (0 < zs.length → ∃ b off, a = some ⟨b, off, none⟩ ∧ b < w.heap.size ∧ ∀ k, k < zs.length → w.cell? ⟨b, off + k, none⟩ = some (.string (zs.getD k Z)))
/-- The slice value v owns, in w, from block B on, the texts zs. -/
def Own (w : World) (B : Nat) (v : Value) (zs : List ByteArray) : Prop := w.ownsRow B 9 1 v zs.length (zs.map Value.string) ∧ zs.length ≤ 16777216

theorem Rd.keep {w w' : World} {v : Value} {zs : List ByteArray} (h : Rd w v zs) (hb : Below w.heap.size w w') : Rd w' v zs := by
  obtain ⟨a, cap, rfl, hl, hn0, hc⟩ := h
  refine ⟨a, cap, rfl, hl, hn0, fun h0 => ?_⟩
  obtain ⟨b, off, rfl, hbw, hcell⟩ := hc h0
  exact ⟨b, off, rfl, Nat.lt_of_lt_of_le hbw hb.size, fun k hk => (hb.cell (p := ⟨b, off + k, none⟩) hbw).trans (hcell k hk)⟩
theorem Own.keep {w w' : World} {B : Nat} {v : Value} {zs : List ByteArray} (h : Own w B v zs) (hb : Below w.heap.size w w') : Own w' B v zs := by
  obtain ⟨⟨h1, h2⟩, hl⟩ := h
  refine ⟨⟨h1, ?_⟩, hl⟩
  rcases h2 with h2 | ⟨g, cap, cur, hv, hg, hh, r⟩
  · exact .inl h2
  · refine .inr ⟨g, cap, cur, hv, hg, ?_, r⟩
    have hlt : g < w.heap.size := by
      rcases Nat.lt_or_ge g w.heap.size with h | h
      · exact h
      · rw [Array.getElem?_eq_none h] at hh; cases hh
    rw [hb.block g hlt]; exact hh
theorem Own.mono {w : World} {B B' : Nat} {v : Value} {zs : List ByteArray} (h : Own w B v zs) (hB : B' ≤ B) : Own w B' v zs := by
  obtain ⟨⟨h1, h2⟩, hl⟩ := h
  refine ⟨⟨h1, ?_⟩, hl⟩
  rcases h2 with h2 | ⟨g, cap, cur, hv, hg, r⟩
  · exact .inl h2
  · exact .inr ⟨g, cap, cur, hv, Nat.le_trans hB hg, r⟩
theorem Own.drew {w : World} {B : Nat} {v : Value} {zs : List ByteArray} (h : Own w B v zs) : Own w.drew B v zs := ⟨h.1.drew, h.2⟩
theorem Own.alloc {w : World} {B : Nat} {v : Value} {zs : List ByteArray} (h : Own w B v zs) (o : Obj) : Own (w.alloc o) B v zs := ⟨h.1.alloc o, h.2⟩
theorem Own.nil (w : World) (B : Nat) : Own w B (.slice none 0 0) [] := ⟨World.ownsRow_nil _ _ _ _, by simp⟩
theorem Own.rd {w : World} {B : Nat} {v : Value} {zs : List ByteArray} (h : Own w B v zs) : Rd w v zs := by
  obtain ⟨hown, hl⟩ := h
  have hown' := hown
  obtain ⟨h1, h2⟩ := hown
  rcases h2 with ⟨rfl, h0⟩ | ⟨g, cap, cur, rfl, hg, hh, hcp, _, _, htake⟩
  · have hz0 : zs = [] := by cases zs <;> simp_all
    subst hz0
    exact ⟨none, 0, rfl, by simp, ⟨Nat.le_refl _, fun _ => rfl⟩, fun h => by simp at h⟩
  · refine ⟨_, cap, rfl, hl, ⟨hcp, fun h => by (cases h)⟩, fun h0 => ⟨g, 0, rfl, ?_, fun k hk => ?_⟩⟩
    · rcases Nat.lt_or_ge g w.heap.size with h | h
      · exact h
      · rw [Array.getElem?_eq_none h] at hh; cases hh
    · rw [Nat.zero_add, hown'.cellAt k (by omega)]
      simp [hk, List.getD]
theorem Own.shape {w : World} {B : Nat} {v : Value} {zs : List ByteArray} (h : Own w B v zs) : (v = .slice none 0 0 ∧ zs = []) ∨ ∃ g cap, v = .slice (some ⟨g, 0, none⟩) zs.length cap ∧ B ≤ g ∧ g < w.heap.size ∧ zs.length ≤ cap := by
  obtain ⟨⟨h1, h2⟩, hl⟩ := h
  rcases h2 with ⟨rfl, h0⟩ | ⟨g, cap, cur, rfl, hg, hh, hc, _⟩
  · left; refine ⟨rfl, ?_⟩; cases zs <;> simp_all
  · right; refine ⟨g, cap, rfl, hg, ?_, hc⟩
    rcases Nat.lt_or_ge g w.heap.size with h | h
    · exact h
    · rw [Array.getElem?_eq_none h] at hh; cases hh
theorem Own.len {w : World} {B g cap n : Nat} {zs : List ByteArray} (h : Own w B (.slice (some ⟨g, 0, none⟩) n cap) zs) : n = zs.length := by
  rcases h.1.2 with ⟨h', _⟩ | ⟨g', cap', cur, h', _⟩
  · cases h'
  · simp at h'; exact h'.2.1
theorem Own.cell {w : World} {B g cap n : Nat} {zs : List ByteArray} (h : Own w B (.slice (some ⟨g, 0, none⟩) n cap) zs) (k : Nat) (hk : k < zs.length) : w.cell? ⟨g, k, none⟩ = some (.string (zs.getD k Z)) := by
  obtain rfl := h.len
  rw [h.1.cellAt k (by omega)]; simp [hk, List.getD]
theorem Own.frozen {w : World} {B g cap n : Nat} {zs : List ByteArray} (h : Own w B (.slice (some ⟨g, 0, none⟩) n cap) zs) (k : Nat) : w.frozen? ⟨g, k, none⟩ = false := by
  obtain rfl := h.len
  exact h.1.frozenAt k
theorem Own.form {w : World} {B : Nat} {v : Value} {zs : List ByteArray} (h : Own w B v zs) : ∃ a c, v = .slice a zs.length c := by
  rcases h.shape with ⟨rfl, rfl⟩ | ⟨g, cap, rfl, _⟩
  · exact ⟨_, _, rfl⟩
  · exact ⟨_, _, rfl⟩
theorem Own.but {w w' : World} {B : Nat} {v : Value} {zs : List ByteArray} {row : Option Nat} (h : Own w B v zs) (hg : w.grownBy w' row) (hne : v.ownBlock = none ∨ v.ownBlock ≠ row) : Own w' B v zs := ⟨h.1.kept hg hne, h.2⟩
theorem Own.lt {w : World} {B : Nat} {v : Value} {zs : List ByteArray} (h : Own w B v zs) : ∀ k, v.ownBlock = some k → B ≤ k ∧ k < w.heap.size := h.1.lt
theorem Own.store {w : World} {B g cap n : Nat} {zs : List ByteArray} (h : Own w B (.slice (some ⟨g, 0, none⟩) n cap) zs) (k : Nat) (z : ByteArray) :
    Own (w.setCell ⟨g, k, none⟩ (.string z)) B (.slice (some ⟨g, 0, none⟩) n cap) (zs.set k z) := by
  obtain ⟨hown, hl⟩ := h
  have hn : n = zs.length := by
    rcases hown.2 with ⟨h', _⟩ | ⟨g', cap', cur, h', _⟩
    · cases h'
    · simp at h'; exact h'.2.1
  subst hn
  refine ⟨?_, by simpa using hl⟩
  have := (hown.stored k (.string z)).1
  simpa [List.map_set] using this
theorem Tryd.info9 : (Tryd.prog.info? 9).map (fun i => (i.zero, i.size, i.bytes)) = some (some (.string Z), 1, 16) := by kernel_rfl
/-- 'append(xs, ys...)'. -/
theorem wpList_append_rd {w : World} {ops : Array Oper} {rest : List Oper} {o : Oper} {a : Act} {Q : Exit → Act → World → Prop} (hgd : o.guard = none) (s x : Operand) (t : TypeId)
    (ho : o.op = .call { callee := .builtin .append, args := #[s, x], argTypes := #[t, t] }) (ht : Tryd.prog.underlying t = some (.slice 9))
    (B : Nat) (v : Value) (xs : List ByteArray) (y : ByteArray) (hs : a.eval s = v) (hown : Own w B v xs) (ad : Addr) (c : Nat) (hx : a.eval x = .slice (some ad) 1 c) (hy : w.cell? (ad.add 0) = some (.string y)) (hlen : xs.length + 1 ≤ 16777216) (hB : B ≤ w.heap.size)
    (h : ∀ a' c' w', Own w' B (.slice a' (xs ++ [y]).length c') (xs ++ [y]) → Below B w w' → wpList Tryd.prog ops Q rest (a.put o.dst (.slice a' (xs ++ [y]).length c')) w') :
    wpList Tryd.prog ops Q (o :: rest) a w := by
  obtain ⟨i0, hi, hz0, hz1, hz2⟩ := info_parts Tryd.info9
  refine wpList_append_own w hgd s x t ho B 9 i0 (.string Z) 1 16 ht hi hz0 hz1 hz2 rfl (by decide) v _ _ hs hown.1 ad 1 c [Value.string y] hx (by simp) ?_ ?_ (by unfold maxLen; omega) (by omega) hB ?_
  · intro j z hj
    have hj' : j = 0 := by
      rcases Nat.lt_or_ge j 1 with h | h
      · omega
      · rw [List.getElem?_eq_none (by simpa using h)] at hj; cases hj
    subst hj'
    simp at hj
    subst hj
    exact hy
  · intro z hz'
    simp at hz'
    subst hz'
    rfl
  · intro v' w' h1 h2 _
    have hO : Own w' B v' (xs ++ [y]) := ⟨by simpa using h1, by simpa using hlen⟩
    obtain ⟨a', c', rfl⟩ := hO.form
    exact h a' c' w' hO ((Below.refl _ _).grown h2 hB (fun k hk => (hown.1.lt k hk).1))
theorem Own.empty (w : World) : Own (w.alloc (.cells #[] 9)) w.heap.size (.slice (some ⟨w.heap.size, 0, none⟩) 0 0) [] :=
  ⟨World.ownsRow_lit w #[] 0 (Nat.le_refl _) (Nat.zero_le _) rfl, by simp⟩
/-- A row that was laid whole. -/
theorem Own.lit (w : World) (zs : List ByteArray) (hl : zs.length ≤ 16777216) : Own (w.alloc (.cells (zs.map Value.string).toArray 9)) w.heap.size (.slice (some ⟨w.heap.size, 0, none⟩) zs.length zs.length) zs := by
  refine ⟨?_, hl⟩
  have := World.ownsRow_lit (base := w.heap.size) (e := 9) (size := 1) w (zs.map Value.string).toArray zs.length (Nat.le_refl _) (by unfold maxLen; omega) (by simp)
  simpa using this
end Go.Proofs.YtiihfaohdgkhaaaDoor.Str
