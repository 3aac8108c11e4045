import Derived.Test.YtfbibbjiomfncaaMrS
import Derived.Deep.AppendLies
namespace Go.Proofs.Ytfbibbjiomfncaa
open Go.RowKit
set_option linter.unusedVariables false
set_option linter.unusedSimpArgs false

theorem LL.mono {P Q : Nat → Prop} {w : World} {B g n cap : Nat} {Ls : List (List Int)} (h : LL P w B g n cap Ls) (hPQ : ∀ b, P b → Q b) : LL Q w B g n cap Ls := by
  obtain ⟨sls, hO, hl, hr⟩ := h
  exact ⟨sls, hO, hl, fun k h h' => (hr k h h').mono hPQ⟩
/-- A row of rows that lie elsewhere. -/
def LLn (w : World) (B g n cap : Nat) (Ls : List (List Int)) : Prop := LL (fun b => b < w.heap.size ∧ b ≠ g) w B g n cap Ls
theorem LLn.keep {w w' : World} {B g n cap : Nat} {Ls : List (List Int)} (h : LLn w B g n cap Ls) (hb : Below w.heap.size w w') : LLn w' B g n cap Ls :=
  (LL.same h (hb.block g (LL.size h).2) (fun b hb' _ => hb.block b hb') hb.size).mono (fun b hb' => ⟨Nat.lt_of_lt_of_le hb'.1 hb.size, hb'.2⟩)
theorem LLn.new (w : World) : LLn (w.alloc (.cells #[] 51)) w.heap.size w.heap.size 0 0 [] :=
  ⟨[], ⟨World.ownsRow_lit w #[] 0 (Nat.le_refl _) (Nat.zero_le _) (by simp), by simp, by simp⟩, rfl, fun k h => by simp at h⟩
theorem LLn.base {w : World} {B B' g n cap : Nat} {Ls : List (List Int)} (h : LLn w B g n cap Ls) (hB : B' ≤ B) : LLn w B' g n cap Ls := by
  obtain ⟨sls, hO, hl, hr⟩ := h
  exact ⟨sls, hO.mono hB, hl, hr⟩
theorem RdX.of {w : World} {v : Value} {zs : List Int} {P : Nat → Prop} (h : Rd w v zs) (hv : ∀ b off n c, v = .slice (some ⟨b, off, none⟩) n c → P b) : RdX P w v zs := ⟨h, fun _ => hv⟩

/-- 'append(lines, line)'. -/
theorem wpList_append_LL {w : World} {ops : Array Oper} {rest : List Oper} {o : Oper} {a : Act} {Q : Exit → Act → World → Prop} (hgd : o.guard = none) (s x : Operand) (t : TypeId)
    (ho : o.op = .call { callee := .builtin .append, args := #[s, x], argTypes := #[t, t] }) (ht : Try.prog.underlying t = some (.slice 51))
    (B g n cap : Nat) (Ls : List (List Int)) (hs : a.eval s = .slice (some ⟨g, 0, none⟩) n cap) (hL : LLn w B g n cap Ls) (xb xc : Nat) (hx : a.eval x = .slice (some ⟨xb, 0, none⟩) 1 xc) (sa : Option Addr) (sn sc : Nat) (l : List Int)
    (hc : w.cell? ⟨xb, 0, none⟩ = some (.slice sa sn sc)) (hr : RdX (fun b => b < w.heap.size ∧ b ≠ g) w (.slice sa sn sc) l) (hlen : n ≤ 1000) (hB : B ≤ w.heap.size)
    (h : ∀ g' cap' w', LLn w' B g' (n + 1) cap' (Ls ++ [l]) → w.grownBy w' (some g) → (g' = g ∨ g' = w.heap.size) → wpList Try.prog ops Q rest (a.put o.dst (.slice (some ⟨g', 0, none⟩) (n + 1) cap')) w') :
    wpList Try.prog ops Q (o :: rest) a w := by
  obtain ⟨sls, hO, hl, hR⟩ := hL
  have hn := hO.len (g := g) (cap := cap)
  subst hn
  obtain ⟨i0, hi, hz0, hz1, hz2⟩ := info_parts Try.info51
  refine wpList_append_lies w hgd s x t ho B 51 i0 (.slice none 0 0) 1 24 ht hi hz0 hz1 hz2 rfl (by decide) (.slice (some ⟨g, 0, none⟩) sls.length cap) sls.length _ hs hO.1 ⟨xb, 0, none⟩ 1 xc [.slice sa sn sc] hx (by simp) ?_ (by simp [Value.oneCell']) (by decide) (by unfold maxLen; omega) (by omega) hB _ rfl ?_
  · intro j u hj
    cases j with
    | zero => simp at hj; subst hj; simpa [Addr.add] using hc
    | succ j => simp at hj
  · intro g' c' w' h1 h2 h3 h4
    have hgr : w.grownBy w' (some g) := h2
    have hg' : g' = g ∨ g' = w.heap.size := h3.imp (fun e => by simpa [Value.ownBlock] using e.symm) id
    have hs : ∀ b, b < w.heap.size → (b < w.heap.size ∧ b ≠ g) → w'.heap[b]? = w.heap[b]? := fun b hb hb' => hgr.block b hb (by simp; exact hb'.2)
    have hP : ∀ b, (b < w.heap.size ∧ b ≠ g) → (b < w'.heap.size ∧ b ≠ g') := fun b hb => ⟨Nat.lt_of_lt_of_le hb.1 hgr.size, by rcases hg' with rfl | rfl <;> omega⟩
    have hfin := h g' c' w' ⟨sls ++ [⟨sa, sn, sc⟩], ⟨by simpa [shL, Sl.val] using h1, by simp; omega, fun y hy => trivial⟩, by simp [hl], fun k hk hk' => ?_⟩ hgr hg'
    · exact hfin
    · rw [List.getElem_append, List.getElem_append]
      split
      · rename_i hk1
        rw [dif_pos (by omega)]
        exact ((hR k hk1 (by omega)).same hs hgr.size).mono hP
      · rename_i hk1
        rw [dif_neg (by omega)]
        simp only [List.getElem_singleton]
        exact (hr.same hs hgr.size).mono hP
end Go.Proofs.Ytfbibbjiomfncaa
