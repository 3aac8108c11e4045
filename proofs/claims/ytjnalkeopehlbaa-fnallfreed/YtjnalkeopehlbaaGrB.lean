import Derived.Test.YtjnalkeopehlbaaHelpZ
import Derived.Test.YtjnalkeopehlbaaBaseG
import Derived.Deep.AppendLies
namespace Go.Proofs.Ytjnalkeopehlbaa
open Go.RowKit Go.Maps
set_option linter.unusedVariables false
set_option linter.unusedSimpArgs false

def shB : Sh Bool := ⟨1, by decide, fun b => [.bool b], fun _ => True, fun _ => rfl, fun a u hu => by simp at hu; subst hu; rfl⟩
theorem Try.info4 : (Try.prog.info? 4).map (fun i => (i.zero, i.size, i.bytes)) = some (some (.bool false), 1, 1) := by kernel_rfl
theorem own_unlike {α β : Type} {S : Sh α} {S' : Sh β} {T T' : TypeId} {w : World} {B B' g n c : Nat} {v : Value} {xs : List α} {ys : List β} (h : OwnG S T w B (.slice (some ⟨g, 0, none⟩) n c) xs) (h' : OwnG S' T' w B' v ys) (hT : T ≠ T') : v.ownBlock ≠ some g := by
  intro e
  obtain ⟨⟨_, h2⟩, _⟩ := h
  obtain ⟨⟨_, h3⟩, _⟩ := h'
  rcases h2 with ⟨e2, _⟩ | ⟨g2, cap2, cur2, e2, _, hh2, _⟩
  · cases e2
  rcases h3 with ⟨e3, _⟩ | ⟨g3, cap3, cur3, e3, _, hh3, _⟩
  · rw [e3] at e; cases e
  · rw [e3] at e
    simp only [Value.ownBlock, Option.some.injEq] at e
    simp only [Value.slice.injEq, Option.some.injEq, Addr.mk.injEq, and_true] at e2
    rw [← e2.1, ← e, hh3] at hh2
    simp only [Option.some.injEq, Obj.cells.injEq] at hh2
    exact hT hh2.2.1.symm
/-- A slice as an element. -/
structure Sl where
  a : Option Addr
  n : Nat
  c : Nat
def Sl.val (s : Sl) : Value := .slice s.a s.n s.c
def shL : Sh Sl := ⟨1, by decide, fun s => [s.val], fun _ => True, fun _ => rfl, fun a u hu => by simp [Sl.val] at hu; subst hu; rfl⟩
theorem Try.info23 : (Try.prog.info? 23).map (fun i => (i.zero, i.size, i.bytes)) = some (some (.slice none 0 0), 1, 24) := by kernel_rfl
theorem Own.raw {w : World} {B g n cap : Nat} {zs : List Int} (h : Own w B (.slice (some ⟨g, 0, none⟩) n cap) zs) : ∃ cur, w.heap[g]? = some (.cells cur 2 (0, 0)) ∧ cur.size = cap ∧ cap ≤ maxLen ∧ B ≤ g ∧ n = zs.length ∧ n ≤ cap := by
  obtain ⟨⟨h1, h2⟩, _⟩ := h
  rcases h2 with ⟨e, _⟩ | ⟨g', cap', cur, e, hg, hh, hc, hm, hs, ht⟩
  · cases e
  · simp only [Value.slice.injEq, Option.some.injEq, Addr.mk.injEq, and_true] at e
    obtain ⟨rfl, e2, rfl⟩ := e
    exact ⟨cur, hh, by omega, hm, hg, e2, by omega⟩
theorem own_apart {α : Type} {S : Sh α} {T : TypeId} {w : World} {B B' g n c : Nat} {v : Value} {xs : List α} {zs : List Int} (h : OwnG S T w B (.slice (some ⟨g, 0, none⟩) n c) xs) (h' : Own w B' v zs) (hT : T ≠ 2) : v.ownBlock ≠ some g := by
  intro ho
  rcases h'.shape with ⟨e1, _⟩ | ⟨g1, c1, e1, _⟩
  · rw [e1] at ho; cases ho
  · rw [e1] at ho h'
    simp only [Value.ownBlock, Option.some.injEq] at ho
    obtain ⟨cur, hh, _⟩ := h'.raw
    obtain ⟨⟨_, h2⟩, _⟩ := h
    rcases h2 with ⟨e2, _⟩ | ⟨g2, cap2, cur2, e2, _, hh2, _⟩
    · cases e2
    · simp only [Value.slice.injEq, Option.some.injEq, Addr.mk.injEq, and_true] at e2
      rw [← e2.1, ← ho, hh] at hh2
      simp only [Option.some.injEq, Obj.cells.injEq] at hh2
      exact hT hh2.2.1.symm
/-- A row of rows that is ours, the rows in it too, each by itself. -/
theorem wpList_append_intL {w : World} {ops : Array Oper} {rest : List Oper} {o : Oper} {a : Act} {Q : Exit → Act → World → Prop} (hgd : o.guard = none) (s x : Operand) (t : TypeId)
    (ho : o.op = .call { callee := .builtin .append, args := #[s, x], argTypes := #[t, t] }) (ht : Try.prog.underlying t = some (.slice 2))
    (B : Nat) (v : Value) (xs : List Int) (y : Int) (hy : -9223372036854775808 ≤ y ∧ y < 9223372036854775808) (g c : Nat) (hs : a.eval s = v) (hx : a.eval x = .slice (some ⟨g, 0, none⟩) 1 c) (hown : Own w B v xs) (hc : w.cell? ⟨g, 0, none⟩ = some (.int .i64 y)) (hlen : xs.length + 1 ≤ 16777216) (hB : B ≤ w.heap.size)
    (h : ∀ b c' w', Own w' B (.slice (some ⟨b, 0, none⟩) (xs.length + 1) c') (xs ++ [y]) → w.grownBy w' v.ownBlock → (v.ownBlock = some b ∨ b = w.heap.size) → b < w'.heap.size → wpList Try.prog ops Q rest (a.put o.dst (.slice (some ⟨b, 0, none⟩) (xs.length + 1) c')) w') :
    wpList Try.prog ops Q (o :: rest) a w := by
  obtain ⟨i0, hi, hz0, hz1, hz2⟩ := info_parts Try.info2
  refine wpList_append_lies w hgd s x t ho B 2 i0 (.int .i64 0) 1 8 ht hi hz0 hz1 hz2 rfl (by decide) v _ _ hs hown.1 ⟨g, 0, none⟩ 1 c [.int .i64 y] hx (by simp) ?_ (by simp [Value.oneCell']) (by decide) (by unfold maxLen; omega) (by omega) hB _ rfl ?_
  · intro j u hj
    cases j with
    | zero => simp at hj; subst hj; simpa [Addr.add] using hc
    | succ j => simp at hj
  · intro b c' w' h1 h2 h3 h4
    exact h b c' w' ⟨by simpa using h1, by simpa using hlen, hown.2.2.append (Limbs.one hy.1 hy.2)⟩ h2 h3 h4
theorem step_append_intL {w : World} {ops : Array Oper} {o : Oper} {a : Act} {K : Act → World → Prop} {Q : Exit → Act → World → Prop} {E : Prop} (hgd : o.guard = none) (s x : Operand) (t : TypeId)
    (ho : o.op = .call { callee := .builtin .append, args := #[s, x], argTypes := #[t, t] }) (ht : Try.prog.underlying t = some (.slice 2))
    (B : Nat) (v : Value) (xs : List Int) (y : Int) (hy : -9223372036854775808 ≤ y ∧ y < 9223372036854775808) (g c : Nat) (hs : a.eval s = v) (hx : a.eval x = .slice (some ⟨g, 0, none⟩) 1 c) (hown : Own w B v xs) (hc : w.cell? ⟨g, 0, none⟩ = some (.int .i64 y)) (hlen : xs.length + 1 ≤ 16777216) (hB : B ≤ w.heap.size)
    (h : ∀ b c' w', Own w' B (.slice (some ⟨b, 0, none⟩) (xs.length + 1) c') (xs ++ [y]) → w.grownBy w' v.ownBlock → (v.ownBlock = some b ∨ b = w.heap.size) → b < w'.heap.size → K (a.put o.dst (.slice (some ⟨b, 0, none⟩) (xs.length + 1) c')) w') :
    if Region.wanted o (yielded ops a.tmps) = true then Oper.wp Try.prog o a w K Q else E := by
  obtain ⟨i0, hi, hz0, hz1, hz2⟩ := info_parts Try.info2
  refine step_append_lies w hgd s x t ho B 2 i0 (.int .i64 0) 1 8 ht hi hz0 hz1 hz2 rfl (by decide) v _ _ hs hown.1 ⟨g, 0, none⟩ 1 c [.int .i64 y] hx (by simp) ?_ (by simp [Value.oneCell']) (by decide) (by unfold maxLen; omega) (by omega) hB _ rfl ?_
  · intro j u hj
    cases j with
    | zero => simp at hj; subst hj; simpa [Addr.add] using hc
    | succ j => simp at hj
  · intro b c' w' h1 h2 h3 h4
    exact h b c' w' ⟨by simpa using h1, by simpa using hlen, hown.2.2.append (Limbs.one hy.1 hy.2)⟩ h2 h3 h4
/-- A row of one-cell elements that was made. -/
theorem OwnG.made1 {α : Type} {S : Sh α} {T : TypeId} {w' : World} {B n : Nat} {v z : Value} (x : α) (hS : S.n = 1) (hx : S.cs x = [z]) (hok : S.ok x) (hz : Value.cells z = #[z]) (hl : n ≤ 16777216) (h : w'.ownsRow B T 1 v n (madeCells (Value.cells z) (n * 1)).toList) : OwnG S T w' B v (List.replicate n x) := by
  have hf : (List.replicate n x).flatMap S.cs = (madeCells (Value.cells z) (n * 1)).toList := by
    apply List.ext_getElem?
    intro i
    by_cases hi : i < n
    · have h1 := flat_get S (List.replicate n x) i (by simpa using hi) 0 (by omega)
      rw [show i * S.n + 0 = i by rw [hS]; omega, List.getElem_replicate, hx] at h1
      rw [h1]
      have h2 : (madeCells (Value.cells z) (n * 1)).toList[i]? = some z := by
        rw [hz, toList_madeCells_one]
        simp [hi]
      rw [h2]; rfl
    · rw [List.getElem?_eq_none (by rw [flat_length, List.length_replicate, hS]; omega), List.getElem?_eq_none (by rw [Array.length_toList, size_madeCells]; omega)]
  refine ⟨?_, by simpa using hl, fun e he => ?_⟩
  · rw [hf, List.length_replicate, hS]; exact h
  · simp at he; rw [he.2]; exact hok
/-- A row of rows that is ours, the rows in it too, each by itself, all of them younger. -/
structure NX (w : World) (nb N : Nat) (sls : List Sl) (Ls : Nat → List Int) : Prop where
  out : OwnG shL 23 w nb (.slice (some ⟨nb, 0, none⟩) N N) sls
  len : sls.length = N
  row : ∀ k (h : k < sls.length), Own w (nb + 1) sls[k].val (Ls k)
  apart : ∀ j k (hj : j < sls.length) (hk : k < sls.length), j ≠ k → sls[j].val.ownBlock = none ∨ sls[j].val.ownBlock ≠ sls[k].val.ownBlock
theorem NX.keep {w w' : World} {nb N : Nat} {sls : List Sl} {Ls : Nat → List Int} (h : NX w nb N sls Ls) (hb : Below w.heap.size w w') : NX w' nb N sls Ls :=
  ⟨h.out.keep hb, h.len, fun k hk => (h.row k hk).keep hb, h.apart⟩
theorem NX.made {w : World} {nb N : Nat} (hl : N ≤ 16777216) (h : w.ownsRow nb 23 1 (.slice (some ⟨nb, 0, none⟩) N N) N (madeCells (Value.cells (.slice none 0 0)) (N * 1)).toList) : NX w nb N (List.replicate N ⟨none, 0, 0⟩) fun _ => [] := by
  refine ⟨OwnG.made1 (S := shL) ⟨none, 0, 0⟩ rfl rfl trivial rfl hl h, by simp, fun k hk => ?_, fun j k hj hk _ => ?_⟩
  · rw [List.getElem_replicate]; exact Own.nil _ _
  · left; rw [List.getElem_replicate]; rfl
theorem NX.cell {w : World} {nb N : Nat} {sls : List Sl} {Ls : Nat → List Int} (h : NX w nb N sls Ls) (k : Nat) (hk : k < sls.length) : w.cell? ⟨nb, k, none⟩ = some sls[k].val := by
  have := h.out.cell k hk 0 (by decide)
  have e : k * shL.n + 0 = k := by show k * 1 + 0 = k; omega
  rw [e] at this
  exact this
theorem NX.more {w w' : World} {nb N : Nat} {sls : List Sl} {Ls : Nat → List Int} (h : NX w nb N sls Ls) (i : Nat) (hi : i < sls.length) (b n c : Nat) (y : Int) (hO : Own w' (nb + 1) (.slice (some ⟨b, 0, none⟩) n c) (Ls i ++ [y])) (hg : w.grownBy w' sls[i].val.ownBlock) (hl : sls[i].val.ownBlock = some b ∨ b = w.heap.size) :
    NX (w'.setCell ⟨nb, i, none⟩ (.slice (some ⟨b, 0, none⟩) n c)) nb N (sls.set i ⟨some ⟨b, 0, none⟩, n, c⟩) (fun k => if k = i then Ls i ++ [y] else Ls k) := by
  have hout : OwnG shL 23 w' nb (.slice (some ⟨nb, 0, none⟩) N N) sls := h.out.but hg (.inr (by
    show some nb ≠ _
    intro e
    have := (h.row i hi).lt nb e.symm
    omega))
  have hput := hout.put i hi 0 (by decide) (.slice (some ⟨b, 0, none⟩) n c) ⟨some ⟨b, 0, none⟩, n, c⟩ trivial rfl
  have e : i * shL.n + 0 = i := by show i * 1 + 0 = i; omega
  rw [e] at hput
  refine ⟨hput, by rw [List.length_set]; exact h.len, fun k hk => ?_, fun j k hj hk hjk => ?_⟩
  · rw [List.length_set] at hk
    rw [List.getElem_set]
    by_cases ek : i = k
    · subst ek
      rw [if_pos rfl, if_pos rfl]
      exact hO.setBelow (show nb < nb + 1 by omega) _
    · rw [if_neg ek, if_neg (fun e => ek e.symm)]
      exact ((h.row k hk).but hg (h.apart k i hk hi (fun e => ek e.symm))).setBelow (show nb < nb + 1 by omega) _
  · rw [List.length_set] at hj hk
    rw [List.getElem_set, List.getElem_set]
    have key : ∀ k (hk : k < sls.length), k ≠ i → sls[k].val.ownBlock = none ∨ sls[k].val.ownBlock ≠ some b := by
      intro k hk hne
      rcases h.apart k i hk hi hne with h1 | h1
      · exact .inl h1
      · rcases hl with h2 | h2
        · rw [h2] at h1; exact .inr h1
        · right; intro e
          have := ((h.row k hk).lt b e).2
          omega
    by_cases ej : i = j
    · subst ej
      rw [if_pos rfl, if_neg hjk]
      rcases key k hk (fun e => hjk e.symm) with h1 | h1
      · right; rw [h1]; intro e; cases e
      · right; exact fun e => h1 e.symm
    · rw [if_neg ej]
      by_cases ek : i = k
      · subst ek
        rw [if_pos rfl]
        exact key j hj hjk
      · rw [if_neg ek]
        exact h.apart j k hj hk hjk
end Go.Proofs.Ytjnalkeopehlbaa
