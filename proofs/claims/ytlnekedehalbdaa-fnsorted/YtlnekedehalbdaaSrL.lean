import Derived.Test.YtlnekedehalbdaaSrR
namespace Go.Proofs.Ytlnekedehalbdaa
open Go.RowKit
set_option linter.unusedVariables false
set_option linter.unusedSimpArgs false

/-- 'append(xs, e)' as one step of a region that draws its order. -/
theorem step_append_one {α : Type} {S : Sh α} {T : TypeId} {zv : Value} {by' : Nat} (hinfo : (Try.prog.info? T).map (fun i => (i.zero, i.size, i.bytes)) = some (some zv, S.n, by')) (hzc : zv.cells.size = S.n) (hby : by' ≤ 64)
    {w : World} {ops : Array Oper} {o : Oper} {a : Act} {K : Act → World → Prop} {Q : Exit → Act → World → Prop} {E : Prop} (hgd : o.guard = none) (s x : Operand) (t : TypeId)
    (ho : o.op = .call { callee := .builtin .append, args := #[s, x], argTypes := #[t, t] }) (ht : Try.prog.underlying t = some (.slice T)) (B : Nat) (v : Value) (xs : List α) (e : α) (he : S.ok e) (g c : Nat) (hs : a.eval s = v) (hx : a.eval x = .slice (some ⟨g, 0, none⟩) 1 c)
    (hown : OwnG S T w B v xs) (hc : ∀ j, j < S.n → w.cell? ⟨g, j, none⟩ = (S.cs e)[j]?) (hlen : xs.length + 1 ≤ 16777216) (hB : B ≤ w.heap.size)
    (h : ∀ a' c' w', OwnG S T w' B (.slice a' (xs ++ [e]).length c') (xs ++ [e]) → w.grownBy w' v.ownBlock → K (a.put o.dst (.slice a' (xs ++ [e]).length c')) w') :
    if Region.wanted o (yielded ops a.tmps) = true then Oper.wp Try.prog o a w K Q else E := by
  have hw : Region.wanted o (yielded ops a.tmps) = true := by simp [Region.wanted, hgd]
  rw [if_pos hw]
  obtain ⟨i0, hi, hz0, hz1, hz2⟩ := info_parts hinfo
  refine wp_append_own w s x t ho B T i0 zv S.n by' ht hi hz0 hz1 hz2 hzc S.pos v _ _ hs hown.1 ⟨g, 0, none⟩ 1 c (S.cs e) hx (by rw [S.len]; omega) ?_ (fun u hu => S.one e u hu) (by unfold maxLen; omega) ?_ hB ?_
  · intro j u hj
    have hj' : j < S.n := by
      rcases Nat.lt_or_ge j S.n with h | h
      · exact h
      · rw [List.getElem?_eq_none (by rw [S.len]; exact h)] at hj; cases hj
    have e' : (⟨g, 0, none⟩ : Addr).add j = ⟨g, j, none⟩ := by unfold Addr.add; split <;> simp_all
    rw [e', hc j hj', hj]
  · have : (xs.length + 1) * by' ≤ (xs.length + 1) * 64 := Nat.mul_le_mul_left _ hby
    omega
  · intro v' w' h1 h2 _
    have hO : OwnG S T w' B v' (xs ++ [e]) := ⟨by simpa using h1, by simpa using hlen, fun y hy => by
      rcases List.mem_append.1 hy with h | h
      · exact hown.2.2 y h
      · simp at h; subst h; exact he⟩
    obtain ⟨a', c', rfl⟩ := hO.form
    exact h a' c' w' hO h2

/-- A slice as an element. -/
structure Sl where
  a : Option Addr
  n : Nat
  c : Nat
def Sl.val (s : Sl) : Value := .slice s.a s.n s.c
def shL : Sh Sl := ⟨1, by decide, fun s => [s.val], fun _ => True, fun _ => rfl, fun a u hu => by simp [Sl.val] at hu; subst hu; rfl⟩
theorem Try.info22 : (Try.prog.info? 22).map (fun i => (i.zero, i.size, i.bytes)) = some (some (.slice none 0 0), 1, 24) := by kernel_rfl
/-- A row that is read, at a block of numbers that is not X. -/
def RdI (X : Nat) (w : World) (v : Value) (zs : List Int) : Prop := Rd w v zs ∧ (0 < zs.length → ∀ b off n c, v = .slice (some ⟨b, off, none⟩) n c → b ≠ X ∧ ∃ cur p, w.heap[b]? = some (.cells cur 2 p))
theorem RdI.rdF {X : Nat} {w : World} {v : Value} {zs : List Int} (h : RdI X w v zs) : RdF X w v zs := ⟨h.1, fun h0 b off n c e => by
  obtain ⟨h1, cur, p, h2⟩ := h.2 h0 b off n c e
  exact ⟨h1, fun cur' p' h3 => by rw [h2] at h3; simp only [Option.some.injEq, Obj.cells.injEq] at h3; exact absurd h3.2.1 (by decide)⟩⟩
theorem RdI.same {X : Nat} {w w' : World} {v : Value} {zs : List Int} (h : RdI X w v zs) (hz : w.heap.size ≤ w'.heap.size) (k : ∀ b, b < w.heap.size → b ≠ X → (∃ cur p, w.heap[b]? = some (.cells cur 2 p)) → w'.heap[b]? = w.heap[b]?) : RdI X w' v zs := by
  obtain ⟨⟨a, cap, rfl, hl, hzz, hn, hc⟩, hP⟩ := h
  refine ⟨⟨a, cap, rfl, hl, hzz, hn, fun h0 => ?_⟩, fun h0 b off n c e => ?_⟩
  · obtain ⟨b, off, rfl, hb, hcell⟩ := hc h0
    obtain ⟨h1, h2⟩ := hP h0 b off _ _ rfl
    exact ⟨b, off, rfl, Nat.lt_of_lt_of_le hb hz, fun j hj => (World.cell?_of_block (a := ⟨b, off + j, none⟩) (k b hb h1 h2)).trans (hcell j hj)⟩
  · obtain ⟨h1, h2⟩ := hP h0 b off n c e
    obtain ⟨b', off', e', hb, _⟩ := hc h0
    simp only [Value.slice.injEq] at e
    rw [e.1] at e'
    simp only [Option.some.injEq, Addr.mk.injEq, and_true] at e'
    obtain ⟨rfl, rfl⟩ := e'
    exact ⟨h1, by rw [k b hb h1 h2]; exact h2⟩
theorem RdI.off {X : Nat} {w w' : World} {v : Value} {zs : List Int} (h : RdI X w v zs) (k : Off w w' X) : RdI X w' v zs :=
  h.same k.1 (fun b hb h1 ⟨cur, p, h2⟩ => k.2 b hb h1 (fun cur' p' h3 => by rw [h2] at h3; simp only [Option.some.injEq, Obj.cells.injEq] at h3; exact absurd h3.2.1 (by decide)))
theorem Own.rdI {X B : Nat} {w : World} {v : Value} {zs : List Int} (h : Own w B v zs) (hX : X < B) : RdI X w v zs := ⟨h.rd, fun h0 b off n c e => by
  have ho : v.ownBlock = some b := by rw [e]; rfl
  exact ⟨by have := (h.lt b ho).1; omega, own_int h b ho⟩⟩
theorem own_sls {w : World} {B : Nat} {v : Value} {h : List Sl} (hO : OwnG shL 22 w B v h) : ∀ q, v.ownBlock = some q → ∃ cur p, w.heap[q]? = some (.cells cur 22 p) := by
  intro q hq
  rcases hO.1.2 with h2 | ⟨g', cap, cur, e, hg, hh, r⟩
  · rw [h2.1] at hq; cases hq
  · rw [e] at hq
    simp [Value.ownBlock] at hq
    subst hq
    exact ⟨cur, _, hh⟩
/-- A row of rows: the outer one is ours, the inner ones are read. -/
def RR (X : Nat) (w : World) (B : Nat) (v : Value) (Ls : List (List Int)) : Prop :=
  ∃ sls : List Sl, OwnG shL 22 w B v sls ∧ sls.length = Ls.length ∧ ∀ k (h : k < sls.length) (h' : k < Ls.length), RdI X w sls[k].val Ls[k]
theorem OwnG.off {α : Type} {S : Sh α} {T : TypeId} {X B : Nat} {w w' : World} {v : Value} {zs : List α} (h : OwnG S T w B v zs) (hT : T ≠ 43) (hX : X < B) (k : Off w w' X) : OwnG S T w' B v zs := by
  obtain ⟨⟨h1, h2⟩, h3⟩ := h
  refine ⟨⟨h1, ?_⟩, h3⟩
  rcases h2 with h2 | ⟨g, cap, cur, e, hg, hh, r⟩
  · exact .inl h2
  · have hlt : g < w.heap.size := by
      rcases Nat.lt_or_ge g w.heap.size with h | h
      · exact h
      · rw [Array.getElem?_eq_none (by simpa using h)] at hh; cases hh
    exact .inr ⟨g, cap, cur, e, hg, (k.2 g hlt (by omega) (fun cur' p h => by rw [hh] at h; simp only [Option.some.injEq, Obj.cells.injEq] at h; exact hT h.2.1)).trans hh, r⟩
theorem RR.off {X B : Nat} {w w' : World} {v : Value} {Ls : List (List Int)} (h : RR X w B v Ls) (hX : X < B) (k : Off w w' X) : RR X w' B v Ls := by
  obtain ⟨sls, h1, h2, h3⟩ := h
  exact ⟨sls, h1.off (by decide) hX k, h2, fun j hj hj' => (h3 j hj hj').off k⟩
theorem RR.mono {X B B' : Nat} {w : World} {v : Value} {Ls : List (List Int)} (h : RR X w B v Ls) (hB : B' ≤ B) : RR X w B' v Ls := by
  obtain ⟨sls, h1, h2, h3⟩ := h
  exact ⟨sls, h1.mono hB, h2, h3⟩
theorem RR.form {X B : Nat} {w : World} {v : Value} {Ls : List (List Int)} (h : RR X w B v Ls) : ∃ a c, v = .slice a Ls.length c := by
  obtain ⟨sls, h1, h2, h3⟩ := h
  obtain ⟨a, c, e⟩ := h1.form
  exact ⟨a, c, by rw [e, h2]⟩
/-- An inner row. -/
theorem RR.at {X B : Nat} {w : World} {v : Value} {Ls : List (List Int)} (h : RR X w B v Ls) (k : Nat) (hk : k < Ls.length) : ∃ g c, v = .slice (some ⟨g, 0, none⟩) Ls.length c ∧ B ≤ g ∧ g < w.heap.size ∧ ∃ a c', w.cell? ⟨g, k, none⟩ = some (.slice a Ls[k].length c') ∧ RdI X w (.slice a Ls[k].length c') Ls[k] := by
  obtain ⟨sls, h1, h2, h3⟩ := h
  rcases h1.shape with ⟨_, e⟩ | ⟨g, cap, e, hg, hz, _⟩
  · rw [e] at h2; simp at h2; omega
  · subst e
    have hc := h1.cell k (by omega) 0 (by decide)
    simp only [show shL.n = 1 from rfl, Nat.mul_one, Nat.add_zero, shL, List.getElem?_cons_zero] at hc
    have hr := h3 k (by omega) hk
    obtain ⟨a, c', e⟩ : ∃ a c', sls[k].val = .slice a Ls[k].length c' := by obtain ⟨⟨a, c, e, _⟩, _⟩ := hr; exact ⟨a, c, e⟩
    rw [e] at hc hr
    exact ⟨g, cap, by rw [h2], hg, hz, a, c', hc, hr⟩
/-- The outer row has grown by one. -/
theorem RR.snoc {X B : Nat} {w w' : World} {v v' : Value} {Ls : List (List Int)} {sls : List Sl} {e : Sl} {l : List Int} (h1 : OwnG shL 22 w B v sls) (h2 : sls.length = Ls.length) (h3 : ∀ k (h : k < sls.length) (h' : k < Ls.length), RdI X w sls[k].val Ls[k]) (hg : w.grownBy w' v.ownBlock) (h' : OwnG shL 22 w' B v' (sls ++ [e])) (hl : RdI X w e.val l) : RR X w' B v' (Ls ++ [l]) := by
  have K : ∀ u zs, RdI X w u zs → RdI X w' u zs := fun u zs hu => hu.same hg.size (fun b hb _ ⟨cur, p, hh⟩ => hg.block b hb (fun e => by
    obtain ⟨c2, p2, k2⟩ := own_sls h1 b e.symm
    rw [hh] at k2
    simp only [Option.some.injEq, Obj.cells.injEq] at k2
    exact absurd k2.2.1 (by decide)))
  refine ⟨sls ++ [e], h', by simp [h2], fun k hk hk' => ?_⟩
  rw [List.getElem_append, List.getElem_append]
  split
  · rename_i hk1
    rw [dif_pos (by omega)]
    exact K _ _ (h3 k hk1 (by omega))
  · rename_i hk1
    rw [dif_neg (by omega)]
    simp only [List.getElem_singleton]
    exact K _ _ hl
/-- A row of rows of ours, above the sorter, grows: the sorter stays. -/
theorem SS.gs {w0 w w' : World} {X B : Nat} {ov : Bool} {ks an v : Value} {s : St} {zs : List Sl} (h : SS w0 w X ov ks an s) (hO : OwnG shL 22 w B v zs) (hB : X < B) (hg : w.grownBy w' v.ownBlock) : SS w0 w' X ov ks an s := by
  obtain ⟨h0, aq, h1, h2, h3⟩ := h
  refine ⟨h0, aq, h1.but hg (fun e => by have := (hO.lt _ e.symm).1; omega), h2.but hg ?_, h3.trans (gb_to hg (fun k hk => by have := (hO.lt k hk).1; omega) h3.size)⟩
  cases e : aq.ownBlock with
  | none => exact .inl rfl
  | some q =>
    right; intro e2
    obtain ⟨c1, p1, k1⟩ := own_ask h2 q e
    obtain ⟨c2, p2, k2⟩ := own_sls hO q e2.symm
    rw [k1] at k2
    simp only [Option.some.injEq, Obj.cells.injEq] at k2
    exact absurd k2.2.1 (by decide)
theorem RR.nil (X : Nat) (w : World) : RR X (w.alloc (.cells #[] 22)) w.heap.size (.slice (some ⟨w.heap.size, 0, none⟩) 0 0) [] :=
  ⟨[], ⟨World.ownsRow_lit w #[] 0 (Nat.le_refl _) (Nat.zero_le _) rfl, by simp, by simp⟩, rfl, fun k hk => by simp at hk⟩
theorem RR.blk {X B g n c : Nat} {w : World} {Ls : List (List Int)} (h : RR X w B (.slice (some ⟨g, 0, none⟩) n c) Ls) : ∃ cur p, w.heap[g]? = some (.cells cur 22 p) := by
  obtain ⟨sls, h1, _⟩ := h
  exact own_sls h1 g rfl
theorem cell_al {w : World} {a : Addr} {x : Value} (o : Obj) (h : w.cell? a = some x) : (w.alloc o).cell? a = some x := by
  have hlt : a.block < w.heap.size := by
    rcases Nat.lt_or_ge a.block w.heap.size with h1 | h1
    · exact h1
    · simp [World.cell?, Array.getElem?_eq_none h1] at h
  exact (((Below.refl _ w).alloc (Nat.le_refl _) o).cell (p := a) hlt).trans h
theorem sl_cell (w : World) (a : Option Addr) (n c : Nat) : ∀ j, j < shL.n → (w.alloc (.cells #[.slice a n c] 22)).cell? ⟨w.heap.size, j, none⟩ = (shL.cs ⟨a, n, c⟩)[j]? := by
  intro j hj
  rw [World.cell?_alloc_at _ _ _ _ rfl]
  have : j = 0 := by simp [shL] at hj; omega
  subst this; rfl
theorem al_below (w : World) (o : Obj) : Below w.heap.size w (w.alloc o) := (Below.refl _ w).alloc (Nat.le_refl _) _
end Go.Proofs.Ytlnekedehalbdaa
