import Derived.Test.YtlnekedehalbdaaPsM
import Derived.Test.YtlnekedehalbdaaCpG
namespace Go.Proofs.Ytlnekedehalbdaa
open Go.RowKit
set_option linter.unusedVariables false
set_option linter.unusedSimpArgs false

def IsS (w : World) (j : Nat) : Prop := ∃ cur p, w.heap[j]? = some (.cells cur 22 p)
theorem IsS.nq {w : World} {j : Nat} (h : IsS w j) : ¬ IsQ w j := fun ⟨c, p, h2⟩ => by
  obtain ⟨c1, p1, h1⟩ := h
  rw [h1] at h2; simp only [Option.some.injEq, Obj.cells.injEq] at h2; exact absurd h2.2.1 (by decide)
theorem IsS.ni {w : World} {j : Nat} (h : IsS w j) : ¬ IsI w j := fun ⟨c, p, h2⟩ => by
  obtain ⟨c1, p1, h1⟩ := h
  rw [h1] at h2; simp only [Option.some.injEq, Obj.cells.injEq] at h2; exact absurd h2.2.1 (by decide)
theorem IsS.of {w w' : World} {j : Nat} (e : w'.heap[j]? = w.heap[j]?) : IsS w' j ↔ IsS w j := by unfold IsS; rw [e]
/-- A row of rows that is read. -/
def RY (E : Nat → Prop) (w : World) (v : Value) (Ls : List (List Int)) : Prop :=
  ∃ sls : List Sl, RdG shL w v sls ∧ sls.length = Ls.length ∧ (∀ k (h : k < sls.length) (h' : k < Ls.length), RdY E w sls[k].val Ls[k]) ∧ (0 < sls.length → ∀ b off n c, v = .slice (some ⟨b, off, none⟩) n c → ¬ E b ∧ IsS w b)
theorem RY.off {E : Nat → Prop} {w w' : World} {v : Value} {Ls : List (List Int)} (h : RY E w v Ls) (k : OfE E w w') : RY E w' v Ls := by
  obtain ⟨sls, ⟨a, cap, rfl, hl, hok, hn, hc⟩, h2, h3, h4⟩ := h
  refine ⟨sls, ⟨a, cap, rfl, hl, hok, hn, fun h0 => ?_⟩, h2, fun j hj hj' => (h3 j hj hj').off k, fun h0 b off n c e => ?_⟩
  · obtain ⟨b, off, rfl, hb, hcell⟩ := hc h0
    obtain ⟨e1, e2⟩ := h4 h0 b off _ _ rfl
    exact ⟨b, off, rfl, Nat.lt_of_lt_of_le hb k.1, fun i hi j hj => (World.cell?_of_block (a := ⟨b, off + i * shL.n + j, none⟩) (k.2 b hb e1 e2.nq)).trans (hcell i hi j hj)⟩
  · obtain ⟨e1, e2⟩ := h4 h0 b off n c e
    obtain ⟨b', off', e', hb, _⟩ := hc h0
    simp only [Value.slice.injEq] at e
    rw [e.1] at e'
    simp only [Option.some.injEq, Addr.mk.injEq, and_true] at e'
    obtain ⟨rfl, rfl⟩ := e'
    exact ⟨e1, by rw [IsS.of (k.2 b hb e1 e2.nq)]; exact e2⟩
theorem RY.form {E : Nat → Prop} {w : World} {v : Value} {Ls : List (List Int)} (h : RY E w v Ls) : ∃ a c, v = .slice a Ls.length c := by
  obtain ⟨sls, h1, h2, _⟩ := h
  obtain ⟨a, c, e⟩ := h1.form
  exact ⟨a, c, by rw [e, h2]⟩
theorem RY.max {E : Nat → Prop} {w : World} {v : Value} {Ls : List (List Int)} (h : RY E w v Ls) : Ls.length ≤ 16777216 := by
  obtain ⟨sls, ⟨a, cap, e, hl, _⟩, h2, _⟩ := h
  omega
/-- An inner row. -/
theorem RY.at {E : Nat → Prop} {w : World} {a : Option Addr} {n c : Nat} {Ls : List (List Int)} (h : RY E w (.slice a n c) Ls) (k : Nat) (hk : k < Ls.length) : ∃ b off, a = some ⟨b, off, none⟩ ∧ b < w.heap.size ∧ ¬ E b ∧ IsS w b ∧ Ls.length ≤ c ∧ ∃ a' c', w.cell? ⟨b, off + k, none⟩ = some (.slice a' Ls[k].length c') ∧ RdY E w (.slice a' Ls[k].length c') Ls[k] := by
  obtain ⟨sls, ⟨a1, cap, e, hl, hok, hn, hc⟩, h2, h3, h4⟩ := h
  simp only [Value.slice.injEq] at e
  obtain ⟨rfl, rfl, rfl⟩ := e
  obtain ⟨b, off, rfl, hb, hcell⟩ := hc (by omega)
  obtain ⟨e1, e2⟩ := h4 (by omega) b off _ _ rfl
  have hce := hcell k (by omega) 0 (by decide)
  simp only [show shL.n = 1 from rfl, Nat.mul_one, Nat.add_zero, shL, List.getElem?_cons_zero] at hce
  have hr := h3 k (by omega) hk
  obtain ⟨a', c', e⟩ : ∃ a c', sls[k].val = .slice a Ls[k].length c' := by obtain ⟨⟨a, c, e, _⟩, _⟩ := hr; exact ⟨a, c, e⟩
  rw [e] at hce hr
  exact ⟨b, off, rfl, hb, e1, e2, by rw [← h2]; exact hn.1, a', c', hce, hr⟩
/-- Without its first two. -/
theorem RY.drop2 {E : Nat → Prop} {w : World} {b off n c : Nat} {Ls : List (List Int)} (h : RY E w (.slice (some ⟨b, off, none⟩) n c) Ls) (hk : 2 ≤ Ls.length) : RY E w (.slice (if c = 2 then some ⟨b, off, none⟩ else some ⟨b, off + 2, none⟩) (Ls.length - 2) (c - 2)) (Ls.drop 2) := by
  obtain ⟨sls, ⟨a1, cap, e, hl, hok, hn, hc⟩, h2, h3, h4⟩ := h
  simp only [Value.slice.injEq] at e
  obtain ⟨rfl, rfl, rfl⟩ := e
  obtain ⟨b', off', e', hb, hcell⟩ := hc (by omega)
  simp only [Option.some.injEq, Addr.mk.injEq, and_true] at e'
  obtain ⟨rfl, rfl⟩ := e'
  obtain ⟨e1, e2⟩ := h4 (by omega) b off _ _ rfl
  have hn1 := hn.1
  by_cases h5 : c = 2
  · subst h5
    have h0 : sls.drop 2 = [] := List.drop_of_length_le (by omega)
    refine ⟨sls.drop 2, ?_, by simp [h2], fun k hk hk' => by rw [h0] at hk; simp at hk, fun h => by rw [h0] at h; simp at h⟩
    rw [h0, show Ls.length - 2 = 0 by omega]
    exact ⟨_, _, rfl, by simp, by simp, ⟨by simp, fun h => by simp⟩, fun h => by simp at h⟩
  · rw [if_neg h5]
    refine ⟨sls.drop 2, ⟨_, _, by rw [List.length_drop, h2], by simp; omega, fun x hx => hok x (List.mem_of_mem_drop hx), ⟨by simp; omega, fun h => by cases h⟩, fun h0 => ⟨b, off + 2, rfl, hb, fun k hk j hj => ?_⟩⟩, by simp [h2], fun k hk hk' => ?_, fun h0 b2 o2 n2 c2 e2' => ?_⟩
    · have := hcell (k + 2) (by simp at hk; omega) j hj
      simp only [show shL.n = 1 from rfl, Nat.mul_one] at this ⊢
      rw [show off + 2 + k + j = off + (k + 2) + j by omega, this]
      simp only [List.getElem_drop, Nat.add_comm 2 k]
    · have := h3 (k + 2) (by simp at hk; omega) (by simp at hk'; omega)
      simp only [List.getElem_drop, Nat.add_comm 2 k]
      exact this
    · simp only [Value.slice.injEq, Option.some.injEq, Addr.mk.injEq, and_true] at e2'
      obtain ⟨⟨rfl, rfl⟩, -, -⟩ := e2'
      exact ⟨e1, e2⟩
/-- A row of rows of ours, the inner ones are read. -/
def RO (E : Nat → Prop) (w : World) (B : Nat) (v : Value) (Ls : List (List Int)) : Prop :=
  ∃ sls : List Sl, OwnG shL 22 w B v sls ∧ sls.length = Ls.length ∧ ∀ k (h : k < sls.length) (h' : k < Ls.length), RdY E w sls[k].val Ls[k]
theorem OwnG.offE {E : Nat → Prop} {B : Nat} {w w' : World} {v : Value} {zs : List Sl} (h : OwnG shL 22 w B v zs) (hE : ∀ q, E q → q < B) (k : OfE E w w') : OwnG shL 22 w' B v zs := by
  obtain ⟨⟨h1, h2⟩, h3⟩ := h
  refine ⟨⟨h1, ?_⟩, h3⟩
  rcases h2 with h2 | ⟨g, cap, cur, e, hg, hh, r⟩
  · exact .inl h2
  · have hlt : g < w.heap.size := by
      rcases Nat.lt_or_ge g w.heap.size with h | h
      · exact h
      · rw [Array.getElem?_eq_none (by simpa using h)] at hh; cases hh
    exact .inr ⟨g, cap, cur, e, hg, (k.2 g hlt (fun he => by have := hE g he; omega) (fun ⟨cur', p, h⟩ => by rw [hh] at h; simp only [Option.some.injEq, Obj.cells.injEq] at h; exact absurd h.2.1 (by decide))).trans hh, r⟩
theorem RO.off {E : Nat → Prop} {B : Nat} {w w' : World} {v : Value} {Ls : List (List Int)} (h : RO E w B v Ls) (hE : ∀ q, E q → q < B) (k : OfE E w w') : RO E w' B v Ls := by
  obtain ⟨sls, h1, h2, h3⟩ := h
  exact ⟨sls, h1.offE hE k, h2, fun j hj hj' => (h3 j hj hj').off k⟩
theorem RO.form {E : Nat → Prop} {B : Nat} {w : World} {v : Value} {Ls : List (List Int)} (h : RO E w B v Ls) : ∃ a c, v = .slice a Ls.length c := by
  obtain ⟨sls, h1, h2, h3⟩ := h
  obtain ⟨a, c, e⟩ := h1.form
  exact ⟨a, c, by rw [e, h2]⟩
theorem RO.ry {E : Nat → Prop} {B : Nat} {w : World} {v : Value} {Ls : List (List Int)} (h : RO E w B v Ls) (hE : ∀ q, E q → q < B) : RY E w v Ls := by
  obtain ⟨sls, h1, h2, h3⟩ := h
  exact ⟨sls, h1.rd, h2, h3, fun h0 b off n c e => by
    have ho : v.ownBlock = some b := by rw [e]; rfl
    exact ⟨fun he => by have := hE b he; have := (h1.lt b ho).1; omega, own_sls h1 b ho⟩⟩
theorem RO.keepI {E : Nat → Prop} {B : Nat} {w w' : World} {v : Value} {sls : List Sl} (h1 : OwnG shL 22 w B v sls) (hg : w.grownBy w' v.ownBlock) : ∀ u zs, RdY E w u zs → RdY E w' u zs :=
  fun u zs hu => hu.same hg.size (fun b hb _ hi => hg.block b hb (fun e => IsS.ni (own_sls h1 b e.symm) hi))
/-- The outer row has grown by one. -/
theorem RO.snoc {E : Nat → Prop} {B : Nat} {w w' : World} {v v' : Value} {Ls : List (List Int)} {sls : List Sl} {e : Sl} {l : List Int} (h1 : OwnG shL 22 w B v sls) (h2 : sls.length = Ls.length) (h3 : ∀ k (h : k < sls.length) (h' : k < Ls.length), RdY E w sls[k].val Ls[k]) (hg : w.grownBy w' v.ownBlock) (h' : OwnG shL 22 w' B v' (sls ++ [e])) (hl : RdY E w e.val l) : RO E w' B v' (Ls ++ [l]) := by
  have K := RO.keepI (E := E) h1 hg
  refine ⟨sls ++ [e], h', by simp [h2], fun k hk hk' => ?_⟩
  rw [List.getElem_append, List.getElem_append]
  split
  · rename_i hk1
    rw [dif_pos (by omega)]
    exact K _ _ (h3 k hk1 (by omega))
  · rename_i hk1
    rw [dif_neg (by omega)]
    simp only [List.getElem_singleton]
    exact K _ _ hl
/-- By several. -/
theorem RO.app {E : Nat → Prop} {B : Nat} {w w' : World} {v v' : Value} {Ls Rs : List (List Int)} {sls rls : List Sl} (h1 : OwnG shL 22 w B v sls) (h2 : sls.length = Ls.length) (h3 : ∀ k (h : k < sls.length) (h' : k < Ls.length), RdY E w sls[k].val Ls[k]) (hg : w.grownBy w' v.ownBlock) (h' : OwnG shL 22 w' B v' (sls ++ rls)) (h4 : rls.length = Rs.length) (h5 : ∀ k (h : k < rls.length) (h' : k < Rs.length), RdY E w rls[k].val Rs[k]) : RO E w' B v' (Ls ++ Rs) := by
  have K := RO.keepI (E := E) h1 hg
  refine ⟨sls ++ rls, h', by simp [h2, h4], fun k hk hk' => ?_⟩
  rw [List.getElem_append, List.getElem_append]
  split
  · rename_i hk1
    rw [dif_pos (by omega)]
    exact K _ _ (h3 k hk1 (by omega))
  · rename_i hk1
    rw [dif_neg (by omega)]
    simp only [h2]
    exact K _ _ (h5 _ (by simp at hk; omega) (by simp at hk'; omega))
theorem Tlr.gs {t : Tl} {n Z Y B : Nat} {E : Nat → Prop} {S : World → St → Prop} (T : Tlr t n Z Y E S) {W W' : World} {s : St} {v : Value} {zs : List Sl} (h : S W s) (hO : OwnG shL 22 W B v zs) (hB : Z ≤ B) (hE : ∀ q, E q → q < B) (hg : W.grownBy W' v.ownBlock) : S W' s :=
  T.keep W W' s h (Kp.gb hg (fun j hj => ⟨Nat.le_trans hB (hO.lt j hj).1, fun he => by have := hE j he; have := (hO.lt j hj).1; omega, IsS.nq (own_sls hO j hj)⟩))
theorem RO.nil (E : Nat → Prop) (w : World) : RO E (w.alloc (.cells #[] 22)) w.heap.size (.slice (some ⟨w.heap.size, 0, none⟩) 0 0) [] :=
  ⟨[], ⟨World.ownsRow_lit w #[] 0 (Nat.le_refl _) (Nat.zero_le _) rfl, by simp, by simp⟩, rfl, fun k hk => by simp at hk⟩
end Go.Proofs.Ytlnekedehalbdaa
