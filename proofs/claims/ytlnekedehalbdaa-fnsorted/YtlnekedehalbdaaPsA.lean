import Derived.Test.YtlnekedehalbdaaSrC
namespace Go.Proofs.Ytlnekedehalbdaa
open Go.RowKit
set_option linter.unusedVariables false
set_option linter.unusedSimpArgs false

/-- Of the row of what was asked. -/
def IsQ (w : World) (j : Nat) : Prop := ∃ cur p, w.heap[j]? = some (.cells cur 43 p)
/-- A row of numbers. -/
def IsI (w : World) (j : Nat) : Prop := ∃ cur p, w.heap[j]? = some (.cells cur 2 p)
theorem IsI.nq {w : World} {j : Nat} (h : IsI w j) : ¬ IsQ w j := fun ⟨c, p, h2⟩ => by
  obtain ⟨c1, p1, h1⟩ := h
  rw [h1] at h2; simp only [Option.some.injEq, Obj.cells.injEq] at h2; exact absurd h2.2.1 (by decide)
/-- What is none of E, and no row of what was asked, stays. -/
def OfE (E : Nat → Prop) (w w' : World) : Prop := w.heap.size ≤ w'.heap.size ∧ ∀ j, j < w.heap.size → ¬ E j → ¬ IsQ w j → w'.heap[j]? = w.heap[j]?
theorem OfE.refl (E : Nat → Prop) (w : World) : OfE E w w := ⟨Nat.le_refl _, fun _ _ _ _ => rfl⟩
theorem IsQ.of {w w' : World} {j : Nat} (e : w'.heap[j]? = w.heap[j]?) : IsQ w' j ↔ IsQ w j := by unfold IsQ; rw [e]
theorem IsI.of {w w' : World} {j : Nat} (e : w'.heap[j]? = w.heap[j]?) : IsI w' j ↔ IsI w j := by unfold IsI; rw [e]
theorem OfE.trans {E : Nat → Prop} {a b c : World} (h : OfE E a b) (k : OfE E b c) : OfE E a c := ⟨Nat.le_trans h.1 k.1, fun j hj hX hn => by
  have e := h.2 j hj hX hn
  exact (k.2 j (Nat.lt_of_lt_of_le hj h.1) hX (by rw [IsQ.of e]; exact hn)).trans e⟩
theorem OfE.mono {E F : Nat → Prop} {a b : World} (h : OfE E a b) (hE : ∀ j, E j → F j) : OfE F a b := ⟨h.1, fun j hj hX hn => h.2 j hj (fun e => hX (hE j e)) hn⟩
theorem OfE.below {E : Nat → Prop} {w w' : World} (h : Below w.heap.size w w') : OfE E w w' := ⟨h.size, fun j hj _ _ => h.block j hj⟩
theorem OfE.far {E : Nat → Prop} {w a b : World} {row : Option Nat} (h : OfE E w a) (k : a.grownBy b row) (hr : ∀ j, row = some j → w.heap.size ≤ j) : OfE E w b :=
  ⟨Nat.le_trans h.1 k.size, fun i hi hX hn => (k.block i (Nat.lt_of_lt_of_le hi h.1) (fun e => by have := hr i e.symm; omega)).trans (h.2 i hi hX hn)⟩
theorem OfE.low {E : Nat → Prop} {w a b : World} (h : OfE E w a) (k : Below w.heap.size a b) : OfE E w b :=
  ⟨Nat.le_trans h.1 k.size, fun i hi hX hn => (k.block i hi).trans (h.2 i hi hX hn)⟩
theorem OfE.gb {E : Nat → Prop} {w w' : World} {row : Option Nat} (k : w.grownBy w' row) (hr : ∀ j, row = some j → E j ∨ IsQ w j) : OfE E w w' :=
  ⟨k.size, fun i hi hX hn => k.block i hi (fun e => (hr i e.symm).elim hX hn)⟩
/-- What leaves the teller as it is. -/
structure Kp (E : Nat → Prop) (Z : Nat) (w w' : World) : Prop where
  os : w'.os = w.os
  tape : w'.tape = w.tape
  output : w'.output = w.output
  size : w.heap.size ≤ w'.heap.size
  blk : ∀ j, j < w.heap.size → (j < Z ∨ E j ∨ IsQ w j) → w'.heap[j]? = w.heap[j]?
theorem Kp.below {E : Nat → Prop} {Z : Nat} {w w' : World} (h : Below w.heap.size w w') : Kp E Z w w' := ⟨h.os, h.tape, h.output, h.size, fun j hj _ => h.block j hj⟩
theorem Kp.gb {E : Nat → Prop} {Z : Nat} {w w' : World} {row : Option Nat} (k : w.grownBy w' row) (hr : ∀ j, row = some j → Z ≤ j ∧ ¬ E j ∧ ¬ IsQ w j) : Kp E Z w w' :=
  ⟨k.os, k.tape, k.output, k.size, fun j hj h => k.block j hj (fun e => by obtain ⟨h1, h2, h3⟩ := hr j e.symm; rcases h with h | h | h; omega; exact h2 h; exact h3 h)⟩
/-- A row that is read, at a row of numbers that is none of E. -/
def RdY (E : Nat → Prop) (w : World) (v : Value) (zs : List Int) : Prop := Rd w v zs ∧ (0 < zs.length → ∀ b off n c, v = .slice (some ⟨b, off, none⟩) n c → ¬ E b ∧ IsI w b)
theorem RdY.same {E : Nat → Prop} {w w' : World} {v : Value} {zs : List Int} (h : RdY E w v zs) (hz : w.heap.size ≤ w'.heap.size) (k : ∀ b, b < w.heap.size → ¬ E b → IsI w b → w'.heap[b]? = w.heap[b]?) : RdY E w' v zs := by
  obtain ⟨⟨a, cap, rfl, hl, hzz, hn, hc⟩, hP⟩ := h
  refine ⟨⟨a, cap, rfl, hl, hzz, hn, fun h0 => ?_⟩, fun h0 b off n c e => ?_⟩
  · obtain ⟨b, off, rfl, hb, hcell⟩ := hc h0
    obtain ⟨h1, h2⟩ := hP h0 b off _ _ rfl
    exact ⟨b, off, rfl, Nat.lt_of_lt_of_le hb hz, fun j hj => (World.cell?_of_block (a := ⟨b, off + j, none⟩) (k b hb h1 h2)).trans (hcell j hj)⟩
  · obtain ⟨h1, h2⟩ := hP h0 b off n c e
    obtain ⟨b', off', e', hb, _⟩ := hc h0
    simp only [Value.slice.injEq] at e
    rw [e.1] at e'
    simp only [Option.some.injEq, Addr.mk.injEq, and_true] at e'
    obtain ⟨rfl, rfl⟩ := e'
    exact ⟨h1, by rw [IsI.of (k b hb h1 h2)]; exact h2⟩
theorem RdY.off {E : Nat → Prop} {w w' : World} {v : Value} {zs : List Int} (h : RdY E w v zs) (k : OfE E w w') : RdY E w' v zs := h.same k.1 (fun b hb h1 h2 => k.2 b hb h1 h2.nq)
theorem RdY.mono {E F : Nat → Prop} {w : World} {v : Value} {zs : List Int} (h : RdY F w v zs) (hE : ∀ j, E j → F j) : RdY E w v zs := ⟨h.1, fun h0 b off n c e => ⟨fun h1 => (h.2 h0 b off n c e).1 (hE b h1), (h.2 h0 b off n c e).2⟩⟩
theorem Own.isI {w : World} {B : Nat} {v : Value} {h : List Int} (hO : Own w B v h) : ∀ q, v.ownBlock = some q → IsI w q := own_int hO
theorem Own.rdY {E : Nat → Prop} {B : Nat} {w : World} {v : Value} {zs : List Int} (h : Own w B v zs) (hE : ∀ q, v.ownBlock = some q → ¬ E q) : RdY E w v zs := ⟨h.rd, fun h0 b off n c e => by
  have ho : v.ownBlock = some b := by rw [e]; rfl
  exact ⟨hE b ho, h.isI b ho⟩⟩
theorem Own.offE {E : Nat → Prop} {B : Nat} {w w' : World} {v : Value} {zs : List Int} (h : Own w B v zs) (hE : ∀ q, v.ownBlock = some q → ¬ E q) (k : OfE E w w') : Own w' B v zs := by
  have hI := h.isI
  obtain ⟨⟨h1, h2⟩, h3⟩ := h
  refine ⟨⟨h1, ?_⟩, h3⟩
  rcases h2 with h2 | ⟨g, cap, cur, e, hg, hh, r⟩
  · exact .inl h2
  · have hlt : g < w.heap.size := by
      rcases Nat.lt_or_ge g w.heap.size with h | h
      · exact h
      · rw [Array.getElem?_eq_none (by simpa using h)] at hh; cases hh
    have hb : v.ownBlock = some g := by rw [e]; rfl
    exact .inr ⟨g, cap, cur, e, hg, (k.2 g hlt (hE g hb) (hI g hb).nq).trans hh, r⟩
theorem RdY.form {E : Nat → Prop} {w : World} {v : Value} {zs : List Int} (h : RdY E w v zs) : ∃ a c, v = .slice a zs.length c := by obtain ⟨⟨a, c, e, _⟩, _⟩ := h; exact ⟨a, c, e⟩
theorem RdY.max {E : Nat → Prop} {w : World} {v : Value} {zs : List Int} (h : RdY E w v zs) : zs.length ≤ 16777216 := by obtain ⟨⟨a, c, e, h, _⟩, _⟩ := h; exact h
theorem RdY.tail {E : Nat → Prop} {w : World} {b off n c : Nat} {z : Int} {zs : List Int} (h : RdY E w (.slice (some ⟨b, off, none⟩) n c) (z :: zs)) : RdY E w (.slice (if c = 1 then some ⟨b, off, none⟩ else some ⟨b, off + 1, none⟩) zs.length (c - 1)) zs := by
  obtain ⟨⟨a, cap, e, hl, hz, hn, hc⟩, hP⟩ := h
  simp only [Value.slice.injEq] at e
  obtain ⟨rfl, rfl, rfl⟩ := e
  obtain ⟨b', off', e', hb, hcell⟩ := hc (by simp)
  simp only [Option.some.injEq, Addr.mk.injEq, and_true] at e'
  obtain ⟨rfl, rfl⟩ := e'
  have hn1 := hn.1
  simp only [List.length_cons] at hn1 hl
  by_cases h1 : c = 1
  · subst h1
    have h0 : zs = [] := List.length_eq_zero_iff.mp (by omega)
    subst h0
    exact ⟨⟨_, _, rfl, by simp, Limbs.nil, ⟨by simp, fun h => by simp⟩, fun h => by simp at h⟩, fun h => by simp at h⟩
  · rw [if_neg h1]
    refine ⟨⟨_, _, rfl, by omega, fun y hy => hz y (List.mem_cons_of_mem _ hy), ⟨by omega, fun h => by cases h⟩, fun h0 => ⟨b, off + 1, rfl, hb, fun k hk => ?_⟩⟩, fun h0 b2 o2 n2 c2 e2 => ?_⟩
    · have := hcell (k + 1) (by simp; omega)
      rw [show off + 1 + k = off + (k + 1) by omega, this]
      simp [List.getD]
    · simp only [Value.slice.injEq, Option.some.injEq, Addr.mk.injEq, and_true] at e2
      obtain ⟨⟨rfl, rfl⟩, rfl, rfl⟩ := e2
      exact hP (by simp) b off _ _ rfl
theorem RdY.head {E : Nat → Prop} {w : World} {a : Option Addr} {n c : Nat} {z : Int} {zs : List Int} (h : RdY E w (.slice a n c) (z :: zs)) : ∃ b off, a = some ⟨b, off, none⟩ ∧ b < w.heap.size ∧ ¬ E b ∧ IsI w b ∧ w.cell? ⟨b, off, none⟩ = some (.int .i64 z) ∧ zs.length + 1 ≤ c ∧ n = zs.length + 1 := by
  obtain ⟨⟨a, cap, e, hl, hz, hn, hc⟩, hP⟩ := h
  simp only [Value.slice.injEq] at e
  obtain ⟨rfl, rfl, rfl⟩ := e
  obtain ⟨b, off, rfl, hb, hcell⟩ := hc (by simp)
  obtain ⟨h1, h2⟩ := hP (by simp) b off _ _ rfl
  have := hcell 0 (by simp)
  simp at this
  exact ⟨b, off, rfl, hb, h1, h2, this, by simpa using hn.1, by simp⟩
/-- A sorter of the program, with its teller. -/
structure Tlr (t : Tl) (n Z Y : Nat) (E : Nat → Prop) (S : World → St → Prop) : Prop where
  lt : ∀ W s, S W s → ∀ j, E j → j < W.heap.size
  z : ∀ j, E j → Z ≤ j
  y : E Y
  k : ∀ W s, S W s → W.cell? ⟨Y, 1, none⟩ = some (.bool s.k)
  bel : ∀ W s, S W s → Z ≤ W.heap.size
  ask : ∀ W s (a b : Nat), S W s → a < n → b < n → s.h.length < 1000000 → Calls Try.prog 45 #[.pointer (some ⟨Y, 0, none⟩), .int .i64 a, .int .i64 b] W fun e W' => e = .returned (.bool (ask t s a b).1) ∧ S W' (ask t s a b).2 ∧ OfE E W W'
  keep : ∀ W W' s, S W s → Kp E Z W W' → S W' s
theorem Tlr.al {t : Tl} {n Z Y : Nat} {E : Nat → Prop} {S : World → St → Prop} (T : Tlr t n Z Y E S) {W W' : World} {s : St} (h : S W s) (hb : Below W.heap.size W W') : S W' s := T.keep W W' s h (Kp.below hb)
/-- A row of numbers of ours grows. -/
theorem Tlr.gi {t : Tl} {n Z Y B : Nat} {E : Nat → Prop} {S : World → St → Prop} (T : Tlr t n Z Y E S) {W W' : World} {s : St} {v : Value} {zs : List Int} (h : S W s) (hO : Own W B v zs) (hB : Z ≤ B) (hE : ∀ q, v.ownBlock = some q → ¬ E q) (hg : W.grownBy W' v.ownBlock) : S W' s :=
  T.keep W W' s h (Kp.gb hg (fun j hj => ⟨Nat.le_trans hB (hO.lt j hj).1, hE j hj, (hO.isI j hj).nq⟩))
end Go.Proofs.Ytlnekedehalbdaa
