import Derived.Test.YtfoofbcfcekleaaGreatDoorBaseI
namespace Go.Proofs.YtfoofbcfcekleaaGreatDoor
open Go.RowKit
set_option linter.unusedVariables false
set_option linter.unusedSimpArgs false

/-- The shape of an element that lies in several cells. -/
structure Sh (α : Type) where
  n : Nat
  pos : 0 < n
  cs : α → List Value
  ok : α → Prop
  len : ∀ a, (cs a).length = n
  one : ∀ a u, u ∈ cs a → u.oneCell' = true

def RdG {α : Type} (S : Sh α) (w : World) (v : Value) (xs : List α) : Prop :=
  ∃ a cap, v = .slice a xs.length cap ∧ xs.length ≤ 16777216 ∧ (∀ x ∈ xs, S.ok x) ∧ (xs.length ≤ cap ∧ (a = none → cap = 0)) ∧
    (0 < xs.length → ∃ b off, a = some ⟨b, off, none⟩ ∧ b < w.heap.size ∧ ∀ k (hk : k < xs.length) j, j < S.n → w.cell? ⟨b, off + k * S.n + j, none⟩ = (S.cs xs[k])[j]?)

def OwnG {α : Type} (S : Sh α) (T : TypeId) (w : World) (B : Nat) (v : Value) (xs : List α) : Prop :=
  w.ownsRow B T S.n v xs.length (xs.flatMap S.cs) ∧ xs.length ≤ 16777216 ∧ ∀ x ∈ xs, S.ok x

section
variable {α : Type} {S : Sh α} {T : TypeId} {w w' : World} {B : Nat} {v : Value} {xs : List α}

theorem flat_length (S : Sh α) : ∀ xs : List α, (xs.flatMap S.cs).length = xs.length * S.n
  | [] => by simp
  | x :: r => by simp only [List.flatMap_cons, List.length_append, S.len, flat_length S r, List.length_cons, Nat.succ_mul]; omega
theorem flat_get (S : Sh α) : ∀ (xs : List α) (k : Nat) (hk : k < xs.length) (j : Nat), j < S.n → (xs.flatMap S.cs)[k * S.n + j]? = (S.cs xs[k])[j]?
  | x :: r, 0, _, j, hj => by simp only [List.flatMap_cons, Nat.zero_mul, Nat.zero_add, List.getElem_cons_zero]; rw [List.getElem?_append_left (by rw [S.len]; exact hj)]
  | x :: r, k + 1, hk, j, hj => by
    simp only [List.flatMap_cons, List.getElem_cons_succ]
    rw [List.getElem?_append_right (by rw [S.len, Nat.succ_mul]; omega), S.len]
    have e : (k + 1) * S.n + j - S.n = k * S.n + j := by rw [Nat.succ_mul]; omega
    rw [e]; exact flat_get S r k (by simpa using hk) j hj

theorem RdG.keep (h : RdG S w v xs) (hb : Below w.heap.size w w') : RdG S w' v xs := by
  obtain ⟨a, cap, rfl, hl, hz, hn0, hc⟩ := h
  refine ⟨a, cap, rfl, hl, hz, hn0, fun h0 => ?_⟩
  obtain ⟨b, off, rfl, hbw, hcell⟩ := hc h0
  exact ⟨b, off, rfl, Nat.lt_of_lt_of_le hbw hb.size, fun k hk j hj => (hb.cell (p := ⟨b, _, none⟩) hbw).trans (hcell k hk j hj)⟩
theorem RdG.alloc (h : RdG S w v xs) (o : Obj) : RdG S (w.alloc o) v xs := h.keep ((Below.refl _ _).alloc (Nat.le_refl _) o)
theorem RdG.drew (h : RdG S w v xs) : RdG S w.drew v xs := h.keep (Below.refl _ _).drew
theorem RdG.form (h : RdG S w v xs) : ∃ a c, v = .slice a xs.length c := by obtain ⟨a, c, rfl, _⟩ := h; exact ⟨a, c, rfl⟩

theorem OwnG.keep (h : OwnG S T w B v xs) (hb : Below w.heap.size w w') : OwnG S T w' B v xs := by
  obtain ⟨⟨h1, h2⟩, hl, hz⟩ := h
  refine ⟨⟨h1, ?_⟩, hl, hz⟩
  rcases h2 with h2 | ⟨g, cap, cur, hv, hg, hh, r⟩
  · exact .inl h2
  · refine .inr ⟨g, cap, cur, hv, hg, ?_, r⟩
    have hlt : g < w.heap.size := by
      rcases Nat.lt_or_ge g w.heap.size with h | h
      · exact h
      · rw [Array.getElem?_eq_none h] at hh; cases hh
    rw [hb.block g hlt]; exact hh
theorem OwnG.mono {B' : Nat} (h : OwnG S T w B v xs) (hB : B' ≤ B) : OwnG S T w B' v xs := by
  obtain ⟨⟨h1, h2⟩, hl, hz⟩ := h
  refine ⟨⟨h1, ?_⟩, hl, hz⟩
  rcases h2 with h2 | ⟨g, cap, cur, hv, hg, r⟩
  · exact .inl h2
  · exact .inr ⟨g, cap, cur, hv, Nat.le_trans hB hg, r⟩
theorem OwnG.drew (h : OwnG S T w B v xs) : OwnG S T w.drew B v xs := ⟨h.1.drew, h.2⟩
theorem OwnG.alloc (h : OwnG S T w B v xs) (o : Obj) : OwnG S T (w.alloc o) B v xs := ⟨h.1.alloc o, h.2⟩
theorem OwnG.nil (S : Sh α) (T : TypeId) (w : World) (B : Nat) : OwnG S T w B (.slice none 0 0) [] := ⟨World.ownsRow_nil _ _ _ _, by simp, by simp⟩
theorem OwnG.lt (h : OwnG S T w B v xs) : ∀ k, v.ownBlock = some k → B ≤ k ∧ k < w.heap.size := h.1.lt
theorem OwnG.but {row : Option Nat} (h : OwnG S T w B v xs) (hg : w.grownBy w' row) (hne : v.ownBlock = none ∨ v.ownBlock ≠ row) : OwnG S T w' B v xs := ⟨h.1.kept hg hne, h.2⟩
theorem OwnG.setBelow (h : OwnG S T w B v xs) {a : Addr} (ha : a.block < B) (u : Value) : OwnG S T (w.setCell a u) B v xs := ⟨ownsRow_setCell_below h.1 ha u, h.2⟩

theorem OwnG.shape (h : OwnG S T w B v xs) : (v = .slice none 0 0 ∧ xs = []) ∨ ∃ g cap, v = .slice (some ⟨g, 0, none⟩) xs.length cap ∧ B ≤ g ∧ g < w.heap.size ∧ xs.length ≤ cap := by
  obtain ⟨⟨h1, h2⟩, hl, hz⟩ := h
  rcases h2 with ⟨rfl, h0⟩ | ⟨g, cap, cur, rfl, hg, hh, hc, _⟩
  · left; refine ⟨rfl, ?_⟩; cases xs <;> simp_all
  · right; refine ⟨g, cap, rfl, hg, ?_, hc⟩
    rcases Nat.lt_or_ge g w.heap.size with h | h
    · exact h
    · rw [Array.getElem?_eq_none h] at hh; cases hh
theorem OwnG.form (h : OwnG S T w B v xs) : ∃ a c, v = .slice a xs.length c := by
  rcases h.shape with ⟨rfl, rfl⟩ | ⟨g, cap, rfl, _⟩
  · exact ⟨_, _, rfl⟩
  · exact ⟨_, _, rfl⟩
theorem OwnG.cell {g cap n : Nat} (h : OwnG S T w B (.slice (some ⟨g, 0, none⟩) n cap) xs) (k : Nat) (hk : k < xs.length) (j : Nat) (hj : j < S.n) : w.cell? ⟨g, k * S.n + j, none⟩ = (S.cs xs[k])[j]? := by
  have hl := flat_get S xs k hk j hj
  have hs : (S.cs xs[k])[j]? = some ((S.cs xs[k])[j]'(by rw [S.len]; exact hj)) := List.getElem?_eq_getElem _
  have := h.1.cells (g := g) rfl (k * S.n + j) _ (hl.trans hs)
  have e : (⟨g, 0, none⟩ : Addr).add (k * S.n + j) = ⟨g, k * S.n + j, none⟩ := by unfold Addr.add; split <;> simp_all
  rw [e] at this; rw [this, hs]
theorem OwnG.rd (h : OwnG S T w B v xs) : RdG S w v xs := by
  rcases h.shape with ⟨rfl, rfl⟩ | ⟨g, cap, rfl, hg, hlt, hc⟩
  · exact ⟨none, 0, rfl, by simp, by simp, ⟨Nat.le_refl _, fun _ => rfl⟩, fun h => by simp at h⟩
  · exact ⟨_, cap, rfl, h.2.1, h.2.2, ⟨hc, fun e => by cases e⟩, fun _ => ⟨g, 0, rfl, hlt, fun k hk j hj => by rw [Nat.zero_add]; exact h.cell k hk j hj⟩⟩
theorem OwnG.frozen {g cap n : Nat} (h : OwnG S T w B (.slice (some ⟨g, 0, none⟩) n cap) xs) (k : Nat) : w.frozen? ⟨g, k, none⟩ = false := by
  rcases h.1.2 with ⟨e, _⟩ | ⟨g', cap', cur, e, _, hh, _⟩
  · cases e
  · simp at e; obtain ⟨rfl, _, _⟩ := e
    simp [World.frozen?, hh]

theorem flat_set (S : Sh α) (j : Nat) (hj : j < S.n) (u : Value) (x : α) : ∀ (xs : List α) (k : Nat) (hk : k < xs.length), S.cs x = (S.cs xs[k]).set j u → (xs.flatMap S.cs).set (k * S.n + j) u = (xs.set k x).flatMap S.cs
  | y :: r, 0, _, h => by
    simp only [List.getElem_cons_zero] at h
    simp only [Nat.zero_mul, Nat.zero_add, List.flatMap_cons, List.set_cons_zero, h]
    rw [List.set_append_left _ _ (by rw [S.len]; exact hj)]
  | y :: r, k + 1, hk, h => by
    simp only [List.getElem_cons_succ] at h
    simp only [List.flatMap_cons, List.set_cons_succ]
    rw [List.set_append_right _ _ (by rw [S.len, Nat.succ_mul]; omega), S.len]
    have e : (k + 1) * S.n + j - S.n = k * S.n + j := by rw [Nat.succ_mul]; omega
    rw [e, flat_set S j hj u x r k (by simpa using hk) h]
theorem OwnG.len {g cap n : Nat} {a : Option Addr} (h : OwnG S T w B (.slice a n cap) xs) : n = xs.length := by
  rcases h.1.2 with ⟨h', h0⟩ | ⟨g', cap', cur, h', _⟩
  · simp at h'; omega
  · simp at h'; exact h'.2.1
/-- A store of one cell of an element of an owned row. -/
theorem OwnG.put {g cap n : Nat} (h : OwnG S T w B (.slice (some ⟨g, 0, none⟩) n cap) xs) (k : Nat) (hk : k < xs.length) (j : Nat) (hj : j < S.n) (u : Value) (x : α) (hx : S.ok x) (hc : S.cs x = (S.cs xs[k]).set j u) :
    OwnG S T (w.setCell ⟨g, k * S.n + j, none⟩ u) B (.slice (some ⟨g, 0, none⟩) n cap) (xs.set k x) := by
  obtain rfl := h.len (g := g)
  obtain ⟨h1, hl, hz⟩ := h
  refine ⟨?_, by simpa using hl, fun y hy => by
    rcases List.mem_or_eq_of_mem_set hy with h | h
    · exact hz y h
    · subst h; exact hx⟩
  have := (h1.stored (k * S.n + j) u).1
  rw [flat_set S j hj u x xs k hk hc] at this
  simpa using this
end

/-- An entry of a dict. -/
structure En where
  h : Int
  k : Int
  v : Int
  g : Bool
  deriving DecidableEq

def En.ok (e : En) : Prop := (0 ≤ e.h ∧ e.h < 18446744073709551616) ∧ (-9223372036854775808 ≤ e.k ∧ e.k < 9223372036854775808) ∧ (-9223372036854775808 ≤ e.v ∧ e.v < 9223372036854775808)
def En.cs (e : En) : List Value := [.int .u64 e.h, .int .i64 e.k, .int .i64 e.v, .bool e.g]
def En.val (e : En) : Value := .agg #[.int .u64 e.h, .int .i64 e.k, .int .i64 e.v, .bool e.g]
def shE : Sh En := ⟨4, by decide, En.cs, En.ok, fun _ => rfl, fun a u hu => by simp [En.cs] at hu; rcases hu with rfl | rfl | rfl | rfl <;> rfl⟩
/-- A name: a hash and a key. -/
def shN : Sh (Int × Int) := ⟨2, by decide, fun p => [.int .u64 p.1, .int .i64 p.2], fun p => (0 ≤ p.1 ∧ p.1 < 18446744073709551616) ∧ (-9223372036854775808 ≤ p.2 ∧ p.2 < 9223372036854775808), fun _ => rfl, fun a u hu => by simp at hu; rcases hu with rfl | rfl <;> rfl⟩

abbrev RdE := RdG shE
abbrev OwnE (T : TypeId) := OwnG shE T

end Go.Proofs.YtfoofbcfcekleaaGreatDoor
