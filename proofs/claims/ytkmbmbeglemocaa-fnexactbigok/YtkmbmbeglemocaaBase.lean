import Derived.Test.YtkmbmbeglemocaaProg
import Derived.WalkKit
import Derived.WalkSpells
import Derived.WalkLawsBesides
import Derived.BigQuiet
import Derived.Deep.QuietTactic
import Derived.Deep.RegionWith
import Derived.Handy
namespace Go.Proofs.Ytkmbmbeglemocaa
open Go.RowKit
set_option linter.unusedVariables false
set_option linter.unusedSimpArgs false

/-- Every number fits a limb. -/
def Limbs (zs : List Int) : Prop := ∀ z ∈ zs, 0 ≤ z ∧ z < 4294967296

/-- The slice value v reads, in w, as the limbs zs. -/
def Rd (w : World) (v : Value) (zs : List Int) : Prop :=
  ∃ a cap, v = .slice a zs.length cap ∧ zs.length ≤ 16777216 ∧ Limbs zs ∧
    (0 < zs.length → ∃ b off, a = some ⟨b, off, none⟩ ∧ b < w.heap.size ∧ ∀ k, k < zs.length → w.cell? ⟨b, off + k, none⟩ = some (.int .u32 (zs.getD k 0)))

/-- The slice value v owns, in w, from block B on, the limbs zs. -/
def Own (w : World) (B : Nat) (v : Value) (zs : List Int) : Prop :=
  w.ownsRow B 51 1 v zs.length (zs.map (Value.int .u32)) ∧ zs.length ≤ 16777216 ∧ Limbs zs

theorem Limbs.nil : Limbs [] := fun _ h => by cases h
theorem Limbs.get {zs : List Int} (h : Limbs zs) (k : Nat) : 0 ≤ zs.getD k 0 ∧ zs.getD k 0 < 4294967296 := by
  by_cases hk : k < zs.length
  · have : zs.getD k 0 = zs[k] := by simp [List.getD, hk]
    rw [this]; exact h _ (List.getElem_mem hk)
  · have : zs.getD k 0 = 0 := by simp [List.getD, List.getElem?_eq_none (by omega : zs.length ≤ k)]
    omega
theorem Limbs.get? {zs : List Int} (h : Limbs zs) (k : Nat) : 0 ≤ zs[k]?.getD 0 ∧ zs[k]?.getD 0 < 4294967296 := by
  have := h.get k; simpa [List.getD] using this
theorem Limbs.take {zs : List Int} (h : Limbs zs) (k : Nat) : Limbs (zs.take k) := fun z hz => h z (List.mem_of_mem_take hz)
theorem Limbs.drop {zs : List Int} (h : Limbs zs) (k : Nat) : Limbs (zs.drop k) := fun z hz => h z (List.mem_of_mem_drop hz)
theorem Limbs.append {xs ys : List Int} (h : Limbs xs) (g : Limbs ys) : Limbs (xs ++ ys) := fun z hz => by
  rcases List.mem_append.mp hz with h1 | h1
  · exact h z h1
  · exact g z h1
theorem Limbs.one {z : Int} (h0 : 0 ≤ z) (h1 : z < 4294967296) : Limbs [z] := fun y hy => by simp at hy; subst hy; exact ⟨h0, h1⟩
theorem Limbs.set {zs : List Int} (h : Limbs zs) (k : Nat) {z : Int} (h0 : 0 ≤ z) (h1 : z < 4294967296) : Limbs (zs.set k z) := fun y hy => by
  rcases List.mem_or_eq_of_mem_set hy with h2 | h2
  · exact h y h2
  · subst h2; exact ⟨h0, h1⟩
theorem Limbs.zeros (n : Nat) : Limbs (List.replicate n 0) := fun z hz => by simp [List.mem_replicate] at hz; omega

theorem bcell {W w1 : World} (hb : Below W.heap.size W w1) : (∀ b o, b < W.heap.size → w1.cell? ⟨b, o, none⟩ = W.cell? ⟨b, o, none⟩) ∧ (∀ b o, b < W.heap.size → w1.frozen? ⟨b, o, none⟩ = W.frozen? ⟨b, o, none⟩) :=
  ⟨fun b o h => hb.cell (p := ⟨b, o, none⟩) h, fun b o h => hb.frozen (p := ⟨b, o, none⟩) h⟩

theorem Rd.keep {w w' : World} {v : Value} {zs : List Int} (h : Rd w v zs) (hb : Below w.heap.size w w') : Rd w' v zs := by
  obtain ⟨a, cap, rfl, hl, hz, hc⟩ := h
  refine ⟨a, cap, rfl, hl, hz, fun h0 => ?_⟩
  obtain ⟨b, off, rfl, hbw, hcell⟩ := hc h0
  exact ⟨b, off, rfl, Nat.lt_of_lt_of_le hbw hb.size, fun k hk => (hb.cell (p := ⟨b, off + k, none⟩) hbw).trans (hcell k hk)⟩

theorem Own.keep {w w' : World} {B : Nat} {v : Value} {zs : List Int} (h : Own w B v zs) (hb : Below w.heap.size w w') : Own w' B v zs := by
  obtain ⟨⟨h1, h2⟩, hl, hz⟩ := h
  refine ⟨⟨h1, ?_⟩, hl, hz⟩
  rcases h2 with h2 | ⟨g, cap, cur, hv, hg, hh, r⟩
  · exact .inl h2
  · refine .inr ⟨g, cap, cur, hv, hg, ?_, r⟩
    have hlt : g < w.heap.size := by
      rcases Nat.lt_or_ge g w.heap.size with h | h
      · exact h
      · rw [Array.getElem?_eq_none h] at hh; cases hh
    rw [hb.block g hlt]; exact hh

theorem Own.mono {w : World} {B B' : Nat} {v : Value} {zs : List Int} (h : Own w B v zs) (hB : B' ≤ B) : Own w B' v zs := by
  obtain ⟨⟨h1, h2⟩, hl, hz⟩ := h
  refine ⟨⟨h1, ?_⟩, hl, hz⟩
  rcases h2 with h2 | ⟨g, cap, cur, hv, hg, r⟩
  · exact .inl h2
  · exact .inr ⟨g, cap, cur, hv, Nat.le_trans hB hg, r⟩

theorem Own.drew {w : World} {B : Nat} {v : Value} {zs : List Int} (h : Own w B v zs) : Own w.drew B v zs := ⟨h.1.drew, h.2⟩
theorem Own.alloc {w : World} {B : Nat} {v : Value} {zs : List Int} (h : Own w B v zs) (o : Obj) : Own (w.alloc o) B v zs := ⟨h.1.alloc o, h.2⟩
theorem Own.nil (w : World) (B : Nat) : Own w B (.slice none 0 0) [] := ⟨World.ownsRow_nil _ _ _ _, by simp, Limbs.nil⟩
theorem Rd.alloc {w : World} {v : Value} {zs : List Int} (h : Rd w v zs) (o : Obj) : Rd (w.alloc o) v zs := h.keep ((Below.refl _ _).alloc (Nat.le_refl _) o)

theorem Rd.drew {w : World} {v : Value} {zs : List Int} (h : Rd w v zs) : Rd w.drew v zs := h.keep (Below.refl _ _).drew

theorem Own.rd {w : World} {B : Nat} {v : Value} {zs : List Int} (h : Own w B v zs) : Rd w v zs := by
  obtain ⟨hown, hl, hz⟩ := h
  have hown' := hown
  obtain ⟨h1, h2⟩ := hown
  rcases h2 with ⟨rfl, h0⟩ | ⟨g, cap, cur, rfl, hg, hh, _, _, _, htake⟩
  · have hz0 : zs = [] := by cases zs <;> simp_all
    subst hz0
    exact ⟨none, 0, rfl, by simp, Limbs.nil, fun h => by simp at h⟩
  · refine ⟨_, cap, rfl, hl, hz, fun h0 => ⟨g, 0, rfl, ?_, fun k hk => ?_⟩⟩
    · rcases Nat.lt_or_ge g w.heap.size with h | h
      · exact h
      · rw [Array.getElem?_eq_none h] at hh; cases hh
    · rw [Nat.zero_add, hown'.cellAt k (by omega)]
      simp [hk, List.getD]

/-- The shape of an owned value: nil and empty, or at a block's head. -/
theorem Own.shape {w : World} {B : Nat} {v : Value} {zs : List Int} (h : Own w B v zs) : (v = .slice none 0 0 ∧ zs = []) ∨ ∃ g cap, v = .slice (some ⟨g, 0, none⟩) zs.length cap ∧ B ≤ g ∧ g < w.heap.size ∧ zs.length ≤ cap := by
  obtain ⟨⟨h1, h2⟩, hl, hz⟩ := h
  rcases h2 with ⟨rfl, h0⟩ | ⟨g, cap, cur, rfl, hg, hh, hc, _⟩
  · left; refine ⟨rfl, ?_⟩; cases zs <;> simp_all
  · right; refine ⟨g, cap, rfl, hg, ?_, hc⟩
    rcases Nat.lt_or_ge g w.heap.size with h | h
    · exact h
    · rw [Array.getElem?_eq_none h] at hh; cases hh

theorem Own.len {w : World} {B g cap n : Nat} {zs : List Int} (h : Own w B (.slice (some ⟨g, 0, none⟩) n cap) zs) : n = zs.length := by
  rcases h.1.2 with ⟨h', _⟩ | ⟨g', cap', cur, h', _⟩
  · cases h'
  · simp at h'; exact h'.2.1
theorem Own.cell {w : World} {B g cap n : Nat} {zs : List Int} (h : Own w B (.slice (some ⟨g, 0, none⟩) n cap) zs) (k : Nat) (hk : k < zs.length) : w.cell? ⟨g, k, none⟩ = some (.int .u32 (zs.getD k 0)) := by
  obtain rfl := h.len
  rw [h.1.cellAt k (by omega)]; simp [hk, List.getD]
theorem Own.frozen {w : World} {B g cap n : Nat} {zs : List Int} (h : Own w B (.slice (some ⟨g, 0, none⟩) n cap) zs) (k : Nat) : w.frozen? ⟨g, k, none⟩ = false := by
  obtain rfl := h.len
  exact h.1.frozenAt k

theorem Own.form {w : World} {B : Nat} {v : Value} {zs : List Int} (h : Own w B v zs) : ∃ a c, v = .slice a zs.length c := by
  rcases h.shape with ⟨rfl, rfl⟩ | ⟨g, cap, rfl, _⟩
  · exact ⟨_, _, rfl⟩
  · exact ⟨_, _, rfl⟩

theorem Own.setBelow {w : World} {B : Nat} {v : Value} {zs : List Int} (h : Own w B v zs) {a : Addr} (ha : a.block < B) (u : Value) : Own (w.setCell a u) B v zs := ⟨ownsRow_setCell_below h.1 ha u, h.2⟩
theorem below_of_alloc {w w1 : World} {o : Obj} (h : Below (w.alloc o).heap.size (w.alloc o) w1) : Below w.heap.size w w1 :=
  ((Below.refl _ _).alloc (Nat.le_refl _) o).trans (h.mono (by simp))

/-- Two cells of a block: a struct of two fields that a variable holds. -/
def Box (w : World) (b : Nat) (x y : Value) : Prop := b < w.heap.size ∧ w.cell? ⟨b, 0, none⟩ = some x ∧ w.cell? ⟨b, 1, none⟩ = some y
theorem Box.keep {w w' : World} {b : Nat} {x y : Value} (h : Box w b x y) (hb : Below w.heap.size w w') : Box w' b x y :=
  ⟨Nat.lt_of_lt_of_le h.1 hb.size, (hb.cell (p := ⟨b, 0, none⟩) h.1).trans h.2.1, (hb.cell (p := ⟨b, 1, none⟩) h.1).trans h.2.2⟩
theorem Box.new (w : World) (x y : Value) (t : TypeId) : Box (w.alloc (.cells #[x, y] t)) w.heap.size x y :=
  ⟨by simp, by rw [World.cell?_alloc_at _ _ _ _ rfl]; rfl, by rw [World.cell?_alloc_at _ _ _ _ rfl]; rfl⟩
theorem Box.alloc {w : World} {b : Nat} {x y : Value} (h : Box w b x y) (o : Obj) : Box (w.alloc o) b x y := h.keep ((Below.refl _ _).alloc (Nat.le_refl _) o)
theorem Box.drew {w : World} {b : Nat} {x y : Value} (h : Box w b x y) : Box w.drew b x y := h.keep (Below.refl _ _).drew

/-- A store into an owned row. -/
theorem Own.store {w : World} {B g cap n : Nat} {zs : List Int} (h : Own w B (.slice (some ⟨g, 0, none⟩) n cap) zs) (k : Nat) {z : Int} (h0 : 0 ≤ z) (h1 : z < 4294967296) :
    Own (w.setCell ⟨g, k, none⟩ (.int .u32 z)) B (.slice (some ⟨g, 0, none⟩) n cap) (zs.set k z) := by
  obtain ⟨hown, hl, hz⟩ := h
  have hn : n = zs.length := by
    rcases hown.2 with ⟨h', _⟩ | ⟨g', cap', cur, h', _⟩
    · cases h'
    · simp at h'; exact h'.2.1
  subst hn
  refine ⟨?_, by simpa using hl, hz.set k h0 h1⟩
  have := (hown.stored k (.int .u32 z)).1
  simpa [List.map_set] using this

theorem set_take_replicate (zs : List Int) (n k : Nat) (hn : n = zs.length) (hk : k < n) : (zs.take k ++ List.replicate (n - k) 0).set k (zs.getD k 0) = zs.take (k + 1) ++ List.replicate (n - (k + 1)) 0 := by
  subst hn
  apply List.ext_getElem?
  intro j
  rw [List.getElem?_set]
  by_cases hj : k = j
  · subst hj
    have h2 : (zs.take (k + 1))[k]? = some zs[k] := by rw [List.getElem?_take]; simp [hk]
    have h3 : (zs.take (k + 1) ++ List.replicate (zs.length - (k + 1)) 0)[k]? = some zs[k] := by rw [List.getElem?_append_left (by simp; omega)]; exact h2
    rw [h3, if_pos rfl, if_pos (by simp; omega)]
    simp [hk, List.getD]
  · rw [if_neg hj]
    rcases Nat.lt_or_ge j k with h | h
    · rw [List.getElem?_append_left (by simp; omega), List.getElem?_append_left (by simp; omega), List.getElem?_take, List.getElem?_take, if_pos h, if_pos (by omega)]
    · rw [List.getElem?_append_right (by simp; omega), List.getElem?_append_right (by simp; omega)]
      simp only [List.getElem?_replicate, List.length_take]
      have e1 : min k zs.length = k := by omega
      have e2 : min (k + 1) zs.length = k + 1 := by omega
      rw [e1, e2]
      by_cases h3 : j < zs.length
      · rw [if_pos (by omega), if_pos (by omega)]
      · rw [if_neg (by omega), if_neg (by omega)]

theorem take_succ_getD (zs : List Int) (k : Nat) (hk : k < zs.length) : zs.take (k + 1) = zs.take k ++ [zs.getD k 0] := by
  rw [List.take_add_one, List.getElem?_eq_getElem hk]; simp [List.getD, hk]

theorem Try.info51 : (Try.prog.info? 51).map (fun i => (i.zero, i.size, i.bytes)) = some (some (.int .u32 0), 1, 4) := by kernel_rfl

theorem Own.made {w' : World} {B n : Nat} {v : Value} (hl : n ≤ 16777216) (h : w'.ownsRow B 51 1 v n (madeCells (Value.cells (.int .u32 0)) (n * 1)).toList) : Own w' B v (List.replicate n 0) := by
  refine ⟨?_, by simpa using hl, Limbs.zeros n⟩
  have e : (madeCells (Value.cells (.int .u32 0)) (n * 1)).toList = (List.replicate n (0 : Int)).map (Value.int .u32) := by
    have : Value.cells (.int .u32 0) = #[.int .u32 0] := rfl
    rw [this, toList_madeCells_one]; simp
  rw [e] at h; simpa using h

end Go.Proofs.Ytkmbmbeglemocaa
