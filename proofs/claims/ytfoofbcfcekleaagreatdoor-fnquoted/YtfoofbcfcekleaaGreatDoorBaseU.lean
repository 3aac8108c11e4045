import Derived.Test.YtfoofbcfcekleaaGreatDoorProg
import Derived.WalkKit
import Derived.WalkSpells
import Derived.WalkLawsBesides
import Derived.BigQuiet
import Derived.Deep.QuietTactic
import Derived.Deep.RegionWith
import Derived.Handy
import Derived.Laws.AppendOwnNone
namespace Go.Proofs.YtfoofbcfcekleaaGreatDoor.U8
open Go.RowKit
set_option linter.unusedVariables false
set_option linter.unusedSimpArgs false

/-- Every number fits a limb. -/
def Limbs (zs : List Int) : Prop := ∀ z ∈ zs, 0 ≤ z ∧ z < 4294967296

/-- The slice value v reads, in w, as the limbs zs. -/
def Rd (w : World) (v : Value) (zs : List Int) : Prop :=
  ∃ a cap, v = .slice a zs.length cap ∧ zs.length ≤ 16777216 ∧ Limbs zs ∧ (zs.length ≤ cap ∧ (a = none → cap = 0)) ∧
    (0 < zs.length → ∃ b off, a = some ⟨b, off, none⟩ ∧ b < w.heap.size ∧ ∀ k, k < zs.length → w.cell? ⟨b, off + k, none⟩ = some (.int .u8 (zs.getD k 0)))

/-- The slice value v owns, in w, from block B on, the limbs zs. -/
def Own (w : World) (B : Nat) (v : Value) (zs : List Int) : Prop :=
  w.ownsRow B 5 1 v zs.length (zs.map (Value.int .u8)) ∧ zs.length ≤ 16777216 ∧ Limbs zs

theorem beq_len0 {n : Nat} (h : ¬ n = 0) : ((n : Int) == 0) = false := by
  rw [beq_eq_false_iff_ne]; omega
theorem Limbs.nil : Limbs [] := fun _ h => by cases h
theorem Limbs.get {zs : List Int} (h : Limbs zs) (k : Nat) : 0 ≤ zs.getD k 0 ∧ zs.getD k 0 < 4294967296 := by
  by_cases hk : k < zs.length
  · have : zs.getD k 0 = zs[k] := by simp [List.getD, hk]
    rw [this]; exact h _ (List.getElem_mem hk)
  · have : zs.getD k 0 = 0 := by simp [List.getD, List.getElem?_eq_none (by omega : zs.length ≤ k)]
    omega
theorem Limbs.get? {zs : List Int} (h : Limbs zs) (k : Nat) : 0 ≤ zs[k]?.getD 0 ∧ zs[k]?.getD 0 < 4294967296 := by
  have := h.get k; simpa [List.getD] using this
theorem Limbs.take {zs : List Int} (h : Limbs zs) (k : Nat) : Limbs (zs.take k) := fun z hz => h z (List.mem_of_mem_take hz)
theorem Limbs.drop {zs : List Int} (h : Limbs zs) (k : Nat) : Limbs (zs.drop k) := fun z hz => h z (List.mem_of_mem_drop hz)
theorem Limbs.append {xs ys : List Int} (h : Limbs xs) (g : Limbs ys) : Limbs (xs ++ ys) := fun z hz => by
  rcases List.mem_append.mp hz with h1 | h1
  · exact h z h1
  · exact g z h1
theorem Limbs.one {z : Int} (h0 : 0 ≤ z) (h1 : z < 4294967296) : Limbs [z] := fun y hy => by simp at hy; subst hy; exact ⟨h0, h1⟩
theorem Limbs.set {zs : List Int} (h : Limbs zs) (k : Nat) {z : Int} (h0 : 0 ≤ z) (h1 : z < 4294967296) : Limbs (zs.set k z) := fun y hy => by
  rcases List.mem_or_eq_of_mem_set hy with h2 | h2
  · exact h y h2
  · subst h2; exact ⟨h0, h1⟩
theorem Limbs.zeros (n : Nat) : Limbs (List.replicate n 0) := fun z hz => by simp [List.mem_replicate] at hz; omega

theorem bcell {W w1 : World} (hb : Below W.heap.size W w1) : (∀ b o, b < W.heap.size → w1.cell? ⟨b, o, none⟩ = W.cell? ⟨b, o, none⟩) ∧ (∀ b o, b < W.heap.size → w1.frozen? ⟨b, o, none⟩ = W.frozen? ⟨b, o, none⟩) :=
  ⟨fun b o h => hb.cell (p := ⟨b, o, none⟩) h, fun b o h => hb.frozen (p := ⟨b, o, none⟩) h⟩

theorem Rd.keep {w w' : World} {v : Value} {zs : List Int} (h : Rd w v zs) (hb : Below w.heap.size w w') : Rd w' v zs := by
  obtain ⟨a, cap, rfl, hl, hz, hn0, hc⟩ := h
  refine ⟨a, cap, rfl, hl, hz, hn0, fun h0 => ?_⟩
  obtain ⟨b, off, rfl, hbw, hcell⟩ := hc h0
  exact ⟨b, off, rfl, Nat.lt_of_lt_of_le hbw hb.size, fun k hk => (hb.cell (p := ⟨b, off + k, none⟩) hbw).trans (hcell k hk)⟩

theorem Own.keep {w w' : World} {B : Nat} {v : Value} {zs : List Int} (h : Own w B v zs) (hb : Below w.heap.size w w') : Own w' B v zs := by
  obtain ⟨⟨h1, h2⟩, hl, hz⟩ := h
  refine ⟨⟨h1, ?_⟩, hl, hz⟩
  rcases h2 with h2 | ⟨g, cap, cur, hv, hg, hh, r⟩
  · exact .inl h2
  · refine .inr ⟨g, cap, cur, hv, hg, ?_, r⟩
    have hlt : g < w.heap.size := by
      rcases Nat.lt_or_ge g w.heap.size with h | h
      · exact h
      · rw [Array.getElem?_eq_none h] at hh; cases hh
    rw [hb.block g hlt]; exact hh

theorem Own.mono {w : World} {B B' : Nat} {v : Value} {zs : List Int} (h : Own w B v zs) (hB : B' ≤ B) : Own w B' v zs := by
  obtain ⟨⟨h1, h2⟩, hl, hz⟩ := h
  refine ⟨⟨h1, ?_⟩, hl, hz⟩
  rcases h2 with h2 | ⟨g, cap, cur, hv, hg, r⟩
  · exact .inl h2
  · exact .inr ⟨g, cap, cur, hv, Nat.le_trans hB hg, r⟩

theorem Own.drew {w : World} {B : Nat} {v : Value} {zs : List Int} (h : Own w B v zs) : Own w.drew B v zs := ⟨h.1.drew, h.2⟩
theorem Own.alloc {w : World} {B : Nat} {v : Value} {zs : List Int} (h : Own w B v zs) (o : Obj) : Own (w.alloc o) B v zs := ⟨h.1.alloc o, h.2⟩
theorem Own.nil (w : World) (B : Nat) : Own w B (.slice none 0 0) [] := ⟨World.ownsRow_nil _ _ _ _, by simp, Limbs.nil⟩
theorem Rd.alloc {w : World} {v : Value} {zs : List Int} (h : Rd w v zs) (o : Obj) : Rd (w.alloc o) v zs := h.keep ((Below.refl _ _).alloc (Nat.le_refl _) o)

theorem Rd.drew {w : World} {v : Value} {zs : List Int} (h : Rd w v zs) : Rd w.drew v zs := h.keep (Below.refl _ _).drew

theorem Own.rd {w : World} {B : Nat} {v : Value} {zs : List Int} (h : Own w B v zs) : Rd w v zs := by
  obtain ⟨hown, hl, hz⟩ := h
  have hown' := hown
  obtain ⟨h1, h2⟩ := hown
  rcases h2 with ⟨rfl, h0⟩ | ⟨g, cap, cur, rfl, hg, hh, hcp, _, _, htake⟩
  · have hz0 : zs = [] := by cases zs <;> simp_all
    subst hz0
    exact ⟨none, 0, rfl, by simp, Limbs.nil, ⟨Nat.le_refl _, fun _ => rfl⟩, fun h => by simp at h⟩
  · refine ⟨_, cap, rfl, hl, hz, ⟨hcp, fun h => by (cases h)⟩, fun h0 => ⟨g, 0, rfl, ?_, fun k hk => ?_⟩⟩
    · rcases Nat.lt_or_ge g w.heap.size with h | h
      · exact h
      · rw [Array.getElem?_eq_none h] at hh; cases hh
    · rw [Nat.zero_add, hown'.cellAt k (by omega)]
      simp [hk, List.getD]

/-- The shape of an owned value: nil and empty, or at a block's head. -/
theorem Own.shape {w : World} {B : Nat} {v : Value} {zs : List Int} (h : Own w B v zs) : (v = .slice none 0 0 ∧ zs = []) ∨ ∃ g cap, v = .slice (some ⟨g, 0, none⟩) zs.length cap ∧ B ≤ g ∧ g < w.heap.size ∧ zs.length ≤ cap := by
  obtain ⟨⟨h1, h2⟩, hl, hz⟩ := h
  rcases h2 with ⟨rfl, h0⟩ | ⟨g, cap, cur, rfl, hg, hh, hc, _⟩
  · left; refine ⟨rfl, ?_⟩; cases zs <;> simp_all
  · right; refine ⟨g, cap, rfl, hg, ?_, hc⟩
    rcases Nat.lt_or_ge g w.heap.size with h | h
    · exact h
    · rw [Array.getElem?_eq_none h] at hh; cases hh

theorem Own.len {w : World} {B g cap n : Nat} {zs : List Int} (h : Own w B (.slice (some ⟨g, 0, none⟩) n cap) zs) : n = zs.length := by
  rcases h.1.2 with ⟨h', _⟩ | ⟨g', cap', cur, h', _⟩
  · cases h'
  · simp at h'; exact h'.2.1
theorem Own.cell {w : World} {B g cap n : Nat} {zs : List Int} (h : Own w B (.slice (some ⟨g, 0, none⟩) n cap) zs) (k : Nat) (hk : k < zs.length) : w.cell? ⟨g, k, none⟩ = some (.int .u8 (zs.getD k 0)) := by
  obtain rfl := h.len
  rw [h.1.cellAt k (by omega)]; simp [hk, List.getD]
theorem Own.frozen {w : World} {B g cap n : Nat} {zs : List Int} (h : Own w B (.slice (some ⟨g, 0, none⟩) n cap) zs) (k : Nat) : w.frozen? ⟨g, k, none⟩ = false := by
  obtain rfl := h.len
  exact h.1.frozenAt k

theorem Own.form {w : World} {B : Nat} {v : Value} {zs : List Int} (h : Own w B v zs) : ∃ a c, v = .slice a zs.length c := by
  rcases h.shape with ⟨rfl, rfl⟩ | ⟨g, cap, rfl, _⟩
  · exact ⟨_, _, rfl⟩
  · exact ⟨_, _, rfl⟩

theorem Own.setBelow {w : World} {B : Nat} {v : Value} {zs : List Int} (h : Own w B v zs) {a : Addr} (ha : a.block < B) (u : Value) : Own (w.setCell a u) B v zs := ⟨ownsRow_setCell_below h.1 ha u, h.2⟩
theorem below_of_alloc {w w1 : World} {o : Obj} (h : Below (w.alloc o).heap.size (w.alloc o) w1) : Below w.heap.size w w1 :=
  ((Below.refl _ _).alloc (Nat.le_refl _) o).trans (h.mono (by simp))

/-- Two cells of a block: a struct of two fields that a variable holds. -/
def Box (w : World) (b : Nat) (x y : Value) : Prop := b < w.heap.size ∧ w.cell? ⟨b, 0, none⟩ = some x ∧ w.cell? ⟨b, 1, none⟩ = some y
theorem Box.keep {w w' : World} {b : Nat} {x y : Value} (h : Box w b x y) (hb : Below w.heap.size w w') : Box w' b x y :=
  ⟨Nat.lt_of_lt_of_le h.1 hb.size, (hb.cell (p := ⟨b, 0, none⟩) h.1).trans h.2.1, (hb.cell (p := ⟨b, 1, none⟩) h.1).trans h.2.2⟩
theorem Box.new (w : World) (x y : Value) (t : TypeId) : Box (w.alloc (.cells #[x, y] t)) w.heap.size x y :=
  ⟨by simp, by rw [World.cell?_alloc_at _ _ _ _ rfl]; rfl, by rw [World.cell?_alloc_at _ _ _ _ rfl]; rfl⟩
theorem Box.alloc {w : World} {b : Nat} {x y : Value} (h : Box w b x y) (o : Obj) : Box (w.alloc o) b x y := h.keep ((Below.refl _ _).alloc (Nat.le_refl _) o)
theorem Box.drew {w : World} {b : Nat} {x y : Value} (h : Box w b x y) : Box w.drew b x y := h.keep (Below.refl _ _).drew

theorem gb_trans {a b c : World} {row : Option Nat} (h : a.grownBy b row) (k : b.grownBy c row) : a.grownBy c row :=
  ⟨k.os.trans h.os, k.tape.trans h.tape, k.output.trans h.output, Nat.le_trans h.size k.size, fun i hi hne => (k.block i (Nat.lt_of_lt_of_le hi h.size) hne).trans (h.block i hi hne)⟩
theorem gb_below {a b : World} (row : Option Nat) (h : Below a.heap.size a b) : a.grownBy b row := ⟨h.os, h.tape, h.output, h.size, fun i hi _ => h.block i hi⟩
theorem gb_set (w : World) (g j : Nat) (u : Value) : w.grownBy (w.setCell ⟨g, j, none⟩ u) (some g) :=
  ⟨rfl, rfl, rfl, by simp [World.setCell], fun k hk hne => Below.heap_setCell _ _ _ _ (fun e => hne (by rw [e]))⟩
theorem gb_to {a b : World} {row : Option Nat} {B : Nat} (h : a.grownBy b row) (hr : ∀ k, row = some k → B ≤ k) (hB : B ≤ a.heap.size) : Below B a b := (Below.refl _ _).grown h hB hr
theorem Box.but {w w' : World} {b : Nat} {x y : Value} {row : Option Nat} (h : Box w b x y) (hg : w.grownBy w' row) (hne : some b ≠ row) : Box w' b x y :=
  ⟨Nat.lt_of_lt_of_le h.1 hg.size, hg.cell h.2.1 hne, hg.cell h.2.2 hne⟩
theorem Own.but {w w' : World} {B : Nat} {v : Value} {zs : List Int} {row : Option Nat} (h : Own w B v zs) (hg : w.grownBy w' row) (hne : v.ownBlock = none ∨ v.ownBlock ≠ row) : Own w' B v zs := ⟨h.1.kept hg hne, h.2⟩
theorem Own.lt {w : World} {B : Nat} {v : Value} {zs : List Int} (h : Own w B v zs) : ∀ k, v.ownBlock = some k → B ≤ k ∧ k < w.heap.size := h.1.lt

theorem ob_ne {v u : Value} {a b c d : Nat} (hv : ∀ k, v.ownBlock = some k → a ≤ k ∧ k < b) (hu : ∀ k, u.ownBlock = some k → c ≤ k ∧ k < d) (h : b ≤ c ∨ d ≤ a) : v.ownBlock = none ∨ v.ownBlock ≠ u.ownBlock := by
  cases e : v.ownBlock with
  | none => exact .inl rfl
  | some k =>
    right; intro e2
    have h1 := hv k e
    have h2 := hu k e2.symm
    omega
theorem bx_ne {u : Value} {b c d : Nat} (hu : ∀ k, u.ownBlock = some k → c ≤ k ∧ k < d) (h : b < c ∨ d ≤ b) : some b ≠ u.ownBlock := fun e => by
  have h2 := hu b e.symm
  omega

/-- A store into an owned row. -/
theorem Own.store {w : World} {B g cap n : Nat} {zs : List Int} (h : Own w B (.slice (some ⟨g, 0, none⟩) n cap) zs) (k : Nat) {z : Int} (h0 : 0 ≤ z) (h1 : z < 4294967296) :
    Own (w.setCell ⟨g, k, none⟩ (.int .u8 z)) B (.slice (some ⟨g, 0, none⟩) n cap) (zs.set k z) := by
  obtain ⟨hown, hl, hz⟩ := h
  have hn : n = zs.length := by
    rcases hown.2 with ⟨h', _⟩ | ⟨g', cap', cur, h', _⟩
    · cases h'
    · simp at h'; exact h'.2.1
  subst hn
  refine ⟨?_, by simpa using hl, hz.set k h0 h1⟩
  have := (hown.stored k (.int .u8 z)).1
  simpa [List.map_set] using this

theorem set_take_replicate (zs : List Int) (n k : Nat) (hn : n = zs.length) (hk : k < n) : (zs.take k ++ List.replicate (n - k) 0).set k (zs.getD k 0) = zs.take (k + 1) ++ List.replicate (n - (k + 1)) 0 := by
  subst hn
  apply List.ext_getElem?
  intro j
  rw [List.getElem?_set]
  by_cases hj : k = j
  · subst hj
    have h2 : (zs.take (k + 1))[k]? = some zs[k] := by rw [List.getElem?_take]; simp [hk]
    have h3 : (zs.take (k + 1) ++ List.replicate (zs.length - (k + 1)) 0)[k]? = some zs[k] := by rw [List.getElem?_append_left (by simp; omega)]; exact h2
    rw [h3, if_pos rfl, if_pos (by simp; omega)]
    simp [hk, List.getD]
  · rw [if_neg hj]
    rcases Nat.lt_or_ge j k with h | h
    · rw [List.getElem?_append_left (by simp; omega), List.getElem?_append_left (by simp; omega), List.getElem?_take, List.getElem?_take, if_pos h, if_pos (by omega)]
    · rw [List.getElem?_append_right (by simp; omega), List.getElem?_append_right (by simp; omega)]
      simp only [List.getElem?_replicate, List.length_take]
      have e1 : min k zs.length = k := by omega
      have e2 : min (k + 1) zs.length = k + 1 := by omega
      rw [e1, e2]
      by_cases h3 : j < zs.length
      · rw [if_pos (by omega), if_pos (by omega)]
      · rw [if_neg (by omega), if_neg (by omega)]

theorem take_succ_getD (zs : List Int) (k : Nat) (hk : k < zs.length) : zs.take (k + 1) = zs.take k ++ [zs.getD k 0] := by
  rw [List.take_add_one, List.getElem?_eq_getElem hk]; simp [List.getD, hk]

theorem Tryz.info5 : (Tryz.prog.info? 5).map (fun i => (i.zero, i.size, i.bytes)) = some (some (.int .u8 0), 1, 1) := by kernel_rfl

theorem Own.made {w' : World} {B n : Nat} {v : Value} (hl : n ≤ 16777216) (h : w'.ownsRow B 5 1 v n (madeCells (Value.cells (.int .u8 0)) (n * 1)).toList) : Own w' B v (List.replicate n 0) := by
  refine ⟨?_, by simpa using hl, Limbs.zeros n⟩
  have e : (madeCells (Value.cells (.int .u8 0)) (n * 1)).toList = (List.replicate n (0 : Int)).map (Value.int .u8) := by
    have : Value.cells (.int .u8 0) = #[.int .u8 0] := rfl
    rw [this, toList_madeCells_one]; simp
  rw [e] at h; simpa using h


/-- 'append(xs, ys...)': what is appended to is the call's own, what is appended is read. -/
theorem wpList_append_rd {w : World} {ops : Array Oper} {rest : List Oper} {o : Oper} {a : Act} {Q : Exit → Act → World → Prop} (hgd : o.guard = none) (s x : Operand) (t : TypeId)
    (ho : o.op = .call { callee := .builtin .append, args := #[s, x], argTypes := #[t, t] }) (ht : Tryz.prog.underlying t = some (.slice 5))
    (B : Nat) (v u : Value) (xs ys : List Int) (hs : a.eval s = v) (hx : a.eval x = u) (hown : Own w B v xs) (hr : Rd w u ys) (hlen : xs.length + ys.length ≤ 16777216) (hB : B ≤ w.heap.size)
    (h : ∀ a' c' w', Own w' B (.slice a' (xs ++ ys).length c') (xs ++ ys) → Below B w w' → wpList Tryz.prog ops Q rest (a.put o.dst (.slice a' (xs ++ ys).length c')) w') :
    wpList Tryz.prog ops Q (o :: rest) a w := by
  obtain ⟨i0, hi, hz0, hz1, hz2⟩ := info_parts Tryz.info5
  obtain ⟨ao, cap, rfl, hl, hz, hn0, hc⟩ := hr
  cases ao with
  | none =>
    have h0 : ys = [] := by
      cases ys with
      | nil => rfl
      | cons y r => obtain ⟨b, off, h1, _⟩ := hc (by simp); cases h1
    subst h0
    have hc0 := hn0.2 rfl
    subst hc0
    obtain ⟨a', c', rfl⟩ := hown.form
    refine wpList_append_own_none hgd s x t ho B 5 i0 1 ht hi _ _ _ hs hown.1 hx ?_
    have := h a' c' w (by simpa using hown) (Below.refl _ _)
    simpa using this
  | some ad =>
    refine wpList_append_own w hgd s x t ho B 5 i0 (.int .u8 0) 1 1 ht hi hz0 hz1 hz2 rfl (by decide) v _ _ hs hown.1 ad ys.length cap (ys.map (Value.int .u8)) hx (by simp) ?_ ?_ (by unfold maxLen; omega) (by omega) hB ?_
    · intro j z hj
      have hj' : j < ys.length := by
        rcases Nat.lt_or_ge j ys.length with h | h
        · exact h
        · rw [List.getElem?_eq_none (by simpa using h)] at hj; cases hj
      obtain ⟨b, off, h1, _, hcell⟩ := hc (by omega)
      simp at h1
      subst h1
      have e : (⟨b, off, none⟩ : Addr).add j = ⟨b, off + j, none⟩ := by unfold Addr.add; split <;> simp_all
      rw [e, hcell j hj']
      simp [hj', List.getD] at hj ⊢
      exact hj
    · intro z hz'
      simp at hz'
      obtain ⟨y, _, rfl⟩ := hz'
      rfl
    · intro v' w' h1 h2 _
      have hO : Own w' B v' (xs ++ ys) := ⟨by simpa using h1, by simpa using hlen, hown.2.2.append hz⟩
      obtain ⟨a', c', rfl⟩ := hO.form
      exact h a' c' w' hO ((Below.refl _ _).grown h2 hB (fun k hk => (hown.1.lt k hk).1))

theorem Rd.one (w : World) (g : Nat) (hg : g = w.heap.size) (t : TypeId) {z : Int} (h0 : 0 ≤ z) (h1 : z < 4294967296) : Rd (w.alloc (.cells #[.int .u8 z] t)) (.slice (some ⟨g, 0, none⟩) 1 1) [z] := by
  subst hg; exact ⟨_, 1, rfl, by simp, Limbs.one h0 h1, ⟨by simp, fun h => by (cases h)⟩, fun _ => ⟨w.heap.size, 0, rfl, by simp, fun k hk => by
    have : k = 0 := by simpa using hk
    subst this
    rw [World.cell?_alloc_at _ _ _ _ rfl]; rfl⟩⟩

theorem Own.lit2 (w : World) (g : Nat) (hg : g = w.heap.size) {x y : Int} (hx0 : 0 ≤ x) (hx1 : x < 4294967296) (hy0 : 0 ≤ y) (hy1 : y < 4294967296) : Own (w.alloc (.cells #[.int .u8 x, .int .u8 y] 5)) g (.slice (some ⟨g, 0, none⟩) 2 2) [x, y] := by
  subst hg; exact ⟨World.ownsRow_lit w #[.int .u8 x, .int .u8 y] 2 (Nat.le_refl _) (by unfold maxLen; omega) rfl, by simp, (Limbs.one hx0 hx1).append (Limbs.one hy0 hy1)⟩
theorem Own.lit1 (w : World) (g : Nat) (hg : g = w.heap.size) {x : Int} (hx0 : 0 ≤ x) (hx1 : x < 4294967296) : Own (w.alloc (.cells #[.int .u8 x] 5)) g (.slice (some ⟨g, 0, none⟩) 1 1) [x] := by
  subst hg; exact ⟨World.ownsRow_lit w #[.int .u8 x] 1 (Nat.le_refl _) (by unfold maxLen; omega) rfl, by simp, Limbs.one hx0 hx1⟩
theorem Rd.two (w : World) (g : Nat) (hg : g = w.heap.size) {x y : Int} (hx0 : 0 ≤ x) (hx1 : x < 4294967296) (hy0 : 0 ≤ y) (hy1 : y < 4294967296) : Rd (w.alloc (.cells #[.int .u8 x, .int .u8 y] 5)) (.slice (some ⟨g, 0, none⟩) 2 2) [x, y] := (Own.lit2 w g hg hx0 hx1 hy0 hy1).rd

/-- An empty slice that is made. -/
theorem Own.empty (w : World) : Own (w.alloc (.cells #[] 5)) w.heap.size (.slice (some ⟨w.heap.size, 0, none⟩) 0 0) [] :=
  ⟨World.ownsRow_lit w #[] 0 (Nat.le_refl _) (Nat.zero_le _) rfl, by simp, Limbs.nil⟩

/-- What is cut off at its head's side: the first k limbs. -/
theorem Rd.upto {w : World} {a : Option Addr} {cap n : Nat} {zs : List Int} (h : Rd w (.slice a n cap) zs) (k : Nat) (hk : k ≤ zs.length) : Rd w (.slice a k cap) (zs.take k) := by
  obtain ⟨a1, cap1, e, hl, hz, hn0, hc⟩ := h
  simp at e
  obtain ⟨rfl, rfl, rfl⟩ := e
  have hlen : (zs.take k).length = k := by simp; omega
  refine ⟨a, cap, by rw [hlen], by omega, hz.take k, ⟨by have := hn0.1; omega, hn0.2⟩, fun h0 => ?_⟩
  obtain ⟨b, off, rfl, hb, hcell⟩ := hc (by omega)
  refine ⟨b, off, rfl, hb, fun j hj => ?_⟩
  rw [hcell j (by omega)]
  have : j < k := by omega
  simp [List.getD, List.getElem?_take, this]
end Go.Proofs.YtfoofbcfcekleaaGreatDoor.U8
