import Derived.Test.YtjnalkeopehlbaaGcB
import Derived.Test.YtjnalkeopehlbaaGrE
import Derived.Test.YtjnalkeopehlbaaGrH
namespace Go.Proofs.Ytjnalkeopehlbaa
open Go.RowKit Go.Maps
set_option linter.unusedVariables false
set_option linter.unusedSimpArgs false

/-- What turns but in some blocks stays. -/
structure Kp (P : Nat → Prop) (w w' : World) : Prop where
  os : w'.os = w.os
  tape : w'.tape = w.tape
  output : w'.output = w.output
  size : w.heap.size ≤ w'.heap.size
  block : ∀ b, b < w.heap.size → ¬ P b → w'.heap[b]? = w.heap[b]?
theorem Kp.refl (P : Nat → Prop) (w : World) : Kp P w w := ⟨rfl, rfl, rfl, Nat.le_refl _, fun _ _ _ => rfl⟩
theorem Kp.of_grown {P : Nat → Prop} {w w' : World} {row : Option Nat} (h : w.grownBy w' row) (hr : ∀ b, row = some b → P b) : Kp P w w' :=
  ⟨h.os, h.tape, h.output, h.size, fun b hb hp => h.block b hb (fun e => hp (hr b e.symm))⟩
theorem Kp.of_below {P : Nat → Prop} {w w' : World} (h : Below w.heap.size w w') : Kp P w w' := ⟨h.os, h.tape, h.output, h.size, fun b hb _ => h.block b hb⟩
theorem Kp.trans {P Q : Nat → Prop} {a b c : World} (h : Kp P a b) (k : Kp Q b c) (hs : ∀ x, x < a.heap.size → Q x → P x) : Kp P a c :=
  ⟨k.os.trans h.os, k.tape.trans h.tape, k.output.trans h.output, Nat.le_trans h.size k.size, fun x hx hp => (k.block x (Nat.lt_of_lt_of_le hx h.size) (fun hq => hp (hs x hx hq))).trans (h.block x hx hp)⟩
theorem Kp.below {P : Nat → Prop} {w w' : World} {B : Nat} (h : Kp P w w') (hB : B ≤ w.heap.size) (hp : ∀ b, b < B → ¬ P b) : Below B w w' := ⟨h.os, h.tape, h.output, h.size, fun b hb => h.block b (by omega) (hp b hb)⟩
theorem Kp.mono {P Q : Nat → Prop} {w w' : World} (h : Kp P w w') (hs : ∀ b, b < w.heap.size → P b → Q b) : Kp Q w w' := ⟨h.os, h.tape, h.output, h.size, fun b hb hq => h.block b hb (fun hp => hq (hs b hb hp))⟩
theorem OwnG.same {α : Type} {S : Sh α} {T : TypeId} {w w' : World} {B : Nat} {v : Value} {xs : List α} (h : OwnG S T w B v xs) (hs : ∀ g, v.ownBlock = some g → w'.heap[g]? = w.heap[g]?) : OwnG S T w' B v xs := by
  obtain ⟨⟨h1, h2⟩, h3⟩ := h
  refine ⟨⟨h1, ?_⟩, h3⟩
  rcases h2 with ⟨e, r⟩ | ⟨g, cap, cur, e, hg, hh, rest⟩
  · exact .inl ⟨e, r⟩
  · exact .inr ⟨g, cap, cur, e, hg, (hs g (by rw [e]; rfl)).trans hh, rest⟩
theorem Own.same {w w' : World} {B : Nat} {v : Value} {xs : List Int} (h : Own w B v xs) (hs : ∀ g, v.ownBlock = some g → w'.heap[g]? = w.heap[g]?) : Own w' B v xs := by
  obtain ⟨⟨h1, h2⟩, h3⟩ := h
  refine ⟨⟨h1, ?_⟩, h3⟩
  rcases h2 with ⟨e, r⟩ | ⟨g, cap, cur, e, hg, hh, rest⟩
  · exact .inl ⟨e, r⟩
  · exact .inr ⟨g, cap, cur, e, hg, (hs g (by rw [e]; rfl)).trans hh, rest⟩
/-- A thing, as the specification lays it. -/
structure Tx where
  al : Bool
  h : Sl
  t : Sl
  rt : Nat
  wk : Nat
  fn : Nat
  rn : Bool
def Tx.cs (x : Tx) : List Value := [.bool x.al, x.h.val, x.t.val, .int .i64 (x.rt : Nat), .int .i64 (x.wk : Nat), .int .i64 (x.fn : Nat), .bool x.rn]
def shX : Sh Tx := ⟨7, by decide, Tx.cs, fun _ => True, fun _ => rfl, fun a u hu => by simp [Tx.cs, Sl.val] at hu; rcases hu with rfl | rfl | rfl | rfl | rfl | rfl | rfl <;> rfl⟩
theorem Try.info80 : (Try.prog.info? 80).map (fun i => (i.zero, i.size, i.bytes)) = some (some (.agg #[.bool false, .slice none 0 0, .slice none 0 0, .int .i64 0, .int .i64 0, .int .i64 0, .bool false]), 7, 88) := by kernel_rfl
def txA (S : Gs) (hs ts : Nat → Sl) (k : Nat) : Tx := ⟨S.al (k + 1), hs (k + 1), ts (k + 1), S.rt (k + 1), S.wk (k + 1), S.fn (k + 1), S.rn (k + 1)⟩
def txs (S : Gs) (hs ts : Nat → Sl) : List Tx := (List.range S.n).map (txA S hs ts)
theorem txs_len (S : Gs) (hs ts : Nat → Sl) : (txs S hs ts).length = S.n := by unfold txs; simp
theorem txs_get (S : Gs) (hs ts : Nat → Sl) (k : Nat) (h : k < (txs S hs ts).length) : (txs S hs ts)[k] = txA S hs ts k := by
  revert h
  show ∀ h : k < ((List.range S.n).map (txA S hs ts)).length, ((List.range S.n).map (txA S hs ts))[k]'h = _
  intro h
  rw [List.getElem_map, List.getElem_range]
theorem range_set {α : Type} (n k : Nat) (f g : Nat → α) (h : ∀ j, j ≠ k → g j = f j) : ((List.range n).map f).set k (g k) = (List.range n).map g := by
  apply List.ext_getElem
  · simp
  · intro j h1 h2
    by_cases e : j = k
    · subst e; simp
    · rw [List.getElem_set_ne (fun h => e h.symm)]
      simp [h j e]
def ksL (l : List (Nat × Nat)) : List Int := l.map fun p => (p.1 : Int)
def vsL (l : List (Nat × Nat)) : List Int := l.map fun p => (p.2 : Int)
def evL (l : List (Nat × Nat)) : List Ge := l.map fun p => ⟨(p.1 : Nat), (p.2 : Nat)⟩
def NoSh (u v : Value) : Prop := u.ownBlock = none ∨ u.ownBlock ≠ v.ownBlock
/-- The specification's state. -/
structure SS (w : World) (B sb : Nat) (ov ew : Value) (S : Gs) (hs ts : Nat → Sl) : Prop where
  box : ∃ c : Int, w.heap[sb]? = some (.cells #[ov, ew, .int .i64 c] 65 (0, 0))
  low : B ≤ sb
  out : OwnG shX 80 w B ov (txs S hs ts)
  ev : OwnG shGe 49 w B ew (evL S.ev)
  hr : ∀ x, S.al x = true → Own w B (hs x).val (ksL (S.hl x))
  tr : ∀ x, S.al x = true → Own w B (ts x).val (vsL (S.hl x))
  ah : ∀ x y, S.al x = true → S.al y = true → x ≠ y → NoSh (hs x).val (hs y).val
  at' : ∀ x y, S.al x = true → S.al y = true → x ≠ y → NoSh (ts x).val (ts y).val
  aht : ∀ x y, S.al x = true → S.al y = true → NoSh (hs x).val (ts y).val
/-- The blocks that telling and freeing turn. -/
def PF (sb : Nat) (ov ew : Value) (b : Nat) : Prop := b = sb ∨ ov.ownBlock = some b ∨ ew.ownBlock = some b
def Nw (w : World) (ew ew' : Value) : Prop := ∀ b, ew'.ownBlock = some b → ew.ownBlock = some b ∨ w.heap.size ≤ b
structure Tr (sb : Nat) (ov : Value) (w : World) (ew : Value) (w' : World) (ew' : Value) : Prop where
  kp : Kp (PF sb ov ew) w w'
  nw : Nw w ew ew'
theorem Tr.refl (sb : Nat) (ov : Value) (w : World) (ew : Value) : Tr sb ov w ew w ew := ⟨Kp.refl _ _, fun b h => .inl h⟩
theorem Tr.trans {sb : Nat} {ov : Value} {a b c : World} {x y z : Value} (h : Tr sb ov a x b y) (k : Tr sb ov b y c z) : Tr sb ov a x c z :=
  ⟨h.kp.trans k.kp (fun q hq hp => by
    rcases hp with h1 | h1 | h1
    · exact .inl h1
    · exact .inr (.inl h1)
    · rcases h.nw q h1 with h2 | h2
      · exact .inr (.inr h2)
      · omega), fun q hq => by
    rcases k.nw q hq with h1 | h1
    · exact h.nw q h1
    · exact .inr (Nat.le_trans h.kp.size h1)⟩
section
variable {w w' : World} {B sb : Nat} {ov ew : Value} {S : Gs} {hs ts : Nat → Sl}
theorem SS.lt (h : SS w B sb ov ew S hs ts) : sb < w.heap.size := by
  obtain ⟨c, hc⟩ := h.box
  rcases Nat.lt_or_ge sb w.heap.size with h1 | h1
  · exact h1
  · rw [Array.getElem?_eq_none h1] at hc; cases hc
theorem SS.out_sb (h : SS w B sb ov ew S hs ts) : ov.ownBlock ≠ some sb := fun e => by
  obtain ⟨cur, h1⟩ := h.out.objT e
  obtain ⟨c, hc⟩ := h.box
  rw [hc] at h1
  simp only [Option.some.injEq, Obj.cells.injEq] at h1
  exact absurd h1.2.1 (by decide)
theorem SS.ev_sb (h : SS w B sb ov ew S hs ts) : ew.ownBlock ≠ some sb := fun e => by
  obtain ⟨cur, h1⟩ := h.ev.objT e
  obtain ⟨c, hc⟩ := h.box
  rw [hc] at h1
  simp only [Option.some.injEq, Obj.cells.injEq] at h1
  exact absurd h1.2.1 (by decide)
theorem SS.ev_out (h : SS w B sb ov ew S hs ts) (b : Nat) (h1 : ov.ownBlock = some b) : ew.ownBlock ≠ some b := fun e => by
  obtain ⟨cur, h2⟩ := h.out.objT h1
  obtain ⟨cur', h3⟩ := h.ev.objT e
  rw [h2] at h3
  simp only [Option.some.injEq, Obj.cells.injEq] at h3
  exact absurd h3.2.1 (by decide)
theorem Own.objT {w : World} {B g : Nat} {v : Value} {xs : List Int} (h : Own w B v xs) (hg : v.ownBlock = some g) : ∃ cur, w.heap[g]? = some (.cells cur 2 (0, 0)) := by
  rcases h.1.2 with ⟨e, _⟩ | ⟨g', cap, cur, e, _, hh, _⟩
  · rw [e] at hg; cases hg
  · rw [e] at hg
    have : g' = g := Option.some.inj hg
    rw [← this]; exact ⟨cur, hh⟩
/-- A row of numbers is none of the state's blocks. -/
theorem SS.pf_int (h : SS w B sb ov ew S hs ts) {B' g : Nat} {v : Value} {xs : List Int} (hv : Own w B' v xs) (hg : v.ownBlock = some g) : ¬ PF sb ov ew g := by
  obtain ⟨cur, h1⟩ := hv.objT hg
  rintro (e | e | e)
  · obtain ⟨c, hc⟩ := h.box
    rw [e, hc] at h1
    simp only [Option.some.injEq, Obj.cells.injEq] at h1
    exact absurd h1.2.1 (by decide)
  · obtain ⟨cur', h2⟩ := h.out.objT e
    rw [h1] at h2
    simp only [Option.some.injEq, Obj.cells.injEq] at h2
    exact absurd h2.2.1 (by decide)
  · obtain ⟨cur', h2⟩ := h.ev.objT e
    rw [h1] at h2
    simp only [Option.some.injEq, Obj.cells.injEq] at h2
    exact absurd h2.2.1 (by decide)
theorem SS.keep (h : SS w B sb ov ew S hs ts) (hb : Below w.heap.size w w') : SS w' B sb ov ew S hs ts := by
  obtain ⟨c, hc⟩ := h.box
  exact ⟨⟨c, (hb.block sb h.lt).trans hc⟩, h.low, h.out.keep hb, h.ev.keep hb, fun x hx => (h.hr x hx).keep hb, fun x hx => (h.tr x hx).keep hb, h.ah, h.at', h.aht⟩
/-- The outer row, one cell turned. -/
theorem SS.put (h : SS w B sb ov ew S hs ts) {ob cap : Nat} (hov : ov = .slice (some ⟨ob, 0, none⟩) S.n cap) (k j : Nat) (hk : k < S.n) (hj : j < 7) (u : Value) (S' : Gs) (hs' ts' : Nat → Sl) (hn : S'.n = S.n) (hne : ∀ i, i ≠ k → txA S' hs' ts' i = txA S hs ts i)
    (hc : (txA S' hs' ts' k).cs = ((txA S hs ts k).cs).set j u) (hev : S'.ev = S.ev) (hal : ∀ x, S'.al x = true → S.al x = true ∧ S'.hl x = S.hl x ∧ hs' x = hs x ∧ ts' x = ts x) :
    SS (w.setCell ⟨ob, k * 7 + j, none⟩ u) B sb ov ew S' hs' ts' ∧ w.grownBy (w.setCell ⟨ob, k * 7 + j, none⟩ u) (some ob) := by
  have hg := gb_set w ob (k * 7 + j) u
  have hob : ov.ownBlock = some ob := by rw [hov]; rfl
  obtain ⟨c, hcb⟩ := h.box
  have ho := h.out
  rw [hov] at ho
  have ho2 := ho.put k (by rw [txs_len]; exact hk) j hj u (txA S' hs' ts' k) trivial (by rw [txs_get]; exact hc)
  have he : (txs S hs ts).set k (txA S' hs' ts' k) = txs S' hs' ts' := by
    unfold txs
    rw [hn]
    exact range_set S.n k (txA S hs ts) (txA S' hs' ts') hne
  rw [he] at ho2
  have hpf : ∀ x, S'.al x = true → (hs x).val.ownBlock ≠ some ob ∧ (ts x).val.ownBlock ≠ some ob := fun x hx => by
    obtain ⟨a, _⟩ := hal x hx
    exact ⟨fun e => h.pf_int (h.hr x a) e (.inr (.inl hob)), fun e => h.pf_int (h.tr x a) e (.inr (.inl hob))⟩
  refine ⟨⟨⟨c, ?_⟩, h.low, ?_, ?_, fun x hx => ?_, fun x hx => ?_, fun x y hx hy e => ?_, fun x y hx hy e => ?_, fun x y hx hy => ?_⟩, hg⟩
  · rw [hg.block sb h.lt (fun e => h.out_sb (by rw [hob]; exact e.symm))]; exact hcb
  · rw [hov]; exact ho2
  · rw [hev]; exact h.ev.but hg (.inr (h.ev_out ob hob))
  · obtain ⟨a, b, d, _⟩ := hal x hx
    rw [b, d]; exact (h.hr x a).but hg (.inr (hpf x hx).1)
  · obtain ⟨a, b, _, d⟩ := hal x hx
    rw [b, d]; exact (h.tr x a).but hg (.inr (hpf x hx).2)
  · obtain ⟨a, _, d, _⟩ := hal x hx
    obtain ⟨a', _, d', _⟩ := hal y hy
    rw [d, d']; exact h.ah x y a a' e
  · obtain ⟨a, _, _, d⟩ := hal x hx
    obtain ⟨a', _, _, d'⟩ := hal y hy
    rw [d, d']; exact h.at' x y a a' e
  · obtain ⟨a, _, d, _⟩ := hal x hx
    obtain ⟨a', _, _, d'⟩ := hal y hy
    rw [d, d']; exact h.aht x y a a'
theorem SS.shape (h : SS w B sb ov ew S hs ts) (hn : 0 < S.n) : ∃ ob cap, ov = .slice (some ⟨ob, 0, none⟩) S.n cap ∧ B ≤ ob ∧ ob < w.heap.size := by
  rcases h.out.shape with ⟨_, e⟩ | ⟨g, cap, e, h1, h2, _⟩
  · have := txs_len S hs ts
    rw [e] at this; simp at this; omega
  · rw [txs_len] at e
    exact ⟨g, cap, e, h1, h2⟩
theorem SS.cells (h : SS w B sb ov ew S hs ts) {ob cap : Nat} (hov : ov = .slice (some ⟨ob, 0, none⟩) S.n cap) (k : Nat) (hk : k < S.n) :
    w.cell? ⟨ob, k * 7, none⟩ = some (.bool (S.al (k + 1))) ∧ w.cell? ⟨ob, k * 7 + 1, none⟩ = some (hs (k + 1)).val ∧ w.cell? ⟨ob, k * 7 + 2, none⟩ = some (ts (k + 1)).val ∧ w.cell? ⟨ob, k * 7 + 3, none⟩ = some (.int .i64 (S.rt (k + 1) : Nat)) ∧ w.cell? ⟨ob, k * 7 + 4, none⟩ = some (.int .i64 (S.wk (k + 1) : Nat)) ∧ w.cell? ⟨ob, k * 7 + 5, none⟩ = some (.int .i64 (S.fn (k + 1) : Nat)) ∧ w.cell? ⟨ob, k * 7 + 6, none⟩ = some (.bool (S.rn (k + 1))) := by
  have ho := h.out
  rw [hov] at ho
  have hc : ∀ j, j < 7 → w.cell? ⟨ob, k * 7 + j, none⟩ = ((txA S hs ts k).cs)[j]? := fun j hj => by
    have := ho.cell k (by rw [txs_len]; exact hk) j hj
    rw [txs_get] at this
    exact this
  exact ⟨hc 0 (by omega), hc 1 (by omega), hc 2 (by omega), hc 3 (by omega), hc 4 (by omega), hc 5 (by omega), hc 6 (by omega)⟩
theorem SS.frozen (h : SS w B sb ov ew S hs ts) {ob cap : Nat} (hov : ov = .slice (some ⟨ob, 0, none⟩) S.n cap) (o : Nat) : w.frozen? ⟨ob, o, none⟩ = false := by
  have ho := h.out
  rw [hov] at ho
  exact ho.frozen o
theorem SS.boxc (h : SS w B sb ov ew S hs ts) : ∃ c : Int, w.cell? ⟨sb, 0, none⟩ = some ov ∧ w.cell? ⟨sb, 1, none⟩ = some ew ∧ w.cell? ⟨sb, 2, none⟩ = some (.int .i64 c) ∧ ∀ o, w.frozen? ⟨sb, o, none⟩ = false := by
  obtain ⟨c, hc⟩ := h.box
  exact ⟨c, cell_obj hc rfl, cell_obj hc rfl, cell_obj hc rfl, fun o => frozen_obj hc⟩
/-- The events, told on. -/
theorem SS.told (h : SS w B sb ov ew S hs ts) {w1 : World} {ew' : Value} (evs : List (Nat × Nat)) (hg : w.grownBy w1 ew.ownBlock) (he : OwnG shGe 49 w1 B ew' (evL evs)) (hl : ∀ b, ew'.ownBlock = some b → ew.ownBlock = some b ∨ w.heap.size ≤ b) :
    SS (w1.setCell ⟨sb, 1, none⟩ ew') B sb ov ew' { S with ev := evs } hs ts ∧ Tr sb ov w ew (w1.setCell ⟨sb, 1, none⟩ ew') ew' := by
  obtain ⟨c, hc⟩ := h.box
  have hc1 := (hg.block sb h.lt (fun e => h.ev_sb e.symm)).trans hc
  have hg2 := gb_set w1 sb 1 ew'
  have hsz := hg.size
  have hpf : ∀ g, ¬ PF sb ov ew g → g < w.heap.size → (w1.setCell ⟨sb, 1, none⟩ ew').heap[g]? = w.heap[g]? := fun g hp hl => by
    rw [hg2.block g (by omega) (fun e => hp (.inl (Option.some.inj e))), hg.block g hl (fun e => hp (.inr (.inr e.symm)))]
  refine ⟨⟨⟨c, ?_⟩, h.low, ?_, ?_, fun x hx => ?_, fun x hx => ?_, h.ah, h.at', h.aht⟩, ⟨?_, hl⟩⟩
  · rw [heap_setCell_same w1 sb 1 _ _ _ hc1]; rfl
  · refine h.out.same (fun g e => ?_)
    rw [hg2.block g (by have := (h.out.lt g e).2; omega) (fun e2 => h.out_sb (by rw [e]; exact e2)), hg.block g (h.out.lt g e).2 (fun e2 => h.ev_out g e e2.symm)]
  · refine he.but hg2 (.inr (fun e => ?_))
    rcases hl sb e with h1 | h1
    · exact h.ev_sb h1
    · have := h.lt; omega
  · exact (h.hr x hx).same (fun g e => hpf g (h.pf_int (h.hr x hx) e) ((h.hr x hx).lt g e).2)
  · exact (h.tr x hx).same (fun g e => hpf g (h.pf_int (h.tr x hx) e) ((h.tr x hx).lt g e).2)
  · exact ⟨by rw [hg2.os, hg.os], by rw [hg2.tape, hg.tape], by rw [hg2.output, hg.output], Nat.le_trans hsz hg2.size, fun g h1 h2 => hpf g h2 h1⟩
/-- The count of the freed, turned. -/
theorem SS.cutc (h : SS w B sb ov ew S hs ts) (c' : Int) : SS (w.setCell ⟨sb, 2, none⟩ (.int .i64 c')) B sb ov ew S hs ts ∧ Tr sb ov w ew (w.setCell ⟨sb, 2, none⟩ (.int .i64 c')) ew := by
  obtain ⟨c, hc⟩ := h.box
  have hg2 := gb_set w sb 2 (.int .i64 c')
  refine ⟨⟨⟨c', ?_⟩, h.low, h.out.but hg2 (.inr h.out_sb), h.ev.but hg2 (.inr h.ev_sb), fun x hx => (h.hr x hx).but hg2 (.inr fun e => h.pf_int (h.hr x hx) e (.inl rfl)), fun x hx => (h.tr x hx).but hg2 (.inr fun e => h.pf_int (h.tr x hx) e (.inl rfl)), h.ah, h.at', h.aht⟩, ⟨Kp.of_grown hg2 (fun b e => .inl (Option.some.inj e).symm), fun b e => .inl e⟩⟩
  rw [heap_setCell_same w sb 2 _ _ _ hc]; rfl
theorem Tr.put {ob : Nat} (hob : ov.ownBlock = some ob) (hg : w.grownBy w' (some ob)) : Tr sb ov w ew w' ew := ⟨Kp.of_grown hg (fun b e => .inr (.inl (by rw [hob]; exact e))), fun b e => .inl e⟩
end
end Go.Proofs.Ytjnalkeopehlbaa
