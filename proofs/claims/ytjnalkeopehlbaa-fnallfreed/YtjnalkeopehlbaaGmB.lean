import Derived.Test.YtjnalkeopehlbaaGmA
import Derived.Test.YtjnalkeopehlbaaGcS
namespace Go.Proofs.Ytjnalkeopehlbaa
open Go.RowKit Go.Maps
set_option linter.unusedVariables false
set_option linter.unusedSimpArgs false

/-- A thing, as the program lays it. -/
structure Tc where
  rt : Nat
  ct : Nat
  wk : Nat
  fn : Nat
  rn : Bool
  mb : Nat
  row : Value
  ord : List Nat
  mp : List (Nat × Nat)
def tcC (x : Nat) (t : Tc) : Array Value := #[.int .i64 (x : Nat), .int .i64 (t.rt : Nat), .int .i64 (t.ct : Nat), .int .i64 (t.wk : Nat), .int .i64 (t.fn : Nat), .bool t.rn, .map (some t.mb), t.row]
def mpV (tb : Nat → Nat) (l : List (Nat × Nat)) : List (Value × Value) := l.map fun p => (pk (tb p.1), .int .i64 (p.2 : Nat))
def In (n x : Nat) : Prop := 1 ≤ x ∧ x ≤ n
structure TG (w : World) (B n : Nat) (tb : Nat → Nat) (f : Nat → Tc) : Prop where
  obj : ∀ x, In n x → w.heap[tb x]? = some (.cells (tcC x (f x)) 78 (0, 0))
  low : ∀ x, In n x → B ≤ tb x ∧ B ≤ (f x).mb
  inj : ∀ x y, In n x → In n y → tb x = tb y → x = y
  injm : ∀ x y, In n x → In n y → (f x).mb = (f y).mb → x = y
  map : ∀ x, In n x → MM w (f x).mb (mpV tb (f x).mp)
  row : ∀ x, In n x → OwnG shT 56 w B (f x).row ((f x).ord.map tb)
  apart : ∀ x y, In n x → In n y → x ≠ y → NoSh (f x).row (f y).row
  okm : ∀ x, In n x → ∀ p ∈ (f x).mp, In n p.1
  oko : ∀ x, In n x → ∀ j ∈ (f x).ord, In n j
/-- The blocks of the things. -/
def PT (n : Nat) (tb : Nat → Nat) (f : Nat → Tc) (b : Nat) : Prop := ∃ x, In n x ∧ (tb x = b ∨ (f x).mb = b ∨ (f x).row.ownBlock = some b)
/-- What turned, and what may turn from here. -/
structure Fr (P : Nat → Prop) (w : World) (P' : Nat → Prop) (w' : World) : Prop where
  kp : Kp P w w'
  nw : ∀ b, P' b → P b ∨ w.heap.size ≤ b
theorem Fr.refl (P : Nat → Prop) (w : World) : Fr P w P w := ⟨Kp.refl _ _, fun b h => .inl h⟩
theorem Fr.trans {P Q R : Nat → Prop} {a b c : World} (h : Fr P a Q b) (k : Fr Q b R c) : Fr P a R c :=
  ⟨h.kp.trans k.kp (fun x hx hq => by
    rcases h.nw x hq with h1 | h1
    · exact h1
    · omega), fun x hx => by
    rcases k.nw x hx with h1 | h1
    · exact h.nw x h1
    · exact .inr (Nat.le_trans h.kp.size h1)⟩
theorem Fr.mono {P P' Q Q' : Nat → Prop} {w w' : World} (h : Fr P w P' w') (h1 : ∀ b, P b → Q b) (h2 : ∀ b, Q' b → P' b ∨ Q b) : Fr Q w Q' w' :=
  ⟨h.kp.mono (fun b _ hp => h1 b hp), fun b hq => by
    rcases h2 b hq with h3 | h3
    · rcases h.nw b h3 with h4 | h4
      · exact .inl (h1 b h4)
      · exact .inr h4
    · exact .inl h3⟩
theorem Fr.below {P : Nat → Prop} {w w' : World} (h : Below w.heap.size w w') : Fr P w P w' := ⟨Kp.of_below h, fun b h => .inl h⟩
section
variable {w w' : World} {B n : Nat} {tb : Nat → Nat} {f : Nat → Tc}
theorem TG.lt (h : TG w B n tb f) {x : Nat} (hx : In n x) : tb x < w.heap.size ∧ (f x).mb < w.heap.size := by
  constructor
  · rcases Nat.lt_or_ge (tb x) w.heap.size with h1 | h1
    · exact h1
    · have := h.obj x hx; rw [Array.getElem?_eq_none h1] at this; cases this
  · exact (h.map x hx).lt
theorem TG.pt (h : TG w B n tb f) {b : Nat} (hb : PT n tb f b) : B ≤ b ∧ b < w.heap.size := by
  obtain ⟨x, hx, h1 | h1 | h1⟩ := hb
  · subst h1; exact ⟨(h.low x hx).1, (h.lt hx).1⟩
  · subst h1; exact ⟨(h.low x hx).2, (h.lt hx).2⟩
  · exact (h.row x hx).lt b h1
theorem TG.pl (h : TG w B n tb f) {x : Nat} (hx : In n x) : Pl w (tb x) := ⟨_, _, h.obj x hx⟩
theorem TG.tm (h : TG w B n tb f) {x y : Nat} (hx : In n x) (hy : In n y) : tb x ≠ (f y).mb := fun e => by
  have h1 := h.obj x hx
  obtain ⟨es, cl, h2, _⟩ := h.map y hy
  rw [e, h2] at h1
  cases h1
theorem TG.tr (h : TG w B n tb f) {x y : Nat} (hx : In n x) (hy : In n y) : (f y).row.ownBlock ≠ some (tb x) := fun e => by
  obtain ⟨cur, h1⟩ := (h.row y hy).objT e
  rw [h.obj x hx] at h1
  simp only [Option.some.injEq, Obj.cells.injEq] at h1
  exact absurd h1.2.1 (by decide)
theorem TG.mr (h : TG w B n tb f) {x y : Nat} (hx : In n x) (hy : In n y) : (f y).row.ownBlock ≠ some (f x).mb := fun e => by
  obtain ⟨cur, h1⟩ := (h.row y hy).objT e
  obtain ⟨es, cl, h2, _⟩ := h.map x hx
  rw [h2] at h1
  cases h1
theorem TG.same (h : TG w B n tb f) (hs : ∀ b, PT n tb f b → w'.heap[b]? = w.heap[b]?) : TG w' B n tb f :=
  ⟨fun x hx => (hs _ ⟨x, hx, .inl rfl⟩).trans (h.obj x hx), h.low, h.inj, h.injm, fun x hx => (h.map x hx).same (hs _ ⟨x, hx, .inr (.inl rfl)⟩), fun x hx => (h.row x hx).same (fun g e => hs g ⟨x, hx, .inr (.inr e)⟩), h.apart, h.okm, h.oko⟩
theorem TG.keep (h : TG w B n tb f) (hb : Below w.heap.size w w') : TG w' B n tb f := h.same (fun b hp => hb.block b (h.pt hp).2)
theorem TG.kp {P : Nat → Prop} (h : TG w B n tb f) (hk : Kp P w w') (hp : ∀ b, PT n tb f b → ¬ P b) : TG w' B n tb f := h.same (fun b hb => hk.block b (h.pt hb).2 (hp b hb))
theorem TG.congr {g : Nat → Tc} (h : TG w B n tb f) (he : ∀ x, In n x → f x = g x) : TG w B n tb g :=
  ⟨fun x hx => by rw [← he x hx]; exact h.obj x hx, fun x hx => by rw [← he x hx]; exact h.low x hx, h.inj, fun x y hx hy e => h.injm x y hx hy (by rw [he x hx, he y hy]; exact e), fun x hx => by rw [← he x hx]; exact h.map x hx, fun x hx => by rw [← he x hx]; exact h.row x hx, fun x y hx hy e => by rw [← he x hx, ← he y hy]; exact h.apart x y hx hy e, fun x hx => by rw [← he x hx]; exact h.okm x hx, fun x hx => by rw [← he x hx]; exact h.oko x hx⟩
/-- One plain cell of one thing. -/
theorem TG.cell1 (h : TG w B n tb f) {x : Nat} (hx : In n x) (o : Nat) (v : Value) (t : Tc) (hc : (tcC x (f x)).setIfInBounds o v = tcC x t) (hm : t.mb = (f x).mb) (hr : t.row = (f x).row) (ho : t.ord = (f x).ord) (hp : t.mp = (f x).mp) :
    TG (w.setCell ⟨tb x, o, none⟩ v) B n tb (upd f x t) ∧ Fr (PT n tb f) w (PT n tb (upd f x t)) (w.setCell ⟨tb x, o, none⟩ v) := by
  have hoth : ∀ b, b ≠ tb x → (w.setCell ⟨tb x, o, none⟩ v).heap[b]? = w.heap[b]? := fun b hb => Below.heap_setCell _ _ _ _ hb
  have hf : ∀ y, (upd f x t y).mb = (f y).mb ∧ (upd f x t y).row = (f y).row ∧ (upd f x t y).ord = (f y).ord ∧ (upd f x t y).mp = (f y).mp := fun y => by
    by_cases e : y = x
    · subst e; rw [upd_same]; exact ⟨hm, hr, ho, hp⟩
    · rw [upd_ne _ _ e]; exact ⟨rfl, rfl, rfl, rfl⟩
  have hg := gb_set w (tb x) o v
  refine ⟨⟨fun y hy => ?_, fun y hy => by rw [(hf y).1]; exact h.low y hy, h.inj, fun y z hy hz e => h.injm y z hy hz (by rw [← (hf y).1, ← (hf z).1]; exact e), fun y hy => ?_, fun y hy => ?_, fun y z hy hz e => by rw [(hf y).2.1, (hf z).2.1]; exact h.apart y z hy hz e, fun y hy => by rw [(hf y).2.2.2]; exact h.okm y hy, fun y hy => by rw [(hf y).2.2.1]; exact h.oko y hy⟩, ⟨Kp.of_grown hg (fun b e => ⟨x, hx, .inl (Option.some.inj e)⟩), fun b hb => .inl ?_⟩⟩
  · by_cases e : y = x
    · subst e
      rw [upd_same, heap_setCell_same w (tb y) o _ _ _ (h.obj y hy), hc]
    · rw [upd_ne _ _ e, hoth _ (fun e2 => e (h.inj y x hy hx e2))]
      exact h.obj y hy
  · rw [(hf y).1, (hf y).2.2.2]
    exact (h.map y hy).same (hoth _ (fun e => h.tm hx hy e.symm))
  · rw [(hf y).2.1, (hf y).2.2.1]
    exact (h.row y hy).same (fun g e => hoth g (fun e2 => h.tr hx hy (by rw [e, e2])))
  · obtain ⟨y, hy, h1⟩ := hb
    rw [(hf y).1, (hf y).2.1] at h1
    exact ⟨y, hy, h1⟩
/-- The map of one thing. -/
theorem TG.mapped (h : TG w B n tb f) {x : Nat} (hx : In n x) (mp' : List (Nat × Nat)) (hP : MM w' (f x).mb (mpV tb mp')) (hok : ∀ p ∈ mp', In n p.1) (hg : w.grownBy w' (some (f x).mb)) :
    TG w' B n tb (upd f x { f x with mp := mp' }) ∧ Fr (PT n tb f) w (PT n tb (upd f x { f x with mp := mp' })) w' := by
  have hf : ∀ y, (upd f x { f x with mp := mp' } y).mb = (f y).mb ∧ (upd f x { f x with mp := mp' } y).row = (f y).row ∧ (upd f x { f x with mp := mp' } y).ord = (f y).ord ∧ tcC y (upd f x { f x with mp := mp' } y) = tcC y (f y) := fun y => by
    by_cases e : y = x
    · subst e; rw [upd_same]; exact ⟨rfl, rfl, rfl, rfl⟩
    · rw [upd_ne _ _ e]; exact ⟨rfl, rfl, rfl, rfl⟩
  refine ⟨⟨fun y hy => ?_, fun y hy => by rw [(hf y).1]; exact h.low y hy, h.inj, fun y z hy hz e => h.injm y z hy hz (by rw [← (hf y).1, ← (hf z).1]; exact e), fun y hy => ?_, fun y hy => ?_, fun y z hy hz e => by rw [(hf y).2.1, (hf z).2.1]; exact h.apart y z hy hz e, fun y hy => ?_, fun y hy => by rw [(hf y).2.2.1]; exact h.oko y hy⟩, ⟨Kp.of_grown hg (fun b e => ⟨x, hx, .inr (.inl (Option.some.inj e))⟩), fun b hb => .inl ?_⟩⟩
  · rw [(hf y).2.2.2, hg.block _ (h.lt hy).1 (fun e => h.tm hy hx (Option.some.inj e))]
    exact h.obj y hy
  · by_cases e : y = x
    · subst e; rw [upd_same]; exact hP
    · rw [upd_ne _ _ e]
      exact (h.map y hy).same (hg.block _ (h.lt hy).2 (fun e2 => e (h.injm y x hy hx (Option.some.inj e2))))
  · rw [(hf y).2.1, (hf y).2.2.1]
    exact (h.row y hy).same (fun g e => hg.block g ((h.row y hy).lt g e).2 (fun e2 => h.mr hx hy (by rw [e, e2])))
  · by_cases e : y = x
    · subst e; rw [upd_same]; exact hok
    · rw [upd_ne _ _ e]; exact h.okm y hy
  · obtain ⟨y, hy, h1⟩ := hb
    rw [(hf y).1, (hf y).2.1] at h1
    exact ⟨y, hy, h1⟩
/-- The row of one thing. -/
theorem TG.rowed (h : TG w B n tb f) {x : Nat} (hx : In n x) (row' : Value) (ord' : List Nat) (hO : OwnG shT 56 w' B row' (ord'.map tb)) (hok : ∀ j ∈ ord', In n j) (hg : w.grownBy w' (f x).row.ownBlock) (hl : ∀ b, row'.ownBlock = some b → (f x).row.ownBlock = some b ∨ w.heap.size ≤ b) :
    TG (w'.setCell ⟨tb x, 7, none⟩ row') B n tb (upd f x { f x with row := row', ord := ord' }) ∧ Fr (PT n tb f) w (PT n tb (upd f x { f x with row := row', ord := ord' })) (w'.setCell ⟨tb x, 7, none⟩ row') := by
  have hf : ∀ y, (upd f x { f x with row := row', ord := ord' } y).mb = (f y).mb ∧ (upd f x { f x with row := row', ord := ord' } y).mp = (f y).mp := fun y => by
    by_cases e : y = x
    · subst e; rw [upd_same]; exact ⟨rfl, rfl⟩
    · rw [upd_ne _ _ e]; exact ⟨rfl, rfl⟩
  have hoth : ∀ b, b ≠ tb x → (w'.setCell ⟨tb x, 7, none⟩ row').heap[b]? = w'.heap[b]? := fun b hb => Below.heap_setCell _ _ _ _ hb
  have hb1 : ∀ y, In n y → w'.heap[tb y]? = w.heap[tb y]? := fun y hy => hg.block _ (h.lt hy).1 (fun e => h.tr hy hx e.symm)
  have hb2 : ∀ y, In n y → w'.heap[(f y).mb]? = w.heap[(f y).mb]? := fun y hy => hg.block _ (h.lt hy).2 (fun e => h.mr hy hx e.symm)
  have gs := gb_set w' (tb x) 7 row'
  have hnx : row'.ownBlock ≠ some (tb x) := fun e => by
    rcases hl _ e with h1 | h1
    · exact h.tr hx hx h1
    · have := (h.lt hx).1; omega
  have key : ∀ y, In n y → y ≠ x → NoSh (f y).row row' := by
    intro y hy hne
    rcases h.apart y x hy hx hne with h1 | h1
    · exact .inl h1
    · cases e : (f y).row.ownBlock with
      | none => exact .inl e
      | some g =>
        right
        rw [e]
        intro e2
        rcases hl g e2.symm with h2 | h2
        · exact h1 (by rw [e, h2])
        · have := ((h.row y hy).lt g e).2; omega
  refine ⟨⟨fun y hy => ?_, fun y hy => by rw [(hf y).1]; exact h.low y hy, h.inj, fun y z hy hz e => h.injm y z hy hz (by rw [← (hf y).1, ← (hf z).1]; exact e), fun y hy => ?_, fun y hy => ?_, fun y z hy hz e => ?_, fun y hy => by rw [(hf y).2]; exact h.okm y hy, fun y hy => ?_⟩, ⟨?_, fun b hb => ?_⟩⟩
  · by_cases e : y = x
    · subst e
      rw [upd_same, heap_setCell_same w' (tb y) 7 _ _ _ ((hb1 y hy).trans (h.obj y hy))]
      rfl
    · rw [upd_ne _ _ e, hoth _ (fun e2 => e (h.inj y x hy hx e2)), hb1 y hy]
      exact h.obj y hy
  · rw [(hf y).1, (hf y).2]
    exact (h.map y hy).same ((hoth _ (fun e => h.tm hx hy e.symm)).trans (hb2 y hy))
  · by_cases e : y = x
    · subst e
      rw [upd_same]
      exact hO.but gs (.inr hnx)
    · rw [upd_ne _ _ e]
      exact ((h.row y hy).but hg (h.apart y x hy hx e)).but gs (.inr (h.tr hx hy))
  · by_cases e1 : y = x
    · subst e1
      rw [upd_same, upd_ne _ _ (fun e2 => e e2.symm)]
      rcases key z hz (fun e2 => e e2.symm) with h1 | h1
      · cases e3 : row'.ownBlock with
        | none => exact .inl e3
        | some g => right; rw [e3]; intro e4; rw [h1] at e4; cases e4
      · right; exact fun e => h1 e.symm
    · rw [upd_ne _ _ e1]
      by_cases e2 : z = x
      · subst e2; rw [upd_same]; exact key y hy e1
      · rw [upd_ne _ _ e2]; exact h.apart y z hy hz e
  · by_cases e : y = x
    · subst e; rw [upd_same]; exact hok
    · rw [upd_ne _ _ e]; exact h.oko y hy
  · refine ⟨gs.os.trans hg.os, gs.tape.trans hg.tape, gs.output.trans hg.output, Nat.le_trans hg.size gs.size, fun b hb hp => ?_⟩
    rw [hoth b (fun e => hp ⟨x, hx, .inl e.symm⟩)]
    exact hg.block b hb (fun e => hp ⟨x, hx, .inr (.inr e.symm)⟩)
  · obtain ⟨y, hy, h1⟩ := hb
    rw [(hf y).1] at h1
    rcases h1 with h1 | h1 | h1
    · exact .inl ⟨y, hy, .inl h1⟩
    · exact .inl ⟨y, hy, .inr (.inl h1)⟩
    · by_cases e : y = x
      · subst e
        rw [upd_same] at h1
        rcases hl b h1 with h2 | h2
        · exact .inl ⟨y, hy, .inr (.inr h2)⟩
        · exact .inr h2
      · rw [upd_ne _ _ e] at h1
        exact .inl ⟨y, hy, .inr (.inr h1)⟩
end
/-- The heap: the things, those alive, what was told. -/
structure TH (w : World) (B hb am n : Nat) (ew : Value) (tb : Nat → Nat) (f : Nat → Tc) (AL : List Nat) (ev : List (Nat × Nat)) : Prop where
  tg : TG w B n tb f
  box : w.heap[hb]? = some (.cells #[.map (some am), .int .i64 (n : Nat), ew] 69 (0, 0))
  low : B ≤ hb ∧ B ≤ am
  alive : MM w am (AL.map fun x => (.int .i64 (x : Nat), pk (tb x)))
  evs : OwnG shGe 49 w B ew (evL ev)
  alok : ∀ x ∈ AL, In n x
  nd : AL.Nodup
  ma : ∀ x, In n x → (f x).mb ≠ am
def PH (hb am n : Nat) (ew : Value) (tb : Nat → Nat) (f : Nat → Tc) (b : Nat) : Prop := b = hb ∨ b = am ∨ ew.ownBlock = some b ∨ PT n tb f b
section
variable {w w' : World} {B hb am n : Nat} {ew : Value} {tb : Nat → Nat} {f : Nat → Tc} {AL : List Nat} {ev : List (Nat × Nat)}
theorem TH.lt (h : TH w B hb am n ew tb f AL ev) : hb < w.heap.size := by
  have hc := h.box
  rcases Nat.lt_or_ge hb w.heap.size with h1 | h1
  · exact h1
  · rw [Array.getElem?_eq_none h1] at hc; cases hc
theorem TH.ph (h : TH w B hb am n ew tb f AL ev) {b : Nat} (hp : PH hb am n ew tb f b) : B ≤ b ∧ b < w.heap.size := by
  rcases hp with rfl | rfl | h1 | h1
  · exact ⟨h.low.1, h.lt⟩
  · exact ⟨h.low.2, h.alive.lt⟩
  · exact h.evs.lt b h1
  · exact h.tg.pt h1
/-- Which blocks are unlike. -/
theorem TH.pt_hb (h : TH w B hb am n ew tb f AL ev) : ¬ PT n tb f hb := by
  rintro ⟨x, hx, h1 | h1 | h1⟩
  · have h2 := h.tg.obj x hx
    rw [h1, h.box] at h2
    simp only [Option.some.injEq, Obj.cells.injEq] at h2
    exact absurd h2.2.1 (by decide)
  · obtain ⟨es, cl, h2, _⟩ := h.tg.map x hx
    rw [h1, h.box] at h2; cases h2
  · obtain ⟨cur, h2⟩ := (h.tg.row x hx).objT h1
    rw [h.box] at h2
    simp only [Option.some.injEq, Obj.cells.injEq] at h2
    exact absurd h2.2.1 (by decide)
theorem TH.pt_am (h : TH w B hb am n ew tb f AL ev) : ¬ PT n tb f am := by
  obtain ⟨es, cl, ha, _⟩ := h.alive
  rintro ⟨x, hx, h1 | h1 | h1⟩
  · have h2 := h.tg.obj x hx
    rw [h1, ha] at h2; cases h2
  · exact h.ma x hx h1
  · obtain ⟨cur, h2⟩ := (h.tg.row x hx).objT h1
    rw [ha] at h2; cases h2
theorem TH.pt_ev (h : TH w B hb am n ew tb f AL ev) {g : Nat} (hg : ew.ownBlock = some g) : ¬ PT n tb f g := by
  obtain ⟨cur, ha⟩ := h.evs.objT hg
  rintro ⟨x, hx, h1 | h1 | h1⟩
  · have h2 := h.tg.obj x hx
    rw [h1, ha] at h2
    simp only [Option.some.injEq, Obj.cells.injEq] at h2
    exact absurd h2.2.1 (by decide)
  · obtain ⟨es, cl, h2, _⟩ := h.tg.map x hx
    rw [h1, ha] at h2; cases h2
  · obtain ⟨cur, h2⟩ := (h.tg.row x hx).objT h1
    rw [ha] at h2
    simp only [Option.some.injEq, Obj.cells.injEq] at h2
    exact absurd h2.2.1 (by decide)
theorem TH.hb_am (h : TH w B hb am n ew tb f AL ev) : hb ≠ am := fun e => by
  obtain ⟨es, cl, ha, _⟩ := h.alive
  rw [← e, h.box] at ha; cases ha
theorem TH.ev_hb (h : TH w B hb am n ew tb f AL ev) : ew.ownBlock ≠ some hb := fun e => by
  obtain ⟨cur, ha⟩ := h.evs.objT e
  rw [h.box] at ha
  simp only [Option.some.injEq, Obj.cells.injEq] at ha
  exact absurd ha.2.1 (by decide)
theorem TH.ev_am (h : TH w B hb am n ew tb f AL ev) : ew.ownBlock ≠ some am := fun e => by
  obtain ⟨es, cl, ha, _⟩ := h.alive
  obtain ⟨cur, h2⟩ := h.evs.objT e
  rw [ha] at h2; cases h2
theorem TH.same (h : TH w B hb am n ew tb f AL ev) (hs : ∀ b, PH hb am n ew tb f b → w'.heap[b]? = w.heap[b]?) : TH w' B hb am n ew tb f AL ev :=
  ⟨h.tg.same (fun b hp => hs b (.inr (.inr (.inr hp)))), (hs hb (.inl rfl)).trans h.box, h.low, h.alive.same (hs am (.inr (.inl rfl))), h.evs.same (fun g e => hs g (.inr (.inr (.inl e)))), h.alok, h.nd, h.ma⟩
theorem TH.keep (h : TH w B hb am n ew tb f AL ev) (hk : Below w.heap.size w w') : TH w' B hb am n ew tb f AL ev := h.same (fun b hp => hk.block b (h.ph hp).2)
theorem TH.boxc (h : TH w B hb am n ew tb f AL ev) : w.cell? ⟨hb, 0, none⟩ = some (.map (some am)) ∧ w.cell? ⟨hb, 1, none⟩ = some (.int .i64 (n : Nat)) ∧ w.cell? ⟨hb, 2, none⟩ = some ew ∧ ∀ o, w.frozen? ⟨hb, o, none⟩ = false :=
  ⟨cell_obj h.box rfl, cell_obj h.box rfl, cell_obj h.box rfl, fun o => frozen_obj h.box⟩
/-- The things turn, the rest stays. -/
theorem TH.things (h : TH w B hb am n ew tb f AL ev) {g : Nat → Tc} (hT : TG w' B n tb g) (hF : Fr (PT n tb f) w (PT n tb g) w') (hm : ∀ x, (g x).mb = (f x).mb) :
    TH w' B hb am n ew tb g AL ev ∧ Fr (PH hb am n ew tb f) w (PH hb am n ew tb g) w' := by
  refine ⟨⟨hT, (hF.kp.block hb h.lt h.pt_hb).trans h.box, h.low, h.alive.same (hF.kp.block am h.alive.lt h.pt_am), h.evs.same (fun q e => hF.kp.block q (h.evs.lt q e).2 (h.pt_ev e)), h.alok, h.nd, fun x hx => by rw [hm]; exact h.ma x hx⟩, hF.mono (fun b hp => .inr (.inr (.inr hp))) (fun b hq => ?_)⟩
  rcases hq with h1 | h1 | h1 | h1
  · exact .inr (.inl h1)
  · exact .inr (.inr (.inl h1))
  · exact .inr (.inr (.inr (.inl h1)))
  · exact .inl h1
/-- The events, told on. -/
theorem TH.told (h : TH w B hb am n ew tb f AL ev) {w1 : World} {ew' : Value} (evs : List (Nat × Nat)) (hg : w.grownBy w1 ew.ownBlock) (he : OwnG shGe 49 w1 B ew' (evL evs)) (hl : ∀ b, ew'.ownBlock = some b → ew.ownBlock = some b ∨ w.heap.size ≤ b) :
    TH (w1.setCell ⟨hb, 2, none⟩ ew') B hb am n ew' tb f AL evs ∧ Fr (PH hb am n ew tb f) w (PH hb am n ew' tb f) (w1.setCell ⟨hb, 2, none⟩ ew') := by
  have hc1 := (hg.block hb h.lt (fun e => h.ev_hb e.symm)).trans h.box
  have hg2 := gb_set w1 hb 2 ew'
  have hoth : ∀ b, b ≠ hb → (w1.setCell ⟨hb, 2, none⟩ ew').heap[b]? = w1.heap[b]? := fun b hb => Below.heap_setCell _ _ _ _ hb
  refine ⟨⟨h.tg.same (fun b hp => ?_), ?_, h.low, h.alive.same ?_, he.but hg2 (.inr (fun e => ?_)), h.alok, h.nd, h.ma⟩, ⟨⟨hg2.os.trans hg.os, hg2.tape.trans hg.tape, hg2.output.trans hg.output, Nat.le_trans hg.size hg2.size, fun b hb hp => ?_⟩, fun b hp => ?_⟩⟩
  · rw [hoth b (fun e => h.pt_hb (e ▸ hp))]
    exact hg.block b (h.tg.pt hp).2 (fun e => h.pt_ev e.symm hp)
  · rw [heap_setCell_same w1 hb 2 _ _ _ hc1]; rfl
  · rw [hoth am (fun e => h.hb_am e.symm)]
    exact hg.block am h.alive.lt (fun e => h.ev_am e.symm)
  · rcases hl _ e with h1 | h1
    · exact h.ev_hb h1
    · have := h.lt; omega
  · rw [hoth b (fun e => hp (.inl e))]
    exact hg.block b hb (fun e => hp (.inr (.inr (.inl e.symm))))
  · rcases hp with h1 | h1 | h1 | h1
    · exact .inl (.inl h1)
    · exact .inl (.inr (.inl h1))
    · rcases hl b h1 with h2 | h2
      · exact .inl (.inr (.inr (.inl h2)))
      · exact .inr h2
    · exact .inl (.inr (.inr (.inr h1)))
/-- The map of those alive. -/
theorem TH.lives (h : TH w B hb am n ew tb f AL ev) (AL' : List Nat) (hM : MM w' am (AL'.map fun x => (.int .i64 (x : Nat), pk (tb x)))) (hg : w.grownBy w' (some am)) (h1 : ∀ x ∈ AL', In n x) (h2 : AL'.Nodup) :
    TH w' B hb am n ew tb f AL' ev ∧ Fr (PH hb am n ew tb f) w (PH hb am n ew tb f) w' := by
  have hoth : ∀ b, b < w.heap.size → b ≠ am → w'.heap[b]? = w.heap[b]? := fun b hl hb => hg.block b hl (fun e => hb (Option.some.inj e))
  exact ⟨⟨h.tg.same (fun b hp => hoth b (h.tg.pt hp).2 (fun e => h.pt_am (e ▸ hp))), (hoth hb h.lt h.hb_am).trans h.box, h.low, hM, h.evs.same (fun g e => hoth g (h.evs.lt g e).2 (fun e2 => h.ev_am (by rw [e, e2]))), h1, h2, h.ma⟩, ⟨Kp.of_grown hg (fun b e => .inr (.inl (Option.some.inj e).symm)), fun b hp => .inl hp⟩⟩
end
end Go.Proofs.Ytjnalkeopehlbaa
