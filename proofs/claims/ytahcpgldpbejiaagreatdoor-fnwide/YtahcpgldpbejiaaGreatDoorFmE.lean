import Derived.Test.YtahcpgldpbejiaaGreatDoorFmD
import Derived.Test.YtahcpgldpbejiaaGreatDoorMfc
import Derived.Deep.Cut
namespace Go.Proofs.YtahcpgldpbejiaaGreatDoor
open Go.RowKit Go.Lib Go.Shelf
set_option linter.unusedVariables false
set_option linter.unusedSimpArgs false

/-- A spec's parts as the program keeps them: eight texts. -/
structure Pt where
  f : ByteArray
  a : ByteArray
  s : ByteArray
  z : ByteArray
  w : ByteArray
  c : ByteArray
  p : ByteArray
  k : ByteArray
def ptC (q : Pt) : List Value := [.string q.f, .string q.a, .string q.s, .string q.z, .string q.w, .string q.c, .string q.p, .string q.k]
def ptV (q : Pt) : Value := .agg (ptC q).toArray
def pt0 : Pt := ⟨⟨#[]⟩, ⟨#[]⟩, ⟨#[]⟩, ⟨#[]⟩, ⟨#[]⟩, ⟨#[]⟩, ⟨#[]⟩, ⟨#[]⟩⟩
def prT (c : List Nat) : Pt := ⟨tx (alF c), tx (alL c), tx (cutL isSg (r1 c)), tx (cutL (· == 48) (r2 c)), tx (cutD 4 (r3 c)).1, tx (cutL (· == 44) (r4 c)), tx (afDot (r5 c)).2.1, tx (afDot (r5 c)).2.2⟩
/-- What readSpec answers. -/
def RpA (sp : ByteArray) (aA : Addr) (q : Pt) (er : Value) : Prop := match textOf sp with
  | some c => if badR (rdR c) then ∃ t, er = .iface 87 (.agg #[.string t, errAt aA]) else er = .nilIface ∧ q = prT c
  | none => ∃ t, er = .iface 87 (.agg #[.string t, errAt aA])
def RpP (sp : ByteArray) (aA : Addr) (w : World) (e : Ending) (w' : World) : Prop := ∃ q er, e = .returned (.tuple #[ptV q, er]) ∧ RpA sp aA q er ∧ Below w.heap.size w w'
theorem RpP.mk {sp : ByteArray} {aA : Addr} {w : World} {e : Ending} {w' : World} (h : ∃ q er, e = .returned (.tuple #[ptV q, er]) ∧ RpA sp aA q er ∧ Below w.heap.size w w') : RpP sp aA w e w' := h
theorem pre0 (l : List Nat) (hs : ∀ r ∈ l, Scalar r) (k : Nat) (hk : k < 128) : Lib.hasPrefix (encs l) [k.toUInt8] = (l.head? == some k) := by
  unfold Lib.hasPrefix
  cases l with
  | nil => rfl
  | cons x t =>
    rw [Bool.eq_iff_iff, List.isPrefixOf_iff_prefix]
    simp only [List.head?_cons, beq_iff_eq, Option.some.injEq]
    by_cases hx : x < 128
    · rw [encs_cons, enc1 x hx, List.singleton_append, List.cons_prefix_cons]
      constructor
      · rintro ⟨h, _⟩
        have := congrArg UInt8.toNat h
        rw [byte_nat (by omega), byte_nat (by omega)] at this
        exact this.symm
      · rintro rfl; exact ⟨rfl, List.nil_prefix⟩
    · obtain ⟨b, tl, e, hb⟩ := enc_hi x (hs x (by simp)) hx
      rw [encs_cons, e, List.cons_append, List.cons_prefix_cons]
      constructor
      · rintro ⟨h, _⟩
        have := congrArg UInt8.toNat h
        rw [byte_nat (by omega)] at this
        omega
      · intro h; omega
theorem r1_sc {c : List Nat} (hs : ∀ r ∈ c, Scalar r) : ∀ r ∈ r1 c, Scalar r := by
  intro r hr
  apply hs
  unfold r1 at hr
  rcases sh2 c with rfl | ⟨x, rfl⟩ | ⟨x, y, t, rfl⟩
  · simp [cutAl] at hr
  · by_cases h : isAl x = true <;> simp [cutAl, h] at hr ⊢
    exact hr
  · by_cases h : isAl y = true
    · simp [cutAl, h] at hr
      simp [hr]
    · by_cases h2 : isAl x = true
      · simp [cutAl, h, h2] at hr
        rcases hr with rfl | hr <;> simp [*]
      · simp [cutAl, h, h2] at hr
        rcases hr with rfl | rfl | hr <;> simp [*]
theorem cutO_sc {p : Nat → Bool} {l : List Nat} (hs : ∀ r ∈ l, Scalar r) : ∀ r ∈ (cutO p l).2, Scalar r := by
  intro r hr
  apply hs
  cases l with
  | nil => simp [cutO] at hr
  | cons x t =>
    by_cases h : p x = true
    · simp [cutO, h] at hr; simp [hr]
    · simp [cutO, h] at hr; simpa using hr
theorem cutD_sc {m : Nat} {l : List Nat} (hs : ∀ r ∈ l, Scalar r) : ∀ r ∈ (cutD m l).2, Scalar r := by
  intro r hr
  apply hs
  rw [← cutD_app m l]
  exact List.mem_append_right _ hr
theorem cutO_enc (p : Nat → Bool) (l : List Nat) : (encs (cutO p l).2).length ≤ (encs l).length := by
  cases l with
  | nil => simp [cutO]
  | cons x t =>
    by_cases h : p x = true
    · simp only [cutO, h, if_true]; rw [encs_cons, List.length_append]; omega
    · simp [cutO, h]
theorem r1_enc (c : List Nat) : (encs (r1 c)).length ≤ (encs c).length := by
  rcases sh2 c with rfl | ⟨x, rfl⟩ | ⟨x, y, t, rfl⟩
  · simp [r1, cutAl]
  · by_cases h : isAl x = true
    · simp [r1, cutAl, h, encs_nil]
    · simp [r1, cutAl, h]
  · by_cases h : isAl y = true
    · simp only [r1, cutAl, h, if_true]; rw [encs_cons, encs_cons, List.length_append, List.length_append]; omega
    · by_cases h2 : isAl x = true
      · simp only [r1, cutAl, h, h2, if_true, if_false]; simp only [Bool.false_eq_true, if_false]; rw [encs_cons x, List.length_append]; omega
      · simp [r1, cutAl, h, h2]
theorem cutD_enc (m : Nat) (l : List Nat) : (encs (cutD m l).2).length ≤ (encs l).length := by
  have := congrArg (fun x => (encs x).length) (cutD_app m l)
  simp only [encs_append, List.length_append] at this
  omega
theorem set8 {w w' : World} (h : Below w.heap.size w w') (u0 u1 u2 u3 u4 u5 u6 u7 : Value) : Below w.heap.size w ((((((((w'.setCell ⟨w.heap.size, 0, none⟩ u0).setCell ⟨w.heap.size, 1, none⟩ u1).setCell ⟨w.heap.size, 2, none⟩ u2).setCell ⟨w.heap.size, 3, none⟩ u3).setCell ⟨w.heap.size, 4, none⟩ u4).setCell ⟨w.heap.size, 5, none⟩ u5).setCell ⟨w.heap.size, 6, none⟩ u6).setCell ⟨w.heap.size, 7, none⟩ u7) := ((((((((h.setCell (show w.heap.size ≤ (⟨w.heap.size, 0, none⟩ : Addr).block from Nat.le_refl _) u0).setCell (show w.heap.size ≤ (⟨w.heap.size, 1, none⟩ : Addr).block from Nat.le_refl _) u1).setCell (show w.heap.size ≤ (⟨w.heap.size, 2, none⟩ : Addr).block from Nat.le_refl _) u2).setCell (show w.heap.size ≤ (⟨w.heap.size, 3, none⟩ : Addr).block from Nat.le_refl _) u3).setCell (show w.heap.size ≤ (⟨w.heap.size, 4, none⟩ : Addr).block from Nat.le_refl _) u4).setCell (show w.heap.size ≤ (⟨w.heap.size, 5, none⟩ : Addr).block from Nat.le_refl _) u5).setCell (show w.heap.size ≤ (⟨w.heap.size, 6, none⟩ : Addr).block from Nat.le_refl _) u6).setCell (show w.heap.size ≤ (⟨w.heap.size, 7, none⟩ : Addr).block from Nat.le_refl _) u7)

set_option maxHeartbeats 1500000 in
set_option maxRecDepth 100000 in
theorem readSpec_none (sp : ByteArray) (w : World) (hsp : sp.size ≤ 16777216) (hA : textOf sp = none) (hT : Tabs w) (aA aZ aL : Addr) (hE : Errs w aA aZ aL) :
    Calls Tryz.prog 50 #[.string sp] w fun e w' => RpP sp aA w e w' := by
  have hK := fun W h => textOk_any sp W (by omega) h
  rw [hA, show (none : Option (List Nat)).isSome = false from rfl] at hK
  have hX0 := Bx.new w (ptC pt0) 83
  have hB0 : Below w.heap.size w (w.alloc (.cells (ptC pt0).toArray 83)) := (Below.refl _ w).alloc (Nat.le_refl _) _
  have hT0 := hT.below hB0
  have hE0 := hE.below hB0
  have HA : Hid (∀ t, RpA sp aA pt0 (.iface 87 (.agg #[.string t, errAt aA]))) := fun t => by unfold RpA; rw [hA]; exact ⟨t, rfl⟩
  unfold ptC pt0 at hX0 hB0 hT0 hE0
  clear hA hT
  go_enter Tryz.func50, Tryz.ntmps50
  go_wp2_with fail
  generalize w.alloc _ = W0 at *
  refine (hK W0 hT0).mono ?_
  rintro e W ⟨rfl, hB1⟩
  have hX : Bx W w.heap.size (ptC pt0) := hX0.keep hB1
  have hB := hB0.trans (hB1.mono hB0.size)
  have hE1 := hE0.below hB1
  have hg := hE1.1.1
  have hg0 := cell_lt hE.1.1
  have hg2 : (W.setCell ⟨w.heap.size, 0, none⟩ (.string ⟨#[]⟩)).cell? ⟨0, 0, none⟩ = some (errAt aA) := by
    rw [World.cell?_setCell_other _ _ _ _ (by intro h; injection h with h1 _; omega)]; exact hg
  have x0 : W.cell? ⟨w.heap.size, 0, none⟩ = some (.string ⟨#[]⟩) := hX.cell 0 (by simp [ptC])
  have f0 := hX.fr 0
  have x1 : W.cell? ⟨w.heap.size, 1, none⟩ = some (.string ⟨#[]⟩) := hX.cell 1 (by simp [ptC])
  have f1 := hX.fr 1
  have x2 : W.cell? ⟨w.heap.size, 2, none⟩ = some (.string ⟨#[]⟩) := hX.cell 2 (by simp [ptC])
  have f2 := hX.fr 2
  have x3 : W.cell? ⟨w.heap.size, 3, none⟩ = some (.string ⟨#[]⟩) := hX.cell 3 (by simp [ptC])
  have f3 := hX.fr 3
  have x4 : W.cell? ⟨w.heap.size, 4, none⟩ = some (.string ⟨#[]⟩) := hX.cell 4 (by simp [ptC])
  have f4 := hX.fr 4
  have x5 : W.cell? ⟨w.heap.size, 5, none⟩ = some (.string ⟨#[]⟩) := hX.cell 5 (by simp [ptC])
  have f5 := hX.fr 5
  have x6 : W.cell? ⟨w.heap.size, 6, none⟩ = some (.string ⟨#[]⟩) := hX.cell 6 (by simp [ptC])
  have f6 := hX.fr 6
  have x7 : W.cell? ⟨w.heap.size, 7, none⟩ = some (.string ⟨#[]⟩) := hX.cell 7 (by simp [ptC])
  have f7 := hX.fr 7
  have hXl := hX.lt
  clear hX0 hB0 hT0 hE0 hE1 hK hX hB1 hE hg0
  go_upto_region 2 with fail
  go_region
  all_goals
    go_wp2
    exact bodyPost_ret (v := .tuple #[ptV pt0, .iface 87 (.agg #[.string ⟨#[97, 32, 115, 112, 101, 99]⟩, errAt aA])]) (by simp [ptV, ptC, pt0, results, Tryz.results50, go_sem, x0, f0, x1, f1, x2, f2, x3, f3, x4, f4, x5, f5, x6, f6, x7, f7, hXl]) rfl (RpP.mk ⟨pt0, _, rfl, HA.out _, (set8 hB _ _ _ _ _ _ _ _).drew⟩)
/-- The memory while a spec's parts are kept. -/
structure Rp (w W : World) (PB : Nat) (q : Pt) : Prop where
  x : Bx W w.heap.size (ptC pt0)
  p : Bx W PB (ptC q)
  b : Below w.heap.size w W
  lt : w.heap.size < PB
theorem Rp.keep {w W W' : World} {PB : Nat} {q : Pt} (h : Rp w W PB q) (hb : Below W.heap.size W W') : Rp w W' PB q := ⟨h.x.keep hb, h.p.keep hb, h.b.trans (hb.mono h.b.size), h.lt⟩
theorem Rp.put0 {w W : World} {PB : Nat} {q : Pt} (h : Rp w W PB q) (v : ByteArray) : Rp w (W.setCell ⟨PB, 0, none⟩ (.string v)) PB { q with f := v } :=
  ⟨h.x.far (by have := h.lt; omega) _, h.p.set 0 (by simp [ptC]) _, h.b.setCell (p := ⟨PB, 0, none⟩) (by have := h.lt; show w.heap.size ≤ PB; omega) _, h.lt⟩
theorem Rp.c0 {w W : World} {PB : Nat} {q : Pt} (h : Rp w W PB q) : W.cell? ⟨PB, 0, none⟩ = some (.string q.f) := h.p.cell 0 (by simp [ptC])
theorem Rp.x0 {w W : World} {PB : Nat} {q : Pt} (h : Rp w W PB q) : W.cell? ⟨w.heap.size, 0, none⟩ = some (.string ⟨#[]⟩) := h.x.cell 0 (by simp [ptC])
theorem Rp.put1 {w W : World} {PB : Nat} {q : Pt} (h : Rp w W PB q) (v : ByteArray) : Rp w (W.setCell ⟨PB, 1, none⟩ (.string v)) PB { q with a := v } :=
  ⟨h.x.far (by have := h.lt; omega) _, h.p.set 1 (by simp [ptC]) _, h.b.setCell (p := ⟨PB, 1, none⟩) (by have := h.lt; show w.heap.size ≤ PB; omega) _, h.lt⟩
theorem Rp.c1 {w W : World} {PB : Nat} {q : Pt} (h : Rp w W PB q) : W.cell? ⟨PB, 1, none⟩ = some (.string q.a) := h.p.cell 1 (by simp [ptC])
theorem Rp.x1 {w W : World} {PB : Nat} {q : Pt} (h : Rp w W PB q) : W.cell? ⟨w.heap.size, 1, none⟩ = some (.string ⟨#[]⟩) := h.x.cell 1 (by simp [ptC])
theorem Rp.put2 {w W : World} {PB : Nat} {q : Pt} (h : Rp w W PB q) (v : ByteArray) : Rp w (W.setCell ⟨PB, 2, none⟩ (.string v)) PB { q with s := v } :=
  ⟨h.x.far (by have := h.lt; omega) _, h.p.set 2 (by simp [ptC]) _, h.b.setCell (p := ⟨PB, 2, none⟩) (by have := h.lt; show w.heap.size ≤ PB; omega) _, h.lt⟩
theorem Rp.c2 {w W : World} {PB : Nat} {q : Pt} (h : Rp w W PB q) : W.cell? ⟨PB, 2, none⟩ = some (.string q.s) := h.p.cell 2 (by simp [ptC])
theorem Rp.x2 {w W : World} {PB : Nat} {q : Pt} (h : Rp w W PB q) : W.cell? ⟨w.heap.size, 2, none⟩ = some (.string ⟨#[]⟩) := h.x.cell 2 (by simp [ptC])
theorem Rp.put3 {w W : World} {PB : Nat} {q : Pt} (h : Rp w W PB q) (v : ByteArray) : Rp w (W.setCell ⟨PB, 3, none⟩ (.string v)) PB { q with z := v } :=
  ⟨h.x.far (by have := h.lt; omega) _, h.p.set 3 (by simp [ptC]) _, h.b.setCell (p := ⟨PB, 3, none⟩) (by have := h.lt; show w.heap.size ≤ PB; omega) _, h.lt⟩
theorem Rp.c3 {w W : World} {PB : Nat} {q : Pt} (h : Rp w W PB q) : W.cell? ⟨PB, 3, none⟩ = some (.string q.z) := h.p.cell 3 (by simp [ptC])
theorem Rp.x3 {w W : World} {PB : Nat} {q : Pt} (h : Rp w W PB q) : W.cell? ⟨w.heap.size, 3, none⟩ = some (.string ⟨#[]⟩) := h.x.cell 3 (by simp [ptC])
theorem Rp.put4 {w W : World} {PB : Nat} {q : Pt} (h : Rp w W PB q) (v : ByteArray) : Rp w (W.setCell ⟨PB, 4, none⟩ (.string v)) PB { q with w := v } :=
  ⟨h.x.far (by have := h.lt; omega) _, h.p.set 4 (by simp [ptC]) _, h.b.setCell (p := ⟨PB, 4, none⟩) (by have := h.lt; show w.heap.size ≤ PB; omega) _, h.lt⟩
theorem Rp.c4 {w W : World} {PB : Nat} {q : Pt} (h : Rp w W PB q) : W.cell? ⟨PB, 4, none⟩ = some (.string q.w) := h.p.cell 4 (by simp [ptC])
theorem Rp.x4 {w W : World} {PB : Nat} {q : Pt} (h : Rp w W PB q) : W.cell? ⟨w.heap.size, 4, none⟩ = some (.string ⟨#[]⟩) := h.x.cell 4 (by simp [ptC])
theorem Rp.put5 {w W : World} {PB : Nat} {q : Pt} (h : Rp w W PB q) (v : ByteArray) : Rp w (W.setCell ⟨PB, 5, none⟩ (.string v)) PB { q with c := v } :=
  ⟨h.x.far (by have := h.lt; omega) _, h.p.set 5 (by simp [ptC]) _, h.b.setCell (p := ⟨PB, 5, none⟩) (by have := h.lt; show w.heap.size ≤ PB; omega) _, h.lt⟩
theorem Rp.c5 {w W : World} {PB : Nat} {q : Pt} (h : Rp w W PB q) : W.cell? ⟨PB, 5, none⟩ = some (.string q.c) := h.p.cell 5 (by simp [ptC])
theorem Rp.x5 {w W : World} {PB : Nat} {q : Pt} (h : Rp w W PB q) : W.cell? ⟨w.heap.size, 5, none⟩ = some (.string ⟨#[]⟩) := h.x.cell 5 (by simp [ptC])
theorem Rp.put6 {w W : World} {PB : Nat} {q : Pt} (h : Rp w W PB q) (v : ByteArray) : Rp w (W.setCell ⟨PB, 6, none⟩ (.string v)) PB { q with p := v } :=
  ⟨h.x.far (by have := h.lt; omega) _, h.p.set 6 (by simp [ptC]) _, h.b.setCell (p := ⟨PB, 6, none⟩) (by have := h.lt; show w.heap.size ≤ PB; omega) _, h.lt⟩
theorem Rp.c6 {w W : World} {PB : Nat} {q : Pt} (h : Rp w W PB q) : W.cell? ⟨PB, 6, none⟩ = some (.string q.p) := h.p.cell 6 (by simp [ptC])
theorem Rp.x6 {w W : World} {PB : Nat} {q : Pt} (h : Rp w W PB q) : W.cell? ⟨w.heap.size, 6, none⟩ = some (.string ⟨#[]⟩) := h.x.cell 6 (by simp [ptC])
theorem Rp.put7 {w W : World} {PB : Nat} {q : Pt} (h : Rp w W PB q) (v : ByteArray) : Rp w (W.setCell ⟨PB, 7, none⟩ (.string v)) PB { q with k := v } :=
  ⟨h.x.far (by have := h.lt; omega) _, h.p.set 7 (by simp [ptC]) _, h.b.setCell (p := ⟨PB, 7, none⟩) (by have := h.lt; show w.heap.size ≤ PB; omega) _, h.lt⟩
theorem Rp.c7 {w W : World} {PB : Nat} {q : Pt} (h : Rp w W PB q) : W.cell? ⟨PB, 7, none⟩ = some (.string q.k) := h.p.cell 7 (by simp [ptC])
theorem Rp.x7 {w W : World} {PB : Nat} {q : Pt} (h : Rp w W PB q) : W.cell? ⟨w.heap.size, 7, none⟩ = some (.string ⟨#[]⟩) := h.x.cell 7 (by simp [ptC])
set_option maxHeartbeats 1500000 in
set_option maxRecDepth 100000 in
theorem readSpec_some (sp : ByteArray) (c : List Nat) (w : World) (hsp : sp.size ≤ 16777216) (hA : textOf sp = some c) (hsc : ∀ r ∈ c, Scalar r) (hel : (encs c).length ≤ 16384) (hst : sp = tx c) (hT : Tabs w) (aA aZ aL : Addr) (hE : Errs w aA aZ aL) :
    Calls Tryz.prog 50 #[.string sp] w fun e w' => RpP sp aA w e w' := by
  have hK := fun W h => textOk_any sp W (by omega) h
  rw [hA, show (some c).isSome = true from rfl] at hK
  have hX0 := Bx.new w (ptC pt0) 83
  have hB0 : Below w.heap.size w (w.alloc (.cells (ptC pt0).toArray 83)) := (Below.refl _ w).alloc (Nat.le_refl _) _
  have hT0 := hT.below hB0
  have hsc1 := r1_sc hsc
  have hsc2 : ∀ r ∈ r2 c, Scalar r := cutO_sc hsc1
  have hsc3 : ∀ r ∈ r3 c, Scalar r := cutO_sc hsc2
  have hsc4 : ∀ r ∈ r4 c, Scalar r := cutD_sc hsc3
  have hsc5 : ∀ r ∈ r5 c, Scalar r := cutO_sc hsc4
  have hl3 : (encs (r3 c)).length ≤ 16384 := by
    have h1 := r1_enc c
    have h2 : (encs (r2 c)).length ≤ _ := cutO_enc isSg (r1 c)
    have h3 : (encs (r3 c)).length ≤ _ := cutO_enc (· == 48) (r2 c)
    omega
  have hl5 : (encs (r5 c)).length ≤ 16384 := by
    have h4 : (encs (r4 c)).length ≤ _ := cutD_enc 4 (r3 c)
    have h5 : (encs (r5 c)).length ≤ _ := cutO_enc (· == 44) (r4 c)
    omega
  have hAl := fun W h => cutAlign_any c W hsc h
  have hSg : ∀ W, Calls Tryz.prog 72 #[.string (tx (r1 c)), .string ⟨#[43, 32, 45]⟩] W fun e w' => e = .returned (.tuple #[.string (tx (cutL isSg (r1 c))), .string (tx (r2 c))]) ∧ Below W.heap.size W w' := fun W => cutOneOf_any (r1 c) ⟨#[43, 32, 45]⟩ isSg W hsc1 signsSg
  have hZr : ∀ W, Calls Tryz.prog 72 #[.string (tx (r2 c)), .string ⟨#[48]⟩] W fun e w' => e = .returned (.tuple #[.string (tx (cutL (· == 48) (r2 c))), .string (tx (r3 c))]) ∧ Below W.heap.size W w' := fun W => cutOneOf_any (r2 c) ⟨#[48]⟩ (· == 48) W hsc2 (signs1 48 (by omega))
  have hWd : ∀ W, Calls Tryz.prog 73 #[.string (tx (r3 c)), .int .i64 4] W fun e w' => e = .returned (.tuple #[.string (tx (cutD 4 (r3 c)).1), .string (tx (r4 c))]) ∧ Below W.heap.size W w' := fun W => cutDigits_any (r3 c) 4 W hsc3 hl3 (by omega)
  have hHP : ∀ W, Calls Tryz.prog 74 #[.string (tx (cutD 4 (r3 c)).1), .string ⟨#[48]⟩] W fun e w' => e = .returned (.bool ((cutD 4 (r3 c)).1.head? == some 48)) ∧ w' = W := fun W => by
    have h := Any.strings_HasPrefix Tryz.laysHP (tx (cutD 4 (r3 c)).1) ⟨#[48]⟩ W
    rw [tx_data, show (⟨#[48]⟩ : ByteArray).data.toList = [(48 : Nat).toUInt8] from rfl, pre0 _ (fun r hr => by have := cutD_dig 4 (r3 c) r hr; unfold isDg at this; simp at this; exact .inl (by omega)) 48 (by omega)] at h
    exact h
  have hCm : ∀ W, Calls Tryz.prog 72 #[.string (tx (r4 c)), .string ⟨#[44]⟩] W fun e w' => e = .returned (.tuple #[.string (tx (cutL (· == 44) (r4 c))), .string (tx (r5 c))]) ∧ Below W.heap.size W w' := fun W => cutOneOf_any (r4 c) ⟨#[44]⟩ (· == 44) W hsc4 (signs1 44 (by omega))
  have hCP := fun W => Any.strings_CutPrefix Tryz.laysCP (tx (r5 c)) ⟨#[46]⟩ W
  rw [tx_data, show (⟨#[46]⟩ : ByteArray).data.toList = [(46 : Nat).toUInt8] from rfl] at hCP
  have hpf := pre0 (r5 c) hsc5 46 (by omega)
  rw [hpf] at hCP
  have HBAD : Hid (((cutD 4 (r3 c)).1.head? == some 48) = true ∨ ((afDot (r5 c)).1 = true ∧ (afDot (r5 c)).2.1 = []) → ∀ t, RpA sp aA pt0 (.iface 87 (.agg #[.string t, errAt aA]))) := fun h t => by
    unfold RpA
    rw [hA]
    simp only
    rw [if_pos ?_]
    · exact ⟨t, rfl⟩
    · unfold badR rdR
      simp only
      rcases h with h | ⟨h1, h2⟩
      · rw [h]; rfl
      · rw [h1, h2]; simp
  have HGOOD : Hid (((cutD 4 (r3 c)).1.head? == some 48) = false → ((afDot (r5 c)).1 = true → (afDot (r5 c)).2.1 ≠ []) → RpA sp aA (prT c) .nilIface) := fun h1 h2 => by
    unfold RpA
    rw [hA]
    simp only
    rw [if_neg ?_]
    · exact ⟨(by first | rfl | trivial), (by first | rfl | trivial)⟩
    · unfold badR rdR
      simp only
      rw [h1, Bool.false_or]
      intro h
      simp only [Bool.and_eq_true, List.isEmpty_iff] at h
      exact h2 h.1 h.2
  have HSC : Hid (∀ r ∈ r5 c, Scalar r) := hsc5
  have HL5 : Hid ((encs (r5 c)).length ≤ 16384) := hl5
  have HPF : Hid (Lib.hasPrefix (encs (r5 c)) [(46 : Nat).toUInt8] = ((r5 c).head? == some 46)) := hpf
  rw [hst] at hK ⊢
  unfold ptC pt0 at hX0 hB0 hT0
  clear hA hsc hel hsc1 hsc2 hsc3 hsc4 hsc5 hl3 hl5 hpf
  have hHS : Hid (sp = tx c) := hst
  clear hst
  go_enter Tryz.func50, Tryz.ntmps50
  go_wp2_with fail
  generalize w.alloc _ = W0 at *
  refine (hK W0 hT0).mono ?_
  rintro e W1 ⟨rfl, hB1⟩
  obtain ⟨PB, hPB⟩ : ∃ PB, W1.heap.size = PB := ⟨_, rfl⟩
  have hR2 : Rp w (W1.alloc (.cells #[.string ⟨#[]⟩, .string ⟨#[]⟩, .string ⟨#[]⟩, .string ⟨#[]⟩, .string ⟨#[]⟩, .string ⟨#[]⟩, .string ⟨#[]⟩, .string ⟨#[]⟩] 83)) PB pt0 := by
    show Rp w (W1.alloc (.cells (ptC pt0).toArray 83)) PB pt0
    have hX1 : Bx W1 w.heap.size (ptC pt0) := hX0.keep hB1
    have hBB := hB0.trans (hB1.mono hB0.size)
    refine ⟨hX1.keep ((Below.refl _ _).alloc (Nat.le_refl _) _), ?_, hBB.alloc hBB.size _, ?_⟩
    · rw [← hPB]; exact Bx.new W1 _ _
    · rw [← hPB]; exact hX1.lt
  clear hX0 hB0 hT0 hB1 hK
  go_wp2_with fail
  generalize W1.alloc _ = W2 at *
  clear hPB
  refine (hAl W2 (hT.below hR2.b)).mono ?_
  rintro e W3 ⟨rfl, hB3⟩
  have hR3 := hR2.keep hB3
  clear hR2 hB3 hAl
  have cc0 := hR3.c0
  have ff0 := hR3.p.fr 0
  have hS0 := hR3.put0 (tx (alF c))
  have cc1 := hS0.c1
  have ff1 := hS0.p.fr 1
  have hS1 := hS0.put1 (tx (alL c))
  obtain ⟨W4, hW⟩ : ∃ X, ((W3.setCell ⟨PB, 0, none⟩ (.string (tx (alF c)))).setCell ⟨PB, 1, none⟩ (.string (tx (alL c)))) = X := ⟨_, rfl⟩
  have hR4 := hS1
  rw [hW] at hR4
  clear hS0 hS1 hR3
  go_wp2_with fail
  clear hW cc0 ff0 cc1 ff1
  refine (hSg W4).mono ?_
  rintro e W5 ⟨rfl, hB⟩
  have hR5 := hR4.keep hB
  clear hR4 hB
  have cc0 := hR5.c2
  have ff0 := hR5.p.fr 2
  have hS0 := hR5.put2 (tx (cutL isSg (r1 c)))
  obtain ⟨W6, hW⟩ : ∃ X, (W5.setCell ⟨PB, 2, none⟩ (.string (tx (cutL isSg (r1 c))))) = X := ⟨_, rfl⟩
  have hR6 := hS0
  rw [hW] at hR6
  clear hS0 hR5
  go_wp2_with fail
  clear hW cc0 ff0
  refine (hZr W6).mono ?_
  rintro e W7 ⟨rfl, hB⟩
  have hR7 := hR6.keep hB
  clear hR6 hB
  have cc0 := hR7.c3
  have ff0 := hR7.p.fr 3
  have hS0 := hR7.put3 (tx (cutL (· == 48) (r2 c)))
  obtain ⟨W8, hW⟩ : ∃ X, (W7.setCell ⟨PB, 3, none⟩ (.string (tx (cutL (· == 48) (r2 c))))) = X := ⟨_, rfl⟩
  have hR8 := hS0
  rw [hW] at hR8
  clear hS0 hR7
  go_wp2_with fail
  clear hW cc0 ff0
  refine (hWd W8).mono ?_
  rintro e W9 ⟨rfl, hB⟩
  have hR9 := hR8.keep hB
  clear hR8 hB
  have cc0 := hR9.c4
  have ff0 := hR9.p.fr 4
  have hS0 := hR9.put4 (tx (cutD 4 (r3 c)).1)
  obtain ⟨W10, hW⟩ : ∃ X, (W9.setCell ⟨PB, 4, none⟩ (.string (tx (cutD 4 (r3 c)).1))) = X := ⟨_, rfl⟩
  have hR10 := hS0
  rw [hW] at hR10
  clear hS0 hR9
  have cw := hR10.c4
  go_wp2_with fail
  clear hW cc0 ff0 cw
  refine (hHP W10).mono ?_
  rintro e w' ⟨rfl, hw⟩
  obtain rfl : W10 = w' := hw.symm
  clear hw
  cases hw0 : ((cutD 4 (r3 c)).1.head? == some 48) with
  | true =>
    have HB : Hid (∀ t, RpA sp aA pt0 (.iface 87 (.agg #[.string t, errAt aA]))) := HBAD.out (.inl hw0)
    clear hw0 HBAD HGOOD
    have hg := (hE.below hR10.b).1.1
    have hg0 := cell_lt hE.1.1
    have hg2 : (W10.setCell ⟨w.heap.size, 0, none⟩ (.string ⟨#[]⟩)).cell? ⟨0, 0, none⟩ = some (errAt aA) := by
      rw [World.cell?_setCell_other _ _ _ _ (by intro h; injection h with h1 _; omega)]; exact hg
    have hXl := hR10.x.lt
    have hBb := hR10.b
    have x0 := hR10.x0
    have f0 := hR10.x.fr 0
    have x1 := hR10.x1
    have f1 := hR10.x.fr 1
    have x2 := hR10.x2
    have f2 := hR10.x.fr 2
    have x3 := hR10.x3
    have f3 := hR10.x.fr 3
    have x4 := hR10.x4
    have f4 := hR10.x.fr 4
    have x5 := hR10.x5
    have f5 := hR10.x.fr 5
    have x6 := hR10.x6
    have f6 := hR10.x.fr 6
    have x7 := hR10.x7
    have f7 := hR10.x.fr 7
    clear hE hg0 hR10
    go_upto_region 10 with fail
    go_region
    all_goals
      go_wp2
      exact bodyPost_ret (v := .tuple #[ptV pt0, .iface 87 (.agg #[.string ⟨#[97, 32, 115, 112, 101, 99, 39, 115, 32, 119, 105, 100, 116, 104]⟩, errAt aA])]) (by simp [ptV, ptC, pt0, results, Tryz.results50, go_sem, x0, f0, x1, f1, x2, f2, x3, f3, x4, f4, x5, f5, x6, f6, x7, f7, hXl]) rfl (RpP.mk ⟨pt0, _, rfl, by rw [← hHS.out]; exact HB.out _, (set8 hBb _ _ _ _ _ _ _ _).drew⟩)
  | false =>
    go_wp2_with fail
    refine (hCm W10).mono ?_
    rintro e W11 ⟨rfl, hB⟩
    have hR11 := hR10.keep hB
    clear hR10 hB
    have cc0 := hR11.c5
    have ff0 := hR11.p.fr 5
    have hS0 := hR11.put5 (tx (cutL (· == 44) (r4 c)))
    obtain ⟨W12, hW⟩ : ∃ X, (W11.setCell ⟨PB, 5, none⟩ (.string (tx (cutL (· == 44) (r4 c))))) = X := ⟨_, rfl⟩
    have hR12 := hS0
    rw [hW] at hR12
    clear hS0 hR11
    go_wp2_with fail
    clear hW cc0 ff0
    refine (hCP W12).mono ?_
    rintro e w' ⟨rfl, hw⟩
    obtain rfl : W12 = w' := hw.symm
    clear hw
    by_cases hdt : (r5 c).head? = some 46
    · obtain ⟨t, hr5⟩ : ∃ t, r5 c = 46 :: t := by
        cases h : r5 c with
        | nil => rw [h] at hdt; cases hdt
        | cons x t => rw [h] at hdt; simp at hdt; exact ⟨t, by rw [hdt]⟩
      have had : afDot (r5 c) = (true, (cutD 3 t).1, (cutD 3 t).2) := by rw [hr5]; rfl
      have htr : (⟨(Lib.trimPrefix (encs (r5 c)) [(46 : Nat).toUInt8]).toArray⟩ : ByteArray) = tx t := by
        unfold Lib.trimPrefix
        rw [HPF.out, if_pos (by rw [hdt]; rfl), hr5, encs_cons, enc1 46 (by omega)]; rfl
      have hst : ∀ r ∈ t, Scalar r := fun r hr => HSC.out r (by rw [hr5]; simp [hr])
      have hlt : (encs t).length ≤ 16384 := by have := HL5.out; rw [hr5, encs_cons, List.length_append] at this; omega
      have hPr : ∀ W, Calls Tryz.prog 73 #[.string (tx t), .int .i64 3] W fun e w' => e = .returned (.tuple #[.string (tx (cutD 3 t).1), .string (tx (cutD 3 t).2)]) ∧ Below W.heap.size W w' := fun W => cutDigits_any t 3 W hst hlt (by omega)
      have hem := tx_empty (cutD 3 t).1 (fun r hr => by have := cutD_dig 3 t r hr; unfold isDg at this; simp at this; exact .inl (by omega))
      rw [htr, show ((r5 c).head? == some 46) = true by rw [hdt]; rfl]
      have HAD : Hid (afDot (r5 c) = (true, (cutD 3 t).1, (cutD 3 t).2)) := had
      clear htr hst hlt had hr5 hdt
      go_wp2_with fail
      refine (hPr W12).mono ?_
      rintro e W13 ⟨rfl, hB⟩
      have hR13 := hR12.keep hB
      clear hR12 hB
      have cc0 := hR13.c6
      have ff0 := hR13.p.fr 6
      have hS0 := hR13.put6 (tx (cutD 3 t).1)
      obtain ⟨W14, hW⟩ : ∃ X, (W13.setCell ⟨PB, 6, none⟩ (.string (tx (cutD 3 t).1))) = X := ⟨_, rfl⟩
      have hR14 := hS0
      rw [hW] at hR14
      clear hS0 hR13
      have cw := hR14.c6
      cases hnp : (cutD 3 t).1.isEmpty with
      | true =>
        rw [hnp] at hem
        have HB : Hid (∀ t, RpA sp aA pt0 (.iface 87 (.agg #[.string t, errAt aA]))) := HBAD.out (.inr (by rw [HAD.out]; exact ⟨rfl, by simpa using hnp⟩))
        clear hnp HBAD HGOOD HAD
        go_upto_if 69 with fail
        clear hW cc0 ff0 cw hem
        have hg := (hE.below hR14.b).1.1
        have hg0 := cell_lt hE.1.1
        have hg2 : (W14.setCell ⟨w.heap.size, 0, none⟩ (.string ⟨#[]⟩)).cell? ⟨0, 0, none⟩ = some (errAt aA) := by
          rw [World.cell?_setCell_other _ _ _ _ (by intro h; injection h with h1 _; omega)]; exact hg
        have hXl := hR14.x.lt
        have hBb := hR14.b
        have x0 := hR14.x0
        have f0 := hR14.x.fr 0
        have x1 := hR14.x1
        have f1 := hR14.x.fr 1
        have x2 := hR14.x2
        have f2 := hR14.x.fr 2
        have x3 := hR14.x3
        have f3 := hR14.x.fr 3
        have x4 := hR14.x4
        have f4 := hR14.x.fr 4
        have x5 := hR14.x5
        have f5 := hR14.x.fr 5
        have x6 := hR14.x6
        have f6 := hR14.x.fr 6
        have x7 := hR14.x7
        have f7 := hR14.x.fr 7
        clear hE hg0 hR14
        go_upto_region 16 with fail
        go_region
        all_goals
          go_wp2
          exact bodyPost_ret (v := .tuple #[ptV pt0, .iface 87 (.agg #[.string ⟨#[97, 32, 115, 112, 101, 99, 39, 115, 32, 112, 114, 101, 99, 105, 115, 105, 111, 110]⟩, errAt aA])]) (by simp [ptV, ptC, pt0, results, Tryz.results50, go_sem, x0, f0, x1, f1, x2, f2, x3, f3, x4, f4, x5, f5, x6, f6, x7, f7, hXl]) rfl (RpP.mk ⟨pt0, _, rfl, by rw [← hHS.out]; exact HB.out _, (set8 hBb _ _ _ _ _ _ _ _).drew⟩)
      | false =>
        rw [hnp] at hem
        go_upto_region 17 with fail
        clear hW cc0 ff0 cw hem
        have cc0 := hR14.c7
        have ff0 := hR14.p.fr 7
        have hS0 := hR14.put7 (tx (cutD 3 t).2)
        obtain ⟨W15, hW⟩ : ∃ X, (W14.setCell ⟨PB, 7, none⟩ (.string (tx (cutD 3 t).2))) = X := ⟨_, rfl⟩
        have hR15 := hS0
        rw [hW] at hR15
        clear hS0 hR14
        have hPP : Rp w W15 PB (prT c) := by
          have := hR15
          unfold prT
          rw [HAD.out]
          exact this
        obtain ⟨q, hq⟩ : ∃ q, prT c = q := ⟨_, rfl⟩
        rw [hq] at hPP
        have HG : Hid (RpA sp aA q .nilIface) := by rw [← hq]; exact HGOOD.out hw0 (fun _ h => by rw [HAD.out] at h; simp only at h; rw [h] at hnp; cases hnp)
        clear hR15 hq
        have hXl := hPP.x.lt
        have hBb := hPP.b
        have x0 := hPP.x0
        have f0 := hPP.x.fr 0
        have p0 := hPP.c0
        have x1 := hPP.x1
        have f1 := hPP.x.fr 1
        have p1 := hPP.c1
        have x2 := hPP.x2
        have f2 := hPP.x.fr 2
        have p2 := hPP.c2
        have x3 := hPP.x3
        have f3 := hPP.x.fr 3
        have p3 := hPP.c3
        have x4 := hPP.x4
        have f4 := hPP.x.fr 4
        have p4 := hPP.c4
        have x5 := hPP.x5
        have f5 := hPP.x.fr 5
        have p5 := hPP.c5
        have x6 := hPP.x6
        have f6 := hPP.x.fr 6
        have p6 := hPP.c6
        have x7 := hPP.x7
        have f7 := hPP.x.fr 7
        have p7 := hPP.c7
        clear hPP hw0 HGOOD HBAD
        go_wp2
        exact bodyPost_ret (v := .tuple #[ptV q, .nilIface]) (by simp [ptV, ptC, pt0, results, Tryz.results50, go_sem, x0, f0, x1, f1, x2, f2, x3, f3, x4, f4, x5, f5, x6, f6, x7, f7, p0, p1, p2, p3, p4, p5, p6, p7, hXl]) rfl (RpP.mk ⟨q, _, rfl, by rw [← hHS.out]; exact HG.out, set8 hBb _ _ _ _ _ _ _ _⟩)
    · have had : afDot (r5 c) = (false, [], r5 c) := by
        unfold afDot
        split
        · rename_i h; rw [h] at hdt; exact absurd rfl hdt
        · rfl
      have hfa : ((r5 c).head? == some 46) = false := by rw [beq_eq_false_iff_ne]; exact hdt
      have htr : (⟨(Lib.trimPrefix (encs (r5 c)) [(46 : Nat).toUInt8]).toArray⟩ : ByteArray) = tx (r5 c) := by
        unfold Lib.trimPrefix
        rw [HPF.out, hfa]; rfl
      rw [htr, hfa]
      have HAD : Hid (afDot (r5 c) = (false, [], r5 c)) := had
      clear htr had hdt hfa
      go_upto_region 17 with fail
      have cc0 := hR12.c7
      have ff0 := hR12.p.fr 7
      have hS0 := hR12.put7 (tx (r5 c))
      obtain ⟨W13, hW⟩ : ∃ X, (W12.setCell ⟨PB, 7, none⟩ (.string (tx (r5 c)))) = X := ⟨_, rfl⟩
      have hR13 := hS0
      rw [hW] at hR13
      clear hS0 hR12
      have hPP : Rp w W13 PB (prT c) := by
        have := hR13
        unfold prT
        rw [HAD.out]
        exact this
      obtain ⟨q, hq⟩ : ∃ q, prT c = q := ⟨_, rfl⟩
      rw [hq] at hPP
      have HG : Hid (RpA sp aA q .nilIface) := by rw [← hq]; exact HGOOD.out hw0 (fun h => by rw [HAD.out] at h; cases h)
      clear hR13 hq
      have hXl := hPP.x.lt
      have hBb := hPP.b
      have x0 := hPP.x0
      have f0 := hPP.x.fr 0
      have p0 := hPP.c0
      have x1 := hPP.x1
      have f1 := hPP.x.fr 1
      have p1 := hPP.c1
      have x2 := hPP.x2
      have f2 := hPP.x.fr 2
      have p2 := hPP.c2
      have x3 := hPP.x3
      have f3 := hPP.x.fr 3
      have p3 := hPP.c3
      have x4 := hPP.x4
      have f4 := hPP.x.fr 4
      have p4 := hPP.c4
      have x5 := hPP.x5
      have f5 := hPP.x.fr 5
      have p5 := hPP.c5
      have x6 := hPP.x6
      have f6 := hPP.x.fr 6
      have p6 := hPP.c6
      have x7 := hPP.x7
      have f7 := hPP.x.fr 7
      have p7 := hPP.c7
      clear hPP hw0 HGOOD HBAD
      go_wp2
      exact bodyPost_ret (v := .tuple #[ptV q, .nilIface]) (by simp [ptV, ptC, pt0, results, Tryz.results50, go_sem, x0, f0, x1, f1, x2, f2, x3, f3, x4, f4, x5, f5, x6, f6, x7, f7, p0, p1, p2, p3, p4, p5, p6, p7, hXl]) rfl (RpP.mk ⟨q, _, rfl, by rw [← hHS.out]; exact HG.out, set8 hBb _ _ _ _ _ _ _ _⟩)
end Go.Proofs.YtahcpgldpbejiaaGreatDoor
