import Derived.Test.YtfbibbjiomfncaaDaA
import Derived.Test.YtfbibbjiomfncaaMoA
import Derived.Test.YtfbibbjiomfncaaKpA
namespace Go.Proofs.Ytfbibbjiomfncaa
open Go.RowKit Go.Lib
set_option linter.unusedVariables false
set_option linter.unusedSimpArgs false

/-- Classes that are drawn: all ours, the bases' rows apart. -/
structure CO (w : World) (B : Nat) (v : Value) (ps : List Sp) (cs : List Cl) : Prop where
  out : OwnG shP 54 w B v ps
  len : ps.length = cs.length
  row : ∀ k (h : k < ps.length) (h' : k < cs.length), Own w B ps[k].s1 cs[k].b ∧ OwnA w B ps[k].s2 cs[k].a
  apart : ∀ j k (hj : j < ps.length) (hk : k < ps.length), j ≠ k → ps[j].s1.ownBlock = none ∨ ps[j].s1.ownBlock ≠ ps[k].s1.ownBlock
theorem CO.but {w w' : World} {B : Nat} {v : Value} {ps : List Sp} {cs : List Cl} {row : Option Nat} (h : CO w B v ps cs) (hg : w.grownBy w' row) (hr : ∀ j, row = some j → j < B) : CO w' B v ps cs :=
  ⟨h.out.but hg (by
      cases hv : v.ownBlock with
      | none => exact .inl rfl
      | some q => exact .inr (fun e => by have := (h.out.lt q hv).1; have := hr q e.symm; omega)), h.len,
   fun k hk hk' => ⟨(h.row k hk hk').1.but hg (by
      cases hv : ps[k].s1.ownBlock with
      | none => exact .inl rfl
      | some q => exact .inr (fun e => by have := ((h.row k hk hk').1.lt q hv).1; have := hr q e.symm; omega)), (h.row k hk hk').2.but hg (by
      cases hv : ps[k].s2.ownBlock with
      | none => exact .inl rfl
      | some q => exact .inr (fun e => by have := ((h.row k hk hk').2.lt q hv).1; have := hr q e.symm; omega))⟩, h.apart⟩
theorem CO.keep {w w' : World} {B : Nat} {v : Value} {ps : List Sp} {cs : List Cl} (h : CO w B v ps cs) (hb : Below w.heap.size w w') : CO w' B v ps cs :=
  ⟨h.out.keep hb, h.len, fun k hk hk' => ⟨(h.row k hk hk').1.keep hb, (h.row k hk hk').2.keep hb⟩, h.apart⟩
theorem CO.rd {w : World} {B : Nat} {v : Value} {ps : List Sp} {cs : List Cl} (h : CO w B v ps cs) : RdC w v cs :=
  ⟨ps, h.out.rd, h.len, fun k hk hk' => ⟨(h.row k hk hk').1.rd, (h.row k hk hk').2.rd⟩⟩
theorem CO.nil (w : World) (B : Nat) (hB : B ≤ w.heap.size) : CO (w.alloc (.cells #[] 54)) B (.slice (some ⟨w.heap.size, 0, none⟩) 0 0) [] [] :=
  ⟨(OwnG.emptyD shP 54 w).mono hB, rfl, fun k hk => by simp at hk, fun j k hj => by simp at hj⟩
/-- One more class. -/
theorem CO.snoc {w w' : World} {B : Nat} {v v' : Value} {ps : List Sp} {cs : List Cl} {p : Sp} {bs : List Int} {xs : List At} (h : CO w B v ps cs) (h1 : Own w B p.s1 bs) (h2 : OwnA w B p.s2 xs)
    (hy : ∀ k (hk : k < ps.length), ps[k].s1.ownBlock = none ∨ ps[k].s1.ownBlock ≠ p.s1.ownBlock) (ho : OwnG shP 54 w' B v' (ps ++ [p])) (hg : w.grownBy w' v.ownBlock) : CO w' B v' (ps ++ [p]) (cs ++ [⟨bs, xs⟩]) := by
  have kI : ∀ (u : Value) (zs : List Int), Own w B u zs → Own w' B u zs := fun u zs hu => hu.but hg (by
    rcases h.out.shape with ⟨e, _⟩ | ⟨gv, cv, e, _⟩
    · rw [e]; cases u.ownBlock with
      | none => exact .inl rfl
      | some q => exact .inr (by simp [Value.ownBlock])
    · right
      have hO := h.out
      rw [e] at hO ⊢
      exact own_apart hO hu (by decide))
  have kA : ∀ (u : Value) (zs : List At), OwnA w B u zs → OwnA w' B u zs := fun u zs hu => hu.but hg (by
    rcases h.out.shape with ⟨e, _⟩ | ⟨gv, cv, e, _⟩
    · rw [e]; cases u.ownBlock with
      | none => exact .inl rfl
      | some q => exact .inr (by simp [Value.ownBlock])
    · right
      have hO := h.out
      rw [e] at hO ⊢
      exact own_unlike hO hu (by decide))
  refine ⟨ho, by simp [h.len], fun k hk hk' => ?_, fun j k hj hk hjk => ?_⟩
  · rw [List.getElem_append, List.getElem_append]
    split
    · rename_i hk1
      rw [dif_pos (by have := h.len; omega)]
      exact ⟨kI _ _ (h.row k hk1 (by have := h.len; omega)).1, kA _ _ (h.row k hk1 (by have := h.len; omega)).2⟩
    · rename_i hk1
      rw [dif_neg (by have := h.len; omega)]
      simp only [List.getElem_singleton]
      exact ⟨kI _ _ h1, kA _ _ h2⟩
  · rw [List.getElem_append, List.getElem_append]
    split
    · rename_i hj1
      split
      · rename_i hk1
        exact h.apart j k hj1 hk1 hjk
      · simp only [List.getElem_singleton]
        exact hy j hj1
    · rename_i hj1
      split
      · rename_i hk1
        simp only [List.getElem_singleton]
        rcases hy k hk1 with h3 | h3
        · rw [h3]
          cases p.s1.ownBlock with
          | none => exact .inl rfl
          | some q => exact .inr (by simp)
        · exact .inr (fun e => h3 e.symm)
      · rename_i hk1
        simp at hj hk
        omega
theorem Drawn.toB {w w' : World} {g : Nat} {a : Option Addr} {n c : Nat} {bs : List Int} (h : Drawn w w' g a n c bs) : w.heap.size ≤ w'.heap.size := h.gb.size
theorem sp_new (w : World) (p : Sp) (t : TypeId) (g : Nat) (hg : g = w.heap.size) : ∀ j, j < shP.n → (w.alloc (.cells #[p.s1, p.s2] t)).cell? ⟨g, j, none⟩ = (shP.cs p)[j]? := by
  intro j _; rw [World.cell?_alloc_at _ _ _ _ hg]; simp [shP]
end Go.Proofs.Ytfbibbjiomfncaa
