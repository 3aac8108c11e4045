import Derived.Test.YtfbibbjiomfncaaDaE
import Derived.Test.YtfbibbjiomfncaaAtJ
import Derived.Test.YtfbibbjiomfncaaMoB
namespace Go.Proofs.Ytfbibbjiomfncaa
open Go.RowKit Go.Lib
set_option linter.unusedVariables false
set_option linter.unusedSimpArgs false

/-- The last of a name, or what was there. -/
def lastN (s : ByteArray) (d : At) (xs : List At) : At := xs.foldl (fun c x => if x.n = s then x else c) d
theorem lastN_snoc (s : ByteArray) (d : At) (xs : List At) (x : At) : lastN s d (xs ++ [x]) = if x.n = s then x else lastN s d xs := by simp [lastN]
theorem last_none {s : ByteArray} {d : At} : ∀ {xs : List At}, (∀ x ∈ xs, x.n ≠ s) → lastN s d xs = d
  | [], _ => rfl
  | x :: r, h => by
    have hx := h x (List.mem_cons_self ..)
    show lastN s (if x.n = s then x else d) r = d
    rw [if_neg hx]
    exact last_none (fun y hy => h y (List.mem_cons_of_mem _ hy))
theorem last_find (s : ByteArray) : ∀ (xs : List At) (d : At), (xs.map At.n).Nodup → lastN s d xs = (xs.find? (fun x => decide (x.n = s))).getD d
  | [], d, _ => rfl
  | x :: r, d, h => by
    rw [List.map_cons, List.nodup_cons] at h
    show lastN s (if x.n = s then x else d) r = _
    by_cases e : x.n = s
    · rw [if_pos e, List.find?_cons_of_pos (by simpa using e)]
      exact last_none (fun y hy hn => h.1 (by rw [e, ← hn]; exact List.mem_map.mpr ⟨y, hy, rfl⟩))
    · rw [if_neg e, List.find?_cons_of_neg (by simpa using e)]
      exact last_find s r d h.2
def crs (cs : List Cl) (s : ByteArray) : List Int → At
  | [] => ⟨⟨#[]⟩, -1, 0⟩
  | y :: r => lastN s (crs cs s r) (cs.getD y.toNat ⟨[], []⟩).a
theorem crs_frst {cs : List Cl} (hok : OkCs cs) (s : ByteArray) : ∀ l : List Int, (∀ y ∈ l, 0 ≤ y ∧ y < (cs.length : Int)) → crs cs s l = frst cs s l
  | [], _ => rfl
  | y :: r, h => by
    obtain ⟨h0, h1⟩ := h y (List.mem_cons_self ..)
    have hy : y.toNat < cs.length := by omega
    have e : cs.getD y.toNat ⟨[], []⟩ = cs[y.toNat] := by simp [List.getD, hy]
    simp only [crs, frst]
    rw [last_find s _ _ (by rw [e]; exact (hok.2 y.toNat hy).2.1.2), crs_frst hok s r (fun z hz => h z (List.mem_cons_of_mem _ hz))]
    cases ((cs.getD y.toNat ⟨[], []⟩).a).find? (fun x => decide (x.n = s)) <;> rfl
theorem bad_some' : ∀ (Ls : List (List Int)) (q : Nat), badL Ls = some q → ∃ h : q < Ls.length, Ls[q] = []
  | [], q, h => by simp [badL] at h
  | l :: r, q, h => by
    simp only [badL] at h
    split at h
    · rename_i hl
      simp at h; subst h
      exact ⟨by simp, by simpa using hl⟩
    · cases hb : badL r with
      | none => rw [hb] at h; simp at h
      | some q' =>
        rw [hb] at h; simp at h; subst h
        obtain ⟨h1, h2⟩ := bad_some' r q' hb
        exact ⟨by simp; omega, by simpa using h2⟩
theorem find_uniq {s : ByteArray} : ∀ {xs : List At} (i : Nat) (hi : i < xs.length), (xs.map At.n).Nodup → xs[i].n = s → xs.find? (fun x => decide (x.n = s)) = some xs[i]
  | x :: r, 0, _, _, h => by rw [List.find?_cons_of_pos (by simpa using h)]; rfl
  | x :: r, i + 1, hi, hn, h => by
    rw [List.map_cons, List.nodup_cons] at hn
    have hi' : i < r.length := by simpa using hi
    simp only [List.getElem_cons_succ] at h ⊢
    rw [List.find?_cons_of_neg (by simp; intro e; exact hn.1 (by rw [e, ← h]; exact List.mem_map.mpr ⟨r[i], List.getElem_mem hi', rfl⟩))]
    exact find_uniq i hi' hn.2 h
/-- A box of three cells, not frozen. -/
structure Bx3 (w : World) (X : Nat) (x : At) : Prop where
  lt : X < w.heap.size
  c0 : w.cell? ⟨X, 0, none⟩ = some (.string x.n)
  c1 : w.cell? ⟨X, 1, none⟩ = some (.int .i64 x.k)
  c2 : w.cell? ⟨X, 2, none⟩ = some (.int .i64 x.v)
  f : ∀ o, w.frozen? ⟨X, o, none⟩ = false
theorem Bx3.new (w : World) (x : At) (T : TypeId) : Bx3 (w.alloc (.cells #[.string x.n, .int .i64 x.k, .int .i64 x.v] T)) w.heap.size x :=
  ⟨by simp, by rw [World.cell?_alloc_at _ _ _ _ rfl]; rfl, by rw [World.cell?_alloc_at _ _ _ _ rfl]; rfl, by rw [World.cell?_alloc_at _ _ _ _ rfl]; rfl, fun o => World.frozen?_alloc_at _ _ _ _ (by simp)⟩
theorem Bx3.set {w : World} {X : Nat} {x : At} (h : Bx3 w X x) (y : At) : Bx3 (((w.setCell ⟨X, 0, none⟩ (.string y.n)).setCell ⟨X, 1, none⟩ (.int .i64 y.k)).setCell ⟨X, 2, none⟩ (.int .i64 y.v)) X y := by
  obtain ⟨h1, h2, h3, h4, h5⟩ := h
  have a0 : (w.setCell ⟨X, 0, none⟩ (.string y.n)).cell? ⟨X, 0, none⟩ = some (.string y.n) := World.cell?_setCell_same _ _ _ h2
  have a1 : (w.setCell ⟨X, 0, none⟩ (.string y.n)).cell? ⟨X, 1, none⟩ = some (.int .i64 x.k) := by rw [World.cell?_setCell_other _ _ _ _ (by simp)]; exact h3
  have a2 : (w.setCell ⟨X, 0, none⟩ (.string y.n)).cell? ⟨X, 2, none⟩ = some (.int .i64 x.v) := by rw [World.cell?_setCell_other _ _ _ _ (by simp)]; exact h4
  have b1 := World.cell?_setCell_same _ _ (.int .i64 y.k) a1
  refine ⟨by simpa [World.setCell] using h1, ?_, ?_, ?_, fun o => by simp only [World.frozen?_setCell]; exact h5 o⟩
  · rw [World.cell?_setCell_other _ _ _ _ (by simp), World.cell?_setCell_other _ _ _ _ (by simp)]; exact a0
  · rw [World.cell?_setCell_other _ _ _ _ (by simp)]; exact b1
  · have a3 : ((w.setCell ⟨X, 0, none⟩ (.string y.n)).setCell ⟨X, 1, none⟩ (.int .i64 y.k)).cell? ⟨X, 2, none⟩ = some (.int .i64 x.v) := by rw [World.cell?_setCell_other _ _ _ _ (by simp)]; exact a2
    exact World.cell?_setCell_same _ _ _ a3
end Go.Proofs.Ytfbibbjiomfncaa
