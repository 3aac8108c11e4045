import Derived.Test.YtfbibbjiomfncaaBaseG
import Derived.Test.YtfbibbjiomfncaaHelpZ
import Derived.Deep.RegionHeld3
namespace Go.Proofs.Ytfbibbjiomfncaa
open Go.RowKit
set_option linter.unusedVariables false
set_option linter.unusedSimpArgs false

/-- An attribute: its name, kind, value. -/
structure At where
  n : ByteArray
  k : Int
  v : Int
  deriving DecidableEq

def At.ok (e : At) : Prop := e.n.size ≤ maxLen ∧ (-9223372036854775808 ≤ e.k ∧ e.k < 9223372036854775808) ∧ (-9223372036854775808 ≤ e.v ∧ e.v < 9223372036854775808)
def At.cs (e : At) : List Value := [.string e.n, .int .i64 e.k, .int .i64 e.v]
def At.val (e : At) : Value := .agg #[.string e.n, .int .i64 e.k, .int .i64 e.v]
def shA : Sh At := ⟨3, by decide, At.cs, At.ok, fun _ => rfl, fun a u hu => by simp [At.cs] at hu; rcases hu with rfl | rfl | rfl <;> rfl⟩
abbrev RdA := RdG shA
abbrev OwnA := OwnG shA 58

/-- Two slices side by side. -/
structure Sp where
  a1 : Option Addr
  n1 : Nat
  c1 : Nat
  a2 : Option Addr
  n2 : Nat
  c2 : Nat
def Sp.s1 (p : Sp) : Value := .slice p.a1 p.n1 p.c1
def Sp.s2 (p : Sp) : Value := .slice p.a2 p.n2 p.c2
def shP : Sh Sp := ⟨2, by decide, fun p => [p.s1, p.s2], fun _ => True, fun _ => rfl, fun a u hu => by simp [Sp.s1, Sp.s2] at hu; rcases hu with rfl | rfl <;> rfl⟩

/-- A class: its bases, its attributes. -/
structure Cl where
  b : List Int
  a : List At
  deriving DecidableEq

/-- What two slices read as. -/
def RdK (w : World) (p : Sp) (c : Cl) : Prop := Rd w p.s1 c.b ∧ RdA w p.s2 c.a
/-- The slice value v reads, in w, as the classes cs. -/
def RdC (w : World) (v : Value) (cs : List Cl) : Prop := ∃ ps : List Sp, RdG shP w v ps ∧ ps.length = cs.length ∧ ∀ k (h : k < ps.length) (h' : k < cs.length), RdK w ps[k] cs[k]
/-- The slice value v owns, in w, from block B on, the classes cs. -/
def OwnC (w : World) (B : Nat) (v : Value) (cs : List Cl) : Prop := ∃ ps : List Sp, OwnG shP 54 w B v ps ∧ ps.length = cs.length ∧ ∀ k (h : k < ps.length) (h' : k < cs.length), Own w (B + 1) ps[k].s1 cs[k].b ∧ OwnA w (B + 1) ps[k].s2 cs[k].a

theorem RdK.keep {w w' : World} {p : Sp} {c : Cl} (h : RdK w p c) (hb : Below w.heap.size w w') : RdK w' p c := ⟨h.1.keep hb, h.2.keep hb⟩
theorem RdC.keep {w w' : World} {v : Value} {cs : List Cl} (h : RdC w v cs) (hb : Below w.heap.size w w') : RdC w' v cs := by
  obtain ⟨ps, h1, h2, h3⟩ := h
  exact ⟨ps, h1.keep hb, h2, fun k h h' => (h3 k h h').keep hb⟩
theorem RdC.alloc {w : World} {v : Value} {cs : List Cl} (h : RdC w v cs) (o : Obj) : RdC (w.alloc o) v cs := h.keep ((Below.refl _ _).alloc (Nat.le_refl _) o)
theorem RdC.drew {w : World} {v : Value} {cs : List Cl} (h : RdC w v cs) : RdC w.drew v cs := h.keep (Below.refl _ _).drew
theorem RdC.form {w : World} {v : Value} {cs : List Cl} (h : RdC w v cs) : ∃ a c, v = .slice a cs.length c := by
  obtain ⟨ps, h1, h2, _⟩ := h
  rw [← h2]; exact h1.form
theorem OwnC.rd {w : World} {B : Nat} {v : Value} {cs : List Cl} (h : OwnC w B v cs) : RdC w v cs := by
  obtain ⟨ps, h1, h2, h3⟩ := h
  exact ⟨ps, h1.rd, h2, fun k h h' => ⟨(h3 k h h').1.rd, (h3 k h h').2.rd⟩⟩
theorem OwnC.keep {w w' : World} {B : Nat} {v : Value} {cs : List Cl} (h : OwnC w B v cs) (hb : Below w.heap.size w w') : OwnC w' B v cs := by
  obtain ⟨ps, h1, h2, h3⟩ := h
  exact ⟨ps, h1.keep hb, h2, fun k h h' => ⟨(h3 k h h').1.keep hb, (h3 k h h').2.keep hb⟩⟩

theorem Rd.form {w : World} {v : Value} {zs : List Int} (h : Rd w v zs) : ∃ a c, v = .slice a zs.length c := by obtain ⟨a, c, e, _⟩ := h; exact ⟨a, c, e⟩
theorem Rd.max {w : World} {v : Value} {zs : List Int} (h : Rd w v zs) : zs.length ≤ 16777216 := by obtain ⟨a, c, e, h, _⟩ := h; exact h
theorem RdG.max {α : Type} {S : Sh α} {w : World} {v : Value} {xs : List α} (h : RdG S w v xs) : xs.length ≤ 16777216 := by obtain ⟨a, c, e, h, _⟩ := h; exact h
theorem RdC.max {w : World} {v : Value} {cs : List Cl} (h : RdC w v cs) : cs.length ≤ 16777216 := by
  obtain ⟨ps, h1, h2, _⟩ := h
  rw [← h2]; exact h1.max

theorem RdA.at {w : World} {b off : Nat} {xs : List At} (hc : ∀ k (hk : k < xs.length) j, j < shA.n → w.cell? ⟨b, off + k * shA.n + j, none⟩ = (shA.cs xs[k])[j]?) (k : Nat) (hk : k < xs.length) :
    w.cell? ⟨b, off + k * 3, none⟩ = some (.string xs[k].n) ∧ w.cell? ⟨b, off + k * 3 + 1, none⟩ = some (.int .i64 xs[k].k) ∧ w.cell? ⟨b, off + k * 3 + 2, none⟩ = some (.int .i64 xs[k].v) :=
  ⟨hc k hk 0 (by decide), hc k hk 1 (by decide), hc k hk 2 (by decide)⟩
theorem RdP.at {w : World} {b off : Nat} {xs : List Sp} (hc : ∀ k (hk : k < xs.length) j, j < shP.n → w.cell? ⟨b, off + k * shP.n + j, none⟩ = (shP.cs xs[k])[j]?) (k : Nat) (hk : k < xs.length) :
    w.cell? ⟨b, off + k * 2, none⟩ = some xs[k].s1 ∧ w.cell? ⟨b, off + k * 2 + 1, none⟩ = some xs[k].s2 :=
  ⟨hc k hk 0 (by decide), hc k hk 1 (by decide)⟩

theorem Box.p0 {w : World} {b : Nat} {x y : Value} (h : Box w b x y) (u : Value) : Box (w.setCell ⟨b, 0, none⟩ u) b u y :=
  ⟨by simpa [World.setCell] using h.1, World.cell?_setCell_same _ _ _ h.2.1, by rw [World.cell?_setCell_other _ _ _ _ (by simp)]; exact h.2.2⟩
theorem Box.p1 {w : World} {b : Nat} {x y : Value} (h : Box w b x y) (u : Value) : Box (w.setCell ⟨b, 1, none⟩ u) b x u :=
  ⟨by simpa [World.setCell] using h.1, by rw [World.cell?_setCell_other _ _ _ _ (by simp)]; exact h.2.1, World.cell?_setCell_same _ _ _ h.2.2⟩
theorem Box.far {w : World} {b c o : Nat} {x y : Value} (h : Box w b x y) (hne : b ≠ c) (u : Value) : Box (w.setCell ⟨c, o, none⟩ u) b x y :=
  h.but (gb_set w c o u) (by simp; exact hne)

theorem str_ne {x y : ByteArray} (h : ¬ x = y) : (x.toList == y.toList) = false := by
  rw [beq_eq_false_iff_ne]
  intro e
  apply h
  rw [ByteArray.toList_eq, ByteArray.toList_eq] at e
  cases x; cases y
  simp only [ByteArray.mk.injEq]
  exact Array.toList_inj.mp e

/-- 'append(xs, e)' for one element of several cells. -/
theorem wpList_append_one {α : Type} {S : Sh α} {T : TypeId} {zv : Value} {by' : Nat} (hinfo : (Try.prog.info? T).map (fun i => (i.zero, i.size, i.bytes)) = some (some zv, S.n, by')) (hzc : zv.cells.size = S.n) (hby : by' ≤ 64)
    {w : World} {ops : Array Oper} {rest : List Oper} {o : Oper} {a : Act} {Q : Exit → Act → World → Prop} (hgd : o.guard = none) (s x : Operand) (t : TypeId)
    (ho : o.op = .call { callee := .builtin .append, args := #[s, x], argTypes := #[t, t] }) (ht : Try.prog.underlying t = some (.slice T)) (B : Nat) (v : Value) (xs : List α) (e : α) (he : S.ok e) (g c : Nat) (hs : a.eval s = v) (hx : a.eval x = .slice (some ⟨g, 0, none⟩) 1 c)
    (hown : OwnG S T w B v xs) (hc : ∀ j, j < S.n → w.cell? ⟨g, j, none⟩ = (S.cs e)[j]?) (hlen : xs.length + 1 ≤ 16777216) (hB : B ≤ w.heap.size)
    (h : ∀ a' c' w', OwnG S T w' B (.slice a' (xs ++ [e]).length c') (xs ++ [e]) → w.grownBy w' v.ownBlock → wpList Try.prog ops Q rest (a.put o.dst (.slice a' (xs ++ [e]).length c')) w') :
    wpList Try.prog ops Q (o :: rest) a w := by
  obtain ⟨i0, hi, hz0, hz1, hz2⟩ := info_parts hinfo
  refine wpList_append_own w hgd s x t ho B T i0 zv S.n by' ht hi hz0 hz1 hz2 hzc S.pos v _ _ hs hown.1 ⟨g, 0, none⟩ 1 c (S.cs e) hx (by rw [S.len]; omega) ?_ (fun u hu => S.one e u hu) (by unfold maxLen; omega) ?_ hB ?_
  · intro j u hj
    have hj' : j < S.n := by
      rcases Nat.lt_or_ge j S.n with h | h
      · exact h
      · rw [List.getElem?_eq_none (by rw [S.len]; exact h)] at hj; cases hj
    have e' : (⟨g, 0, none⟩ : Addr).add j = ⟨g, j, none⟩ := by unfold Addr.add; split <;> simp_all
    rw [e', hc j hj', hj]
  · have : (xs.length + 1) * by' ≤ (xs.length + 1) * 64 := Nat.mul_le_mul_left _ hby
    omega
  · intro v' w' h1 h2 _
    have hO : OwnG S T w' B v' (xs ++ [e]) := ⟨by simpa using h1, by simpa using hlen, fun y hy => by
      rcases List.mem_append.1 hy with h | h
      · exact hown.2.2 y h
      · simp at h; subst h; exact he⟩
    obtain ⟨a', c', rfl⟩ := hO.form
    exact h a' c' w' hO h2

/-- What a list that came in reads as, where it is not too great. -/
def Ub (w : World) (v : Value) (n : Nat) (R : Prop) : Prop := (∃ a cap, v = .slice a n cap) ∧ n ≤ 9223372036854775807 ∧ (n ≤ 1048576 → R)
def UbK (w : World) (p : Sp) (c : Cl) : Prop := Ub w p.s1 c.b.length (Rd w p.s1 c.b) ∧ Ub w p.s2 c.a.length (RdA w p.s2 c.a)
def UbC (w : World) (v : Value) (cs : List Cl) : Prop := Ub w v cs.length (∃ ps : List Sp, RdG shP w v ps ∧ ps.length = cs.length ∧ ∀ k (h : k < ps.length) (h' : k < cs.length), UbK w ps[k] cs[k])
end Go.Proofs.Ytfbibbjiomfncaa
