import Derived.Test.YtlnekedehalbdaaSrS
import Derived.Test.YtlnekedehalbdaaHelpZ
namespace Go.Proofs.Ytlnekedehalbdaa
open Go.RowKit
set_option linter.unusedVariables false
set_option linter.unusedSimpArgs false

/-- What is no row of what was asked, and not the sorter, stays. -/
def Off (w w' : World) (X : Nat) : Prop := w.heap.size ≤ w'.heap.size ∧ ∀ j, j < w.heap.size → j ≠ X → (∀ cur p, w.heap[j]? ≠ some (.cells cur 43 p)) → w'.heap[j]? = w.heap[j]?
theorem Off.refl (w : World) (X : Nat) : Off w w X := ⟨Nat.le_refl _, fun _ _ _ _ => rfl⟩
theorem Off.trans {a b c : World} {X : Nat} (h : Off a b X) (k : Off b c X) : Off a c X := ⟨Nat.le_trans h.1 k.1, fun j hj hX hn => by
  have e := h.2 j hj hX hn
  exact (k.2 j (Nat.lt_of_lt_of_le hj h.1) hX (by rw [e]; exact hn)).trans e⟩
theorem Off.below {w w' : World} {X : Nat} (h : Below w.heap.size w w') : Off w w' X := ⟨h.size, fun j hj _ _ => h.block j hj⟩
theorem Off.gb {w w' : World} {X : Nat} {row : Option Nat} (hg : w.grownBy w' row) (hr : ∀ q, row = some q → ∃ cur p, w.heap[q]? = some (.cells cur 43 p)) : Off w w' X := ⟨hg.size, fun j hj _ hn => hg.block j hj (fun e => by obtain ⟨cur, p, h⟩ := hr j e.symm; exact hn cur p h)⟩
theorem Off.set (w : World) (X o : Nat) (u : Value) : Off w (w.setCell ⟨X, o, none⟩ u) X := ⟨by simp [World.setCell], fun j hj hX _ => (gb_set w X o u).block j hj (fun e => hX (by simpa using e))⟩
theorem own_ask {w : World} {B : Nat} {v : Value} {h : List (Int × Int)} (hO : OwnG shQ 43 w B v h) : ∀ q, v.ownBlock = some q → ∃ cur p, w.heap[q]? = some (.cells cur 43 p) := by
  intro q hq
  rcases hO.1.2 with h2 | ⟨g', cap, cur, e, hg, hh, r⟩
  · rw [h2.1] at hq; cases hq
  · rw [e] at hq
    simp [Value.ownBlock] at hq
    subst hq
    exact ⟨cur, _, hh⟩

theorem ask_ne {w : World} {B X : Nat} {T : TypeId} {v : Value} {h : List (Int × Int)} (hO : OwnG shQ 43 w B v h) (hT : ∃ cur p, w.heap[X]? = some (.cells cur T p)) (hne : T ≠ 43) : v.ownBlock = none ∨ v.ownBlock ≠ some X := by
  right; intro e
  obtain ⟨c1, p1, k1⟩ := own_ask hO X e
  obtain ⟨c2, p2, k2⟩ := hT
  rw [k1] at k2
  simp only [Option.some.injEq, Obj.cells.injEq] at k2
  exact hne k2.2.1.symm
theorem Bx5.ne {w : World} {B X : Nat} {ks an aq : Value} {ov k : Bool} {v : Value} {h : List (Int × Int)} (hB : Bx5 w X ks ov an aq k) (hO : OwnG shQ 43 w B v h) : v.ownBlock = none ∨ v.ownBlock ≠ some X := ask_ne hO hB.ty (by decide)
theorem Bx5.ne' {w : World} {B X : Nat} {ks an aq : Value} {ov k : Bool} {v : Value} {h : List (Int × Int)} (hB : Bx5 w X ks ov an aq k) (hO : OwnG shQ 43 w B v h) : some X ≠ v.ownBlock := fun e => by
  rcases hB.ne hO with h | h
  · rw [h] at e; cases e
  · exact h e.symm
set_option maxRecDepth 100000 in
set_option maxHeartbeats 1000000 in
theorem lessK_any (w0 w : World) (X : Nat) (ks an : Value) (keys : List Int) (s : St) (a b : Nat) (hS : SS w0 w X true ks an s) (hk : Rd w0 ks keys) (ha : a < keys.length) (hb : b < keys.length) (hl : s.h.length < 1000000) :
    Calls Try.prog 40 #[.pointer (some ⟨X, 0, none⟩), .int .i64 a, .int .i64 b] w fun e w' => e = .returned (.bool (ask (tellK keys) s a b).1) ∧ SS w0 w' X true ks an (ask (tellK keys) s a b).2 ∧ Off w w' X := by
  obtain ⟨hX0, aq, hBx, hA, hB⟩ := hS
  have hkm : keys.length ≤ 16777216 := by obtain ⟨_, _, _, h, _⟩ := hk; exact h
  obtain ⟨h1, h2, h3, h4, h5, h6, h7, -⟩ := id hBx
  have f3 := h7 3
  have f4 := h7 4
  obtain ⟨qa, qc, eq⟩ := hA.form
  subst eq
  obtain ⟨ka, kc, rfl, -, -, -, hkc⟩ := hk
  obtain ⟨kb, ko, rfl, hkb, hcell⟩ := hkc (by omega)
  have g1 := hcell a ha
  have g2 := hcell b hb
  obtain ⟨KA, hKA⟩ : ∃ KA, keys.getD a 0 = KA := ⟨_, rfl⟩
  obtain ⟨KB, hKB⟩ : ∃ KB, keys.getD b 0 = KB := ⟨_, rfl⟩
  rw [hKA] at g1
  rw [hKB] at g2
  clear hkc hcell
  cases hsk : s.k
  · rw [hsk] at h6 hBx
    have hask : ask (tellK keys) s a b = (decide (KA < KB), ⟨s.h ++ [((a : Int), (b : Int))], false⟩) := by
      rw [ask_told hsk (r := decide (KA < KB)) (by rw [← hKA, ← hKB]; simp [tellK])]
    rw [hask]
    clear hask hKA hKB
    have hAl : Below w.heap.size w (w.alloc (.cells #[.int .i64 (a : Int), .int .i64 (b : Int)] 43)) := (Below.refl _ w).alloc (Nat.le_refl _) _
    have hB1 := hBx.keep hAl
    have hA1 := hA.keep hAl
    have hE1 : ∀ j, j < shQ.n → (w.alloc (.cells #[.int .i64 (a : Int), .int .i64 (b : Int)] 43)).cell? ⟨w.heap.size, j, none⟩ = (shQ.cs ((a : Int), (b : Int)))[j]? := by
      intro j hj
      rw [World.cell?_alloc_at _ _ _ _ rfl]
      have : j = 0 ∨ j = 1 := by simp [shQ] at hj; omega
      rcases this with rfl | rfl <;> rfl
    have hok : shQ.ok ((a : Int), (b : Int)) := by show (_ ∧ _) ∧ _; simp only; omega
    go_enter Try.func40, Try.ntmps40
    go_wp2_with (at_builtin; refine wpList_append_one Try.info43 rfl (by decide) rfl _ _ 30 rfl Try.underlying30 w0.heap.size _ s.h ((a : Int), (b : Int)) hok w.heap.size 1 rfl rfl hA1 hE1 (by omega) (by have := hB.size; simp; omega) ?_; intro a' c' w' hO hg; have hB2 := hB1.but hg (hB1.ne' hA1); obtain ⟨i1, i2, i3, i4, i5, i6, i7, -⟩ := id hB2; have j3 := i7 3; have j4 := i7 4)
    have hOf : Off w (w'.setCell ⟨X, 3, none⟩ (.slice a' (s.h.length + 1) c')) X := ((Off.below hAl).trans (Off.gb hg (own_ask hA1))).trans (Off.set w' X 3 _)
    have hB3 := hB2.set3 (.slice a' (s.h.length + 1) c')
    have V1 : Below w0.heap.size w0 (w.alloc (.cells #[.int .i64 (a : Int), .int .i64 (b : Int)] 43)) := hB.alloc hB.size _
    have V2 : Below w0.heap.size w0 w' := V1.trans (gb_to hg (fun q hq => (hA1.lt _ hq).1) (by have := hB.size; simp; omega))
    have V3 : Below w0.heap.size w0 (w'.setCell ⟨X, 3, none⟩ (.slice a' (s.h.length + 1) c')) := V2.setCell hX0 _
    have hkX : kb < w0.heap.size := hkb
    have hkY : kb < X := Nat.lt_of_lt_of_le hkb hX0
    have O3 : OwnG shQ 43 (w'.setCell ⟨X, 3, none⟩ (.slice a' (s.h.length + 1) c')) w0.heap.size (.slice a' (s.h.length + 1) c') (s.h ++ [((a : Int), (b : Int))]) := by
      have := hO.but (gb_set w' X 3 (.slice a' (s.h.length + 1) c')) (hB2.ne hO)
      simpa using this
    have e1 := (V3.cell (p := ⟨kb, ko + a, none⟩) hkX).trans g1
    have e2 := (V3.cell (p := ⟨kb, ko + b, none⟩) hkX).trans g2
    have e0 := hB3.c0
    generalize w'.setCell ⟨X, 3, none⟩ (.slice a' (s.h.length + 1) c') = W3 at *
    have ha' : (a : Int) < (keys.length : Int) := by omega
    have hb' : (b : Int) < (keys.length : Int) := by omega
    go_region_held3 (fun W => W.cell? ⟨X, 0, none⟩ = some (.slice (some ⟨kb, ko, none⟩) keys.length kc) ∧ W.cell? ⟨kb, ko + a, none⟩ = some (.int .i64 KA) ∧ W.cell? ⟨kb, ko + b, none⟩ = some (.int .i64 KB)) (go_keep) (fail)
    all_goals
      go_wp2
      go_ret
      exact ⟨rfl, ⟨hX0, _, hB3.keep (Below.refl _ _).drew, O3.drew, V3.drew⟩, hOf.trans (Off.below (Below.refl _ _).drew)⟩
  · have hask := ask_stuck (t := tellK keys) hsk (a : Int) (b : Int)
    rw [hask]
    rw [hsk] at h6
    go_enter Try.func40, Try.ntmps40
    go_wp2_with fail
    go_ret
    exact ⟨rfl, ⟨hX0, _, hBx, hA, hB⟩, Off.refl _ _⟩
end Go.Proofs.Ytlnekedehalbdaa
