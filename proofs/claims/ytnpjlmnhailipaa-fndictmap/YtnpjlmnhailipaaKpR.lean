import Derived.Test.YtnpjlmnhailipaaKpN
namespace Go.Proofs.Ytnpjlmnhailipaa
open Go.RowKit Go.Maps
set_option linter.unusedVariables false
set_option linter.unusedSimpArgs false

/-- The last of the first n places that is called so, or -1. -/
def atK (L : List Op) (h k : Int) : Nat → Int
  | 0 => -1
  | j + 1 => if (L.getD j ⟨0, 0, 0, 0⟩).h = h ∧ (L.getD j ⟨0, 0, 0, 0⟩).k = k then (j : Int) else atK L h k j
theorem atK_succ (L : List Op) (h k : Int) (j : Nat) (hj : j < L.length) : atK L h k (j + 1) = if L[j].h = h ∧ L[j].k = k then (j : Int) else atK L h k j := by
  simp [atK, List.getD, hj]
theorem atK_range (L : List Op) (h k : Int) : ∀ n, -1 ≤ atK L h k n ∧ atK L h k n < n
  | 0 => by simp [atK]
  | j + 1 => by
    have := atK_range L h k j
    simp only [atK]
    split <;> constructor <;> push_cast <;> omega
theorem atK_none (L : List Op) (h k : Int) (hn : ∀ p (hp : p < L.length), ¬ (L[p].h = h ∧ L[p].k = k)) : ∀ n, n ≤ L.length → atK L h k n = -1
  | 0, _ => rfl
  | j + 1, hj => by rw [atK_succ L h k j (by omega), if_neg (hn j (by omega))]; exact atK_none L h k hn j (by omega)
theorem atK_one (L : List Op) (h k : Int) (p : Nat) (hp : p < L.length) (hm : L[p].h = h ∧ L[p].k = k) (hone : ∀ q (hq : q < L.length), L[q].h = h ∧ L[q].k = k → q = p) : ∀ n, p < n → n ≤ L.length → atK L h k n = p
  | 0, h0, _ => by omega
  | j + 1, h0, hj => by
    rw [atK_succ L h k j (by omega)]
    by_cases e : j = p
    · subst e; rw [if_pos hm]
    · rw [if_neg fun hc => e (hone j (by omega) hc)]
      exact atK_one L h k p hp hm hone j (by omega) (by omega)

/-- What an operation makes of the plain list. -/
def nextL (L : List Op) (o : Op) : List Op :=
  if o.c = 1 then (if 0 ≤ atK L o.h o.k L.length then L.set (atK L o.h o.k L.length).toNat { L.getD (atK L o.h o.k L.length).toNat ⟨0, 0, 0, 0⟩ with v := o.v } else L ++ [o])
  else if o.c = 3 then (if 0 ≤ atK L o.h o.k L.length then L.eraseIdx (atK L o.h o.k L.length).toNat else L)
  else L

/-- The search and the plain list's place. -/
theorem Sim.place {d : Dt} {L : List Op} (hS : Sim d L) (hok : OkD d) (ho : ∀ e ∈ d.e, shE.ok e) (o : Op) (hoo : shO.ok o) :
    (atK L o.h o.k L.length = -1 ∧ (fnd d o.h o.k).1 = -1) ∨
    (∃ (p : Nat) (hp : p < L.length) (hl : (fnd d o.h o.k).1.toNat < d.e.length), atK L o.h o.k L.length = (p : Int) ∧ 0 ≤ (fnd d o.h o.k).1 ∧ L[p].h = o.h ∧ L[p].k = o.k ∧ L[p].v = d.e[(fnd d o.h o.k).1.toNat].v ∧
      (∀ x : En, x.g = false → liv (d.e.set (fnd d o.h o.k).1.toNat x) = (liv d.e).set p x) ∧ (∀ x : En, x.g = true → liv (d.e.set (fnd d o.h o.k).1.toNat x) = (liv d.e).eraseIdx p)) := by
  rcases hS.find hok ho o.h o.k hoo.2.1.1 hoo.2.1.2 with ⟨h1, h2⟩ | ⟨h0, hl, p, hp, hg, hh, hk, hv, s1, s2⟩
  · exact .inl ⟨atK_none L o.h o.k h2 _ (Nat.le_refl _), h1⟩
  · exact .inr ⟨p, hp, hl, atK_one L o.h o.k p hp ⟨hh, hk⟩ (fun q hq hm => hS.one hok hq hp (by rw [hm.1, hh]) (by rw [hm.2, hk])) _ hp (Nat.le_refl _), h0, hh, hk, hv, s1, s2⟩

theorem Sim.step {d : Dt} {L : List Op} (hS : Sim d L) (hok : OkD d) (ho : ∀ e ∈ d.e, shE.ok e) (o : Op) (hoo : shO.ok o) (hl : livN d.e ≤ 21000) :
    Sim (runD d o).1 (nextL L o) ∧
    (o.c = 1 → (runD d o).2 = 1) ∧
    (o.c = 2 → (runD d o).2 = if 0 ≤ atK L o.h o.k L.length then (L.getD (atK L o.h o.k L.length).toNat ⟨0, 0, 0, 0⟩).v else -1) ∧
    (o.c = 3 → (runD d o).2 = if 0 ≤ atK L o.h o.k L.length then 1 else 0) ∧
    (o.c = 4 → 1 ≤ (runD d o).2) ∧ (o.c = 5 → 8 ≤ (runD d o).2) ∧
    (o.c ≠ 1 → o.c ≠ 2 → o.c ≠ 3 → o.c ≠ 4 → o.c ≠ 5 → (runD d o).2 = -2) := by
  obtain ⟨c, h, k, v⟩ := o
  have hpl := hS.place hok ho ⟨c, h, k, v⟩ hoo
  simp only at hpl ⊢
  have h5 : (8 : Int) ≤ (d.s.length : Int) := by
    obtain ⟨m, hm3, hm, ht⟩ := hok.1
    have : 2 ^ 3 ≤ 2 ^ m := Nat.pow_le_pow_right (by decide) hm3
    omega
  have h4 : 1 ≤ (fnd d h k).2 := by unfold fnd; simp only; omega
  have G : ∀ X : Prop, (c = 1 → X) → (c = 2 → X) → (c = 3 → X) → (c = 4 → X) → (c = 5 → X) → (c ≠ 1 → c ≠ 2 → c ≠ 3 → c ≠ 4 → c ≠ 5 → X) → X := fun X a1 a2 a3 a4 a5 a6 => by
    by_cases e1 : c = 1
    · exact a1 e1
    by_cases e2 : c = 2
    · exact a2 e2
    by_cases e3 : c = 3
    · exact a3 e3
    by_cases e4 : c = 4
    · exact a4 e4
    by_cases e5 : c = 5
    · exact a5 e5
    · exact a6 e1 e2 e3 e4 e5
  apply G
  · rintro rfl
    rcases hpl with ⟨e1, e2⟩ | ⟨p, hp, hle, e1, e2, hh, hk, hv, s1, s2⟩
    · obtain ⟨q1, q2⟩ := hS.putNew hl ⟨1, h, k, v⟩ e2
      simp [runD, nextL, e1] at q1 q2 ⊢
      exact ⟨q1, q2⟩
    · obtain ⟨q1, q2⟩ := hS.putOne v e2 hp hh hk s1 L[p].c
      have hp0 : (0 : Int) ≤ (p : Int) := by omega
      simp [runD, nextL, e1, hp, hp0, hh, hk, List.getD] at q1 q2 ⊢
      exact ⟨q1, q2⟩
  · rintro rfl
    rcases hpl with ⟨e1, e2⟩ | ⟨p, hp, hle, e1, e2, hh, hk, hv, s1, s2⟩
    · simp [runD, nextL, e1, e2]; exact hS
    · have hp0 : (0 : Int) ≤ (p : Int) := by omega
      simp [runD, nextL, e1, e2, hp, hp0, List.getD, hle, hv]; exact hS
  · rintro rfl
    rcases hpl with ⟨e1, e2⟩ | ⟨p, hp, hle, e1, e2, hh, hk, hv, s1, s2⟩
    · obtain ⟨q1, q2⟩ := hS.cutNone e2
      simp [runD, nextL, e1, q2]; exact q1
    · obtain ⟨q1, q2⟩ := hS.cutOne e2 hp s2
      have hp0 : (0 : Int) ≤ (p : Int) := by omega
      simp [runD, nextL, e1, q2, hp0]; exact q1
  · rintro rfl
    simp [runD, nextL]; exact ⟨hS, h4⟩
  · rintro rfl
    simp [runD, nextL]; exact ⟨hS, by omega⟩
  · intro a1 a2 a3 a4 a5
    simp [runD, nextL, a1, a2, a3, a4, a5]; exact hS

theorem nextL_len (L : List Op) (o : Op) : (nextL L o).length ≤ L.length + 1 := by
  unfold nextL
  split
  · split <;> simp
  · split
    · split
      · rw [List.length_eraseIdx]; split <;> omega
      · omega
    · omega
theorem Sim.live {d : Dt} {L : List Op} (hS : Sim d L) : livN d.e = L.length := by
  rw [hS.len]; unfold livN liv; rw [List.countP_eq_length_filter]
theorem run_eok {d : Dt} (ho : ∀ e ∈ d.e, shE.ok e) (o : Op) (hoo : shO.ok o) : ∀ e ∈ (runD d o).1.e, shE.ok e := by
  unfold runD
  split
  · exact putD_ok ho _ _ _ ⟨hoo.2.1, hoo.2.2.1, hoo.2.2.2⟩
  · split
    · exact ho
    · split
      · unfold cutD
        split
        · exact ho
        · intro e he
          rcases List.mem_or_eq_of_mem_set he with h1 | rfl
          · exact ho e h1
          · exact ⟨hoo.2.1, ⟨(by decide : (-9223372036854775808 : Int) ≤ 0), (by decide : (0 : Int) < 9223372036854775808)⟩, ⟨(by decide : (-9223372036854775808 : Int) ≤ 0), (by decide : (0 : Int) < 9223372036854775808)⟩⟩
      · split
        · exact ho
        · split
          · exact ho
          · exact ho
theorem outK_get (ops : List Op) (n k : Nat) (hk : k < n) (hl : k < ops.length) : (outK ops n).getD k 0 = (runD (stK ops k) ops[k]).2 := by
  simp [outK, List.getD, hk, hl]
theorem nextL_c {L : List Op} {o : Op} (h1 : o.c ≠ 1) (h3 : o.c ≠ 3) : nextL L o = L := by unfold nextL; rw [if_neg h1, if_neg h3]
end Go.Proofs.Ytnpjlmnhailipaa
