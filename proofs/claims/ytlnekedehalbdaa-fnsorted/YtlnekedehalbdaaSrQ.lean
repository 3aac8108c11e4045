import Derived.Test.YtlnekedehalbdaaSrP
namespace Go.Proofs.Ytlnekedehalbdaa
open Go.RowKit
set_option linter.unusedVariables false
set_option linter.unusedSimpArgs false

theorem ask_len (t : Tl) (s : St) (a b : Int) : s.h.length ≤ (ask t s a b).2.h.length ∧ (ask t s a b).2.h.length ≤ s.h.length + 1 := by
  unfold ask
  split
  · simp
  · split <;> simp
theorem upTo_asks (t : Tl) (d : Bool) : ∀ (l : List Int) (p : Int) (s : St), (upTo t d p l s).2.h.length ≤ s.h.length + (upTo t d p l s).1 + 1
  | [], _, s => by simp [upTo]
  | x :: r, p, s => by
    simp only [upTo]
    have h1 := (ask_len t s x p).2
    split
    · have := upTo_asks t d r x (ask t s x p).2; simp only; omega
    · simp only; omega
theorem bis_asks (t : Tl) (x : Int) (l : List Int) : ∀ (f lo hi : Nat) (s : St), (bis t x l f lo hi s).2.h.length ≤ s.h.length + (hi - lo)
  | 0, lo, hi, s => by simp [bis]
  | f + 1, lo, hi, s => by
    simp only [bis]
    have h1 := (ask_len t s x (l.getD ((lo + hi) / 2) 0)).2
    split
    · split
      · have := bis_asks t x l f lo ((lo + hi) / 2) (ask t s x (l.getD ((lo + hi) / 2) 0)).2; omega
      · have := bis_asks t x l f ((lo + hi) / 2 + 1) hi (ask t s x (l.getD ((lo + hi) / 2) 0)).2; omega
    · simp
theorem putS_asks (t : Tl) (x : Int) (l : List Int) (s : St) : (putS t x l s).2.h.length ≤ s.h.length + l.length := by
  have := bis_asks t x l l.length 0 l.length s; simp only [putS]; omega
theorem fillS_asks (t : Tl) : ∀ (r run : List Int) (s : St), (fillS t run r s).2.2.h.length + 6 * (fillS t run r s).2.1.length ≤ s.h.length + 6 * r.length
  | [], run, s => by simp [fillS]
  | x :: r, run, s => by
    simp only [fillS]
    split
    · rename_i h
      have h1 := putS_asks t x run s
      have := fillS_asks t r (putS t x run s).1 (putS t x run s).2
      simp only [List.length_cons]; omega
    · simp
theorem runN_asks (t : Tl) : ∀ (l : List Int) (s : St), (runN t l s).2.2.h.length ≤ s.h.length + (runN t l s).1
  | [], s => by simp [runN]
  | [_], s => by simp [runN]
  | x :: y :: r, s => by
    have h1 := (ask_len t s y x).2
    have := upTo_asks t (ask t s y x).1 r y (ask t s y x).2
    simp only [runN]; omega
theorem oneS_asks (t : Tl) (l : List Int) (s : St) : (oneS t l s).2.2.h.length + 6 * (oneS t l s).2.1.length ≤ s.h.length + 6 * l.length := by
  have h1 := runN_asks t l s
  have h2 := runN_le t l s
  have h3 := fillS_asks t (l.drop (runN t l s).1) (if (runN t l s).2.1 then (l.take (runN t l s).1).reverse else l.take (runN t l s).1) (runN t l s).2.2
  rw [List.length_drop] at h3
  unfold oneS
  omega
theorem oneS_len (t : Tl) (l : List Int) (s : St) : (oneS t l s).1.length + (oneS t l s).2.1.length = l.length := by
  have h2 := runN_le t l s
  have h3 := (fillS_le t (l.drop (runN t l s).1) (if (runN t l s).2.1 then (l.take (runN t l s).1).reverse else l.take (runN t l s).1) (runN t l s).2.2).2
  unfold oneS
  rw [h3]
  split <;> simp <;> omega
theorem runsS_asks (t : Tl) : ∀ (f : Nat) (l : List Int) (s : St), (runsS t f l s).2.h.length ≤ s.h.length + 6 * l.length
  | 0, _, s => by simp [runsS]
  | f + 1, l, s => by
    simp only [runsS]
    split
    · simp
    · have h1 := oneS_asks t l s
      have := runsS_asks t f (oneS t l s).2.1 (oneS t l s).2.2
      simp only; omega
/-- How many things there are in all. -/
def tot (rs : List (List Int)) : Nat := (rs.map List.length).sum
theorem runsS_tot (t : Tl) : ∀ (f : Nat) (l : List Int) (s : St), l.length ≤ f → tot (runsS t f l s).1 = l.length
  | 0, l, s, h => by simp [runsS, tot]; omega
  | f + 1, l, s, h => by
    simp only [runsS]
    split
    · rename_i e; subst e; simp [tot]
    · rename_i hl
      have h1 := oneS_len t l s
      have h2 := oneS_lt t l s (List.length_pos_iff.mpr hl)
      have := runsS_tot t f (oneS t l s).2.1 (oneS t l s).2.2 (by omega)
      simp only [tot, List.map_cons, List.sum_cons] at this ⊢; omega
theorem oneS_pos (t : Tl) (l : List Int) (s : St) (h : 0 < l.length) : 0 < (oneS t l s).1.length := by
  have h1 := oneS_len t l s
  have h2 := oneS_lt t l s h
  omega
theorem runsS_count (t : Tl) : ∀ (f : Nat) (l : List Int) (s : St), (runsS t f l s).1.length ≤ l.length
  | 0, l, s => by simp [runsS]
  | f + 1, l, s => by
    simp only [runsS]
    split
    · simp
    · rename_i hl
      have h2 := oneS_lt t l s (List.length_pos_iff.mpr hl)
      have := runsS_count t f (oneS t l s).2.1 (oneS t l s).2.2
      simp only [List.length_cons]; omega
theorem mrgS_asks (t : Tl) : ∀ (f : Nat) (a b : List Int) (s : St), (mrgS t f a b s).2.h.length ≤ s.h.length + a.length + b.length
  | 0, a, b, s => by simp [mrgS]; omega
  | _ + 1, [], b, s => by simp [mrgS]
  | _ + 1, x :: a, [], s => by simp [mrgS]
  | f + 1, x :: a, y :: b, s => by
    simp only [mrgS]
    have h1 := (ask_len t s y x).2
    split
    · have := mrgS_asks t f (x :: a) b (ask t s y x).2; simp only [List.length_cons] at this ⊢; omega
    · have := mrgS_asks t f a (y :: b) (ask t s y x).2; simp only [List.length_cons] at this ⊢; omega
theorem mrg2_nilL (t : Tl) (b : List Int) (s : St) : mrg2 t [] b s = (b, s) := by
  unfold mrg2
  cases b <;> simp [mrgS]
theorem mrg2_nilR (t : Tl) (a : List Int) (s : St) : mrg2 t a [] s = (a, s) := by
  unfold mrg2
  cases a <;> simp [mrgS]
theorem mrg2_step (t : Tl) (x y : Int) (a b : List Int) (s : St) : mrg2 t (x :: a) (y :: b) s = if (ask t s y x).1 then (y :: (mrg2 t (x :: a) b (ask t s y x).2).1, (mrg2 t (x :: a) b (ask t s y x).2).2) else (x :: (mrg2 t a (y :: b) (ask t s y x).2).1, (mrg2 t a (y :: b) (ask t s y x).2).2) := by
  unfold mrg2
  have e : (x :: a).length + (y :: b).length = (a.length + b.length + 1) + 1 := by simp; omega
  have e1 : (x :: a).length + b.length = a.length + b.length + 1 := by simp; omega
  have e2 : a.length + (y :: b).length = a.length + b.length + 1 := by simp; omega
  rw [e, e1, e2]
  rfl
theorem mrg2_stuck (t : Tl) : ∀ (a b : List Int) (s : St), s.k = true → mrg2 t a b s = (a ++ b, s)
  | [], b, s, _ => by rw [mrg2_nilL]; rfl
  | x :: a, [], s, _ => by rw [mrg2_nilR]; simp
  | x :: a, y :: b, s, h => by
    rw [mrg2_step, ask_stuck h]
    simp only [Bool.false_eq_true, if_false]
    rw [mrg2_stuck t a (y :: b) s h]
    rfl
theorem mrg2_asks (t : Tl) (a b : List Int) (s : St) : (mrg2 t a b s).2.h.length ≤ s.h.length + a.length + b.length := mrgS_asks t _ a b s
theorem mrg2_len (t : Tl) (a b : List Int) (s : St) : (mrg2 t a b s).1.length = a.length + b.length := mrgS_len t _ a b s
theorem pairS_asks (t : Tl) : ∀ (rs : List (List Int)) (s : St), (pairS t rs s).2.h.length ≤ s.h.length + tot rs
  | [], s => by simp [pairS]
  | [_], s => by simp [pairS]
  | a :: b :: r, s => by
    simp only [pairS]
    have h1 := mrg2_asks t a b s
    have := pairS_asks t r (mrg2 t a b s).2
    simp only [tot, List.map_cons, List.sum_cons] at this ⊢; omega
theorem pairS_tot (t : Tl) : ∀ (rs : List (List Int)) (s : St), tot (pairS t rs s).1 = tot rs
  | [], s => by simp [pairS]
  | [_], s => by simp [pairS]
  | a :: b :: r, s => by
    have h1 := mrg2_len t a b s
    have := pairS_tot t r (mrg2 t a b s).2
    simp only [pairS, tot, List.map_cons, List.sum_cons] at this ⊢; omega
theorem allS_asks (t : Tl) : ∀ (k f : Nat) (rs : List (List Int)) (s : St), rs.length ≤ 2 ^ k → (allS t f rs s).2.h.length ≤ s.h.length + k * tot rs
  | _, 0, rs, s, _ => by simp [allS]
  | 0, f + 1, rs, s, h => by simp at h; simp [allS, h]
  | k + 1, f + 1, rs, s, h => by
    simp only [allS]
    split
    · simp
    · have h1 := pairS_len t rs s
      have h2 := pairS_asks t rs s
      have h3 := pairS_tot t rs s
      have := allS_asks t k f (pairS t rs s).1 (pairS t rs s).2 (by rw [h1]; rw [Nat.pow_succ] at h; omega)
      rw [h3] at this
      rw [Nat.add_mul]; omega
/-- What is in the runs comes from what was there. -/
theorem mrgS_mem (t : Tl) : ∀ (f : Nat) (a b : List Int) (s : St) (z : Int), z ∈ (mrgS t f a b s).1 → z ∈ a ∨ z ∈ b
  | 0, a, b, s, z => by simp [mrgS]
  | _ + 1, [], b, s, z => by simp [mrgS]
  | _ + 1, x :: a, [], s, z => by simp [mrgS]
  | f + 1, x :: a, y :: b, s, z => by
    simp only [mrgS]
    split
    · intro h
      rcases List.mem_cons.mp h with h | h
      · right; simp [h]
      · rcases mrgS_mem t f (x :: a) b _ z h with h | h
        · exact .inl h
        · right; simp [h]
    · intro h
      rcases List.mem_cons.mp h with h | h
      · left; simp [h]
      · rcases mrgS_mem t f a (y :: b) _ z h with h | h
        · left; simp [h]
        · exact .inr h
theorem mrg2_in (t : Tl) {n : Int} {a b : List Int} (s : St) (ha : ∀ y ∈ a, 0 ≤ y ∧ y < n) (hb : ∀ y ∈ b, 0 ≤ y ∧ y < n) : ∀ y ∈ (mrg2 t a b s).1, 0 ≤ y ∧ y < n := fun z hz => (mrgS_mem t _ a b s z hz).elim (ha z) (hb z)
theorem pairS_in (t : Tl) {n : Int} : ∀ (rs : List (List Int)) (s : St), (∀ l ∈ rs, ∀ y ∈ l, 0 ≤ y ∧ y < n) → ∀ l ∈ (pairS t rs s).1, ∀ y ∈ l, 0 ≤ y ∧ y < n
  | [], s, h => by simp [pairS]
  | [a], s, h => by simpa [pairS] using h
  | a :: b :: r, s, h => by
    intro l hl
    simp only [pairS, List.mem_cons] at hl
    rcases hl with rfl | hl
    · exact mrg2_in t s (h a (by simp)) (h b (by simp))
    · exact pairS_in t r _ (fun l hl => h l (by simp [hl])) l hl
end Go.Proofs.Ytlnekedehalbdaa
