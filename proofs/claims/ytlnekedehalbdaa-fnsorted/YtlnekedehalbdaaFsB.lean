import Derived.Test.YtlnekedehalbdaaFsA
import Derived.Test.YtlnekedehalbdaaSrA
namespace Go.Proofs.Ytlnekedehalbdaa
open Go.RowKit
set_option linter.unusedVariables false
set_option linter.unusedSimpArgs false

def kv (K : List Int) (a : Int) : Int := K.getD a.toNat 0
/-- Ahead of: a lesser key, or the same one and an earlier place. -/
def Lt (K : List Int) (a b : Int) : Prop := kv K a < kv K b ∨ (kv K a = kv K b ∧ a < b)
theorem Lt.trans {K : List Int} {a b c : Int} (h : Lt K a b) (g : Lt K b c) : Lt K a c := by
  unfold Lt at *
  omega
theorem Lt.le {K : List Int} {a b : Int} (h : Lt K a b) : kv K a ≤ kv K b := by unfold Lt at h; omega
def SL (K : List Int) (l : List Int) : Prop := l.Pairwise (Lt K)
def Up (l : List Int) : Prop := l.Pairwise (· < ·)
theorem askK (K : List Int) {s : St} (h : s.k = false) (a b : Int) : ask (tellK K) s a b = (decide (kv K a < kv K b), ⟨s.h ++ [(a, b)], false⟩) := ask_told h (by simp [tellK, kv])
/-- What was asked: the later one against the earlier one. -/
def Ak (n : Int) (h : List (Int × Int)) : Prop := ∀ p ∈ h, 0 ≤ p.2 ∧ p.2 < p.1 ∧ p.1 < n
theorem Ak.snoc {n : Int} {h : List (Int × Int)} (c : Ak n h) {a b : Int} (h1 : 0 ≤ b) (h2 : b < a) (h3 : a < n) : Ak n (h ++ [(a, b)]) := fun p hp => by
  rcases List.mem_append.mp hp with h | h
  · exact c p h
  · simp at h; subst h; exact ⟨h1, h2, h3⟩
theorem up_run (K : List Int) (n : Int) : ∀ (l : List Int) (p : Int) (s : St), s.k = false → Up (p :: l) → (∀ x ∈ p :: l, 0 ≤ x ∧ x < n) → Ak n s.h →
    SL K (p :: l.take (upTo (tellK K) false p l s).1) ∧ Ak n (upTo (tellK K) false p l s).2.h ∧ s.h.length + (upTo (tellK K) false p l s).1 ≤ (upTo (tellK K) false p l s).2.h.length
  | [], p, s, h, hu, hr, ha => ⟨by simp [SL, upTo], ha, by simp [upTo]⟩
  | x :: r, p, s, h, hu, hr, ha => by
    have hpx : p < x := (List.pairwise_cons.mp hu).1 x (List.mem_cons_self ..)
    have hu2 : Up (x :: r) := (List.pairwise_cons.mp hu).2
    have e := askK K h x p
    have hx := hr x (by simp)
    have hp := hr p (by simp)
    have ha2 : Ak n (s.h ++ [(x, p)]) := ha.snoc hp.1 hpx hx.2
    simp only [upTo]
    rw [e]
    simp only
    by_cases hd : kv K x < kv K p
    · rw [decide_eq_true hd]
      simp only [Bool.true_eq_false, if_false, List.take_zero]
      exact ⟨by simp [SL], ha2, by simp⟩
    · rw [decide_eq_false hd]
      simp only [if_true]
      obtain ⟨q1, q2, q3⟩ := up_run K n r x ⟨s.h ++ [(x, p)], false⟩ rfl hu2 (fun y hy => hr y (List.mem_cons_of_mem _ hy)) ha2
      refine ⟨?_, q2, by simp at q3 ⊢; omega⟩
      rw [List.take_succ_cons]
      refine List.pairwise_cons.mpr ⟨fun y hy => ?_, q1⟩
      have hpl : Lt K p x := by unfold Lt; omega
      rcases List.mem_cons.mp hy with rfl | hy
      · exact hpl
      · exact hpl.trans ((List.pairwise_cons.mp q1).1 y hy)
theorem down_run (K : List Int) (n : Int) : ∀ (l : List Int) (p : Int) (s : St), s.k = false → Up (p :: l) → (∀ x ∈ p :: l, 0 ≤ x ∧ x < n) → Ak n s.h →
    (p :: l.take (upTo (tellK K) true p l s).1).Pairwise (fun a b => kv K b < kv K a) ∧ Ak n (upTo (tellK K) true p l s).2.h ∧ s.h.length + (upTo (tellK K) true p l s).1 ≤ (upTo (tellK K) true p l s).2.h.length
  | [], p, s, h, hu, hr, ha => ⟨by simp [upTo], ha, by simp [upTo]⟩
  | x :: r, p, s, h, hu, hr, ha => by
    have hpx : p < x := (List.pairwise_cons.mp hu).1 x (List.mem_cons_self ..)
    have hu2 : Up (x :: r) := (List.pairwise_cons.mp hu).2
    have e := askK K h x p
    have hx := hr x (by simp)
    have hp := hr p (by simp)
    have ha2 : Ak n (s.h ++ [(x, p)]) := ha.snoc hp.1 hpx hx.2
    simp only [upTo]
    rw [e]
    simp only
    by_cases hd : kv K x < kv K p
    · rw [decide_eq_true hd]
      simp only [if_true]
      obtain ⟨q1, q2, q3⟩ := down_run K n r x ⟨s.h ++ [(x, p)], false⟩ rfl hu2 (fun y hy => hr y (List.mem_cons_of_mem _ hy)) ha2
      refine ⟨?_, q2, by simp at q3 ⊢; omega⟩
      rw [List.take_succ_cons]
      refine List.pairwise_cons.mpr ⟨fun y hy => ?_, q1⟩
      rcases List.mem_cons.mp hy with rfl | hy
      · exact hd
      · have := (List.pairwise_cons.mp q1).1 y hy; omega
    · rw [decide_eq_false hd]
      simp only [Bool.false_eq_true, if_false, List.take_zero]
      exact ⟨by simp, ha2, by simp⟩
/-- The run that is found. -/
theorem run_ok (K : List Int) (n : Int) (l : List Int) (s : St) (h : s.k = false) (hu : Up l) (hr : ∀ x ∈ l, 0 ≤ x ∧ x < n) (ha : Ak n s.h) :
    SL K (if (runN (tellK K) l s).2.1 then (l.take (runN (tellK K) l s).1).reverse else l.take (runN (tellK K) l s).1) ∧ Ak n (runN (tellK K) l s).2.2.h ∧ s.h.length + (runN (tellK K) l s).1 ≤ (runN (tellK K) l s).2.2.h.length + 1 := by
  match l with
  | [] => exact ⟨by simp [runN, SL], ha, by simp [runN]⟩
  | [x] => exact ⟨by simp [runN, SL], ha, by simp [runN]⟩
  | x :: y :: r =>
    have hxy : x < y := (List.pairwise_cons.mp hu).1 y (List.mem_cons_self ..)
    have hu2 : Up (y :: r) := (List.pairwise_cons.mp hu).2
    have e := askK K h y x
    have hx := hr x (by simp)
    have hy := hr y (by simp)
    have ha2 : Ak n (s.h ++ [(y, x)]) := ha.snoc hx.1 hxy hy.2
    have hrn : runN (tellK K) (x :: y :: r) s = ((upTo (tellK K) (decide (kv K y < kv K x)) y r ⟨s.h ++ [(y, x)], false⟩).1 + 2, decide (kv K y < kv K x), (upTo (tellK K) (decide (kv K y < kv K x)) y r ⟨s.h ++ [(y, x)], false⟩).2) := by
      show ((upTo (tellK K) (ask (tellK K) s y x).1 y r (ask (tellK K) s y x).2).1 + 2, (ask (tellK K) s y x).1, (upTo (tellK K) (ask (tellK K) s y x).1 y r (ask (tellK K) s y x).2).2) = _
      rw [e]
    by_cases hd : kv K y < kv K x
    · rw [decide_eq_true hd] at hrn
      rw [hrn]
      simp only
      obtain ⟨q1, q2, q3⟩ := down_run K n r y ⟨s.h ++ [(y, x)], false⟩ rfl hu2 (fun z hz => hr z (List.mem_cons_of_mem _ hz)) ha2
      refine ⟨?_, q2, by simp at q3 ⊢; omega⟩
      simp only [if_true]
      rw [show (upTo (tellK K) true y r ⟨s.h ++ [(y, x)], false⟩).1 + 2 = ((upTo (tellK K) true y r ⟨s.h ++ [(y, x)], false⟩).1 + 1) + 1 from rfl, List.take_succ_cons, List.take_succ_cons]
      unfold SL
      rw [List.pairwise_reverse]
      refine List.pairwise_cons.mpr ⟨fun z hz => .inl ?_, q1.imp (fun h => .inl h)⟩
      rcases List.mem_cons.mp hz with rfl | hz
      · exact hd
      · have := (List.pairwise_cons.mp q1).1 z hz; omega
    · rw [decide_eq_false hd] at hrn
      rw [hrn]
      simp only
      obtain ⟨q1, q2, q3⟩ := up_run K n r y ⟨s.h ++ [(y, x)], false⟩ rfl hu2 (fun z hz => hr z (List.mem_cons_of_mem _ hz)) ha2
      refine ⟨?_, q2, by simp at q3 ⊢; omega⟩
      simp only [Bool.false_eq_true, if_false]
      rw [show (upTo (tellK K) false y r ⟨s.h ++ [(y, x)], false⟩).1 + 2 = ((upTo (tellK K) false y r ⟨s.h ++ [(y, x)], false⟩).1 + 1) + 1 from rfl, List.take_succ_cons, List.take_succ_cons]
      have hpl : Lt K x y := by unfold Lt; omega
      refine List.pairwise_cons.mpr ⟨fun z hz => ?_, q1⟩
      rcases List.mem_cons.mp hz with rfl | hz
      · exact hpl
      · exact hpl.trans ((List.pairwise_cons.mp q1).1 z hz)
theorem sl_le {K l : List Int} (h : SL K l) {i j : Nat} (hij : i ≤ j) (hj : j < l.length) : kv K (l.getD i 0) ≤ kv K (l.getD j 0) := by
  have e1 : l.getD i 0 = l[i]'(by omega) := by simp [List.getD, show i < l.length by omega]
  have e2 : l.getD j 0 = l[j] := by simp [List.getD, hj]
  rw [e1, e2]
  rcases Nat.lt_or_ge i j with h1 | h1
  · exact (List.pairwise_iff_getElem.mp h i j (by omega) hj h1).le
  · have : i = j := by omega
    subst this; omega
theorem bis_ok (K : List Int) (n : Int) (x : Int) (l : List Int) (hs : SL K l) (hx : ∀ y ∈ l, 0 ≤ y ∧ y < x) (hn : x < n) : ∀ (f lo hi : Nat) (s : St), s.k = false → lo ≤ hi → hi ≤ l.length → hi - lo ≤ f → Ak n s.h → (∀ i, i < lo → ¬ kv K x < kv K (l.getD i 0)) → (∀ i, hi ≤ i → i < l.length → kv K x < kv K (l.getD i 0)) →
    (∀ i, i < (bis (tellK K) x l f lo hi s).1 → ¬ kv K x < kv K (l.getD i 0)) ∧ (∀ i, (bis (tellK K) x l f lo hi s).1 ≤ i → i < l.length → kv K x < kv K (l.getD i 0)) ∧ Ak n (bis (tellK K) x l f lo hi s).2.h ∧ (lo < hi → s.h.length + 1 ≤ (bis (tellK K) x l f lo hi s).2.h.length) ∧ s.h.length ≤ (bis (tellK K) x l f lo hi s).2.h.length
  | 0, lo, hi, s, hk, h1, h2, h3, ha, hlo, hhi => by
    have : lo = hi := by omega
    subst this
    exact ⟨hlo, hhi, ha, fun h => by omega, Nat.le_refl _⟩
  | f + 1, lo, hi, s, hk, h1, h2, h3, ha, hlo, hhi => by
    by_cases hlt : lo < hi
    · have hm : (lo + hi) / 2 < l.length := by omega
      have e := askK K hk x (l.getD ((lo + hi) / 2) 0)
      have hmem : l.getD ((lo + hi) / 2) 0 ∈ l := by simp [List.getD, hm]
      have hy := hx _ hmem
      have ha2 : Ak n (s.h ++ [(x, l.getD ((lo + hi) / 2) 0)]) := ha.snoc hy.1 hy.2 hn
      simp only [bis]
      rw [if_pos hlt, e]
      simp only
      by_cases hd : kv K x < kv K (l.getD ((lo + hi) / 2) 0)
      · rw [decide_eq_true hd]
        simp only [if_true]
        obtain ⟨q1, q2, q3, q4, q5⟩ := bis_ok K n x l hs hx hn f lo ((lo + hi) / 2) ⟨s.h ++ [(x, l.getD ((lo + hi) / 2) 0)], false⟩ rfl (by omega) (by omega) (by omega) ha2 hlo (fun i hi1 hi2 => by
          have := sl_le hs hi1 hi2; omega)
        simp only [List.length_append, List.length_singleton] at q5
        exact ⟨q1, q2, q3, fun _ => q5, by omega⟩
      · rw [decide_eq_false hd]
        simp only [Bool.false_eq_true, if_false]
        obtain ⟨q1, q2, q3, q4, q5⟩ := bis_ok K n x l hs hx hn f ((lo + hi) / 2 + 1) hi ⟨s.h ++ [(x, l.getD ((lo + hi) / 2) 0)], false⟩ rfl (by omega) h2 (by omega) ha2 (fun i hi1 => by
          have := sl_le hs (show i ≤ (lo + hi) / 2 by omega) hm; omega) hhi
        simp only [List.length_append, List.length_singleton] at q5
        exact ⟨q1, q2, q3, fun _ => q5, by omega⟩
    · have : lo = hi := by omega
      subst this
      simp only [bis]
      rw [if_neg hlt]
      exact ⟨hlo, hhi, ha, fun h => by omega, Nat.le_refl _⟩
theorem put_ok (K : List Int) (n : Int) (x : Int) (l : List Int) (s : St) (hk : s.k = false) (hs : SL K l) (hx : ∀ y ∈ l, 0 ≤ y ∧ y < x) (hn : x < n) (ha : Ak n s.h) (hl : 0 < l.length) :
    SL K (putS (tellK K) x l s).1 ∧ (putS (tellK K) x l s).1.Perm (l ++ [x]) ∧ Ak n (putS (tellK K) x l s).2.h ∧ s.h.length + 1 ≤ (putS (tellK K) x l s).2.h.length := by
  obtain ⟨q1, q2, q3, q4, q5⟩ := bis_ok K n x l hs hx hn l.length 0 l.length s hk (Nat.zero_le _) (Nat.le_refl _) (by omega) ha (fun i h => by omega) (fun i h1 h2 => by omega)
  unfold putS
  simp only
  generalize (bis (tellK K) x l l.length 0 l.length s).1 = r at *
  refine ⟨?_, ?_, q3, q4 hl⟩
  · have hp := hs
    unfold SL at hp ⊢
    rw [← List.take_append_drop r l] at hp
    obtain ⟨p1, p2, p3⟩ := List.pairwise_append.mp hp
    refine List.pairwise_append.mpr ⟨p1, List.pairwise_cons.mpr ⟨fun b hb => ?_, p2⟩, fun a hA b hb => ?_⟩
    · obtain ⟨i, hi, e⟩ := List.getElem_of_mem hb
      have hi' : r + i < l.length := by simp at hi; omega
      have := q2 (r + i) (by omega) hi'
      rw [List.getElem_drop] at e
      rw [show l.getD (r + i) 0 = b by simp [List.getD, hi', e]] at this
      exact .inl this
    · rcases List.mem_cons.mp hb with rfl | hb
      · obtain ⟨i, hi, e⟩ := List.getElem_of_mem hA
        have hi' : i < r ∧ i < l.length := by simp at hi; omega
        have := q1 i hi'.1
        rw [List.getElem_take] at e
        rw [show l.getD i 0 = a by simp [List.getD, hi'.2, e]] at this
        have hax := (hx a (List.mem_of_mem_take hA)).2
        unfold Lt; omega
      · exact p3 a hA b hb
  · have h1 : (l.take r ++ x :: l.drop r).Perm (x :: (l.take r ++ l.drop r)) := List.perm_middle
    rw [List.take_append_drop] at h1
    exact h1.trans (List.perm_append_comm (l₁ := [x]) (l₂ := l))
end Go.Proofs.Ytlnekedehalbdaa
