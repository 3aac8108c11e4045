import Derived.Test.YtlnekedehalbdaaSrB
namespace Go.Proofs.Ytlnekedehalbdaa
open Go.RowKit
set_option linter.unusedVariables false
set_option linter.unusedSimpArgs false

theorem ask_ext (t : Tl) (s : St) (a b : Int) : s.h <+: (ask t s a b).2.h := by
  unfold ask
  split
  · exact List.prefix_refl _
  · split <;> exact List.prefix_append _ _
theorem upTo_ext (t : Tl) (d : Bool) : ∀ (l : List Int) (p : Int) (s : St), s.h <+: (upTo t d p l s).2.h
  | [], _, s => List.prefix_refl _
  | x :: r, p, s => by
    simp only [upTo]
    split
    · exact (ask_ext t s x p).trans (upTo_ext t d r x _)
    · exact ask_ext t s x p
theorem runN_ext (t : Tl) : ∀ (l : List Int) (s : St), s.h <+: (runN t l s).2.2.h
  | [], s => List.prefix_refl _
  | [_], s => List.prefix_refl _
  | x :: y :: r, s => (ask_ext t s y x).trans (upTo_ext t _ r y _)
theorem bis_ext (t : Tl) (x : Int) (l : List Int) : ∀ (f lo hi : Nat) (s : St), s.h <+: (bis t x l f lo hi s).2.h
  | 0, _, _, s => List.prefix_refl _
  | f + 1, lo, hi, s => by
    simp only [bis]
    split
    · split
      · exact (ask_ext t s x _).trans (bis_ext t x l f _ _ _)
      · exact (ask_ext t s x _).trans (bis_ext t x l f _ _ _)
    · exact List.prefix_refl _
theorem fillS_ext (t : Tl) : ∀ (r run : List Int) (s : St), s.h <+: (fillS t run r s).2.2.h
  | [], _, s => List.prefix_refl _
  | x :: r, run, s => by
    simp only [fillS]
    split
    · exact (bis_ext t x run _ _ _ s).trans (fillS_ext t r _ _)
    · exact List.prefix_refl _
theorem oneS_ext (t : Tl) (l : List Int) (s : St) : s.h <+: (oneS t l s).2.2.h := (runN_ext t l s).trans (fillS_ext t _ _ _)
theorem runsS_ext (t : Tl) : ∀ (f : Nat) (l : List Int) (s : St), s.h <+: (runsS t f l s).2.h
  | 0, _, s => List.prefix_refl _
  | f + 1, l, s => by
    simp only [runsS]
    split
    · exact List.prefix_refl _
    · exact (oneS_ext t l s).trans (runsS_ext t f _ _)
theorem mrgS_ext (t : Tl) : ∀ (f : Nat) (a b : List Int) (s : St), s.h <+: (mrgS t f a b s).2.h
  | 0, a, b, s => List.prefix_refl _
  | _ + 1, [], b, s => List.prefix_refl _
  | _ + 1, x :: a, [], s => List.prefix_refl _
  | f + 1, x :: a, y :: b, s => by
    simp only [mrgS]
    split
    · exact (ask_ext t s y x).trans (mrgS_ext t f _ _ _)
    · exact (ask_ext t s y x).trans (mrgS_ext t f _ _ _)
theorem pairS_ext (t : Tl) : ∀ (rs : List (List Int)) (s : St), s.h <+: (pairS t rs s).2.h
  | [], s => List.prefix_refl _
  | [_], s => List.prefix_refl _
  | a :: b :: r, s => (mrgS_ext t _ a b s).trans (pairS_ext t r _)
theorem allS_ext (t : Tl) : ∀ (f : Nat) (rs : List (List Int)) (s : St), s.h <+: (allS t f rs s).2.h
  | 0, rs, s => List.prefix_refl _
  | f + 1, rs, s => by
    simp only [allS]
    split
    · exact List.prefix_refl _
    · exact (pairS_ext t rs s).trans (allS_ext t f _ _)

def kl (K : List Int) (p : Int × Int) : Bool := decide (K.getD p.1.toNat 0 < K.getD p.2.toNat 0)
/-- The answers are those of the keys. -/
def Cn (K : List Int) (ans : List Bool) (h : List (Int × Int)) : Prop := ∀ i (p : Int × Int), h[i]? = some p → i < ans.length → ans[i]? = some (kl K p)
theorem Cn.pre {K : List Int} {ans : List Bool} {h h' : List (Int × Int)} (c : Cn K ans h') (e : h <+: h') : Cn K ans h := fun i p hi hl => by
  obtain ⟨r, rfl⟩ := e
  exact c i p (by rw [List.getElem?_append_left (by
    rcases Nat.lt_or_ge i h.length with h2 | h2
    · exact h2
    · rw [List.getElem?_eq_none h2] at hi; cases hi)]; exact hi) hl
def Sm (ans : List Bool) (sA sK : St) : Prop := sK.k = false ∧ ((sK.h.length ≤ ans.length ∧ sA = ⟨sK.h, false⟩) ∨ (ans.length < sK.h.length ∧ sA = ⟨sK.h.take (ans.length + 1), true⟩))
theorem Sm.stuck {ans : List Bool} {sA sK sK' : St} (h : Sm ans sA sK) (hk : sA.k = true) (e : sK.h <+: sK'.h) (hk' : sK'.k = false) : Sm ans sA sK' := by
  obtain ⟨r, e⟩ := e
  rcases h.2 with ⟨_, e1⟩ | ⟨h1, e1⟩
  · rw [e1] at hk; cases hk
  · refine ⟨hk', .inr ⟨by rw [← e]; simp; omega, ?_⟩⟩
    rw [e1, ← e, List.take_append_of_le_length (by omega)]
theorem ask_sm {K : List Int} {ans : List Bool} {sA sK : St} (a b : Int) (h : Sm ans sA sK) (c : Cn K ans (ask (tellK K) sK a b).2.h) : Sm ans (ask (tellA ans) sA a b).2 (ask (tellK K) sK a b).2 ∧ ((ask (tellA ans) sA a b).2.k = false → (ask (tellA ans) sA a b).1 = (ask (tellK K) sK a b).1) := by
  obtain ⟨hk, h⟩ := h
  have eK : ask (tellK K) sK a b = (kl K (a, b), ⟨sK.h ++ [(a, b)], false⟩) := ask_told hk (by simp [tellK, kl])
  rw [eK] at c ⊢
  simp only at c ⊢
  rcases h with ⟨h1, rfl⟩ | ⟨h1, rfl⟩
  · rcases Nat.lt_or_ge sK.h.length ans.length with h2 | h2
    · have := c sK.h.length (a, b) (by simp) h2
      rw [ask_told (t := tellA ans) (s := ⟨sK.h, false⟩) rfl (show tellA ans sK.h a b = _ from this)]
      exact ⟨⟨rfl, .inl ⟨by simp; omega, rfl⟩⟩, fun _ => rfl⟩
    · have hn : tellA ans sK.h a b = none := by simp [tellA]; omega
      rw [ask_none (t := tellA ans) (s := ⟨sK.h, false⟩) rfl hn]
      refine ⟨⟨rfl, .inr ⟨by simp; omega, ?_⟩⟩, fun h => by cases h⟩
      simp only [St.mk.injEq, and_true]
      rw [List.take_of_length_le (by simp; omega)]
  · rw [ask_stuck rfl]
    refine ⟨⟨rfl, .inr ⟨by simp; omega, ?_⟩⟩, fun h => by cases h⟩
    simp only [St.mk.injEq, and_true]
    rw [List.take_append_of_le_length (by omega)]
theorem bsp {b : Bool} (h : ¬ b = true) : b = false := by simpa using h
theorem upTo_sm {K : List Int} {ans : List Bool} (d : Bool) : ∀ (l : List Int) (p : Int) (sA sK : St), Sm ans sA sK → Cn K ans (upTo (tellK K) d p l sK).2.h → Sm ans (upTo (tellA ans) d p l sA).2 (upTo (tellK K) d p l sK).2 ∧ ((upTo (tellA ans) d p l sA).2.k = false → (upTo (tellA ans) d p l sA).1 = (upTo (tellK K) d p l sK).1)
  | [], p, sA, sK, h, c => ⟨h, fun _ => rfl⟩
  | x :: r, p, sA, sK, h, c => by
    have hT := upTo_tot (tellK_tot K) d (x :: r) p sK h.1
    have hE : (ask (tellK K) sK x p).2.h <+: (upTo (tellK K) d p (x :: r) sK).2.h := by
      simp only [upTo]
      split
      · exact upTo_ext _ d r x _
      · exact List.prefix_refl _
    obtain ⟨s1, s2⟩ := ask_sm x p h (c.pre hE)
    by_cases hk : (ask (tellA ans) sA x p).2.k = true
    · have e : (upTo (tellA ans) d p (x :: r) sA).2 = (ask (tellA ans) sA x p).2 := by
        simp only [upTo]
        split
        · exact upTo_mono _ d r x _ hk
        · rfl
      rw [e]
      exact ⟨s1.stuck hk hE hT, fun h => by rw [hk] at h; cases h⟩
    · have e := s2 (bsp hk)
      simp only [upTo] at c ⊢
      rw [e]
      split
      · rename_i hd
        rw [if_pos hd] at c
        obtain ⟨q1, q2⟩ := upTo_sm d r x _ _ s1 c
        exact ⟨q1, fun h => by rw [q2 h]⟩
      · exact ⟨s1, fun _ => rfl⟩
theorem bis_sm {K : List Int} {ans : List Bool} (x : Int) (l : List Int) : ∀ (f lo hi : Nat) (sA sK : St), Sm ans sA sK → Cn K ans (bis (tellK K) x l f lo hi sK).2.h → Sm ans (bis (tellA ans) x l f lo hi sA).2 (bis (tellK K) x l f lo hi sK).2 ∧ ((bis (tellA ans) x l f lo hi sA).2.k = false → (bis (tellA ans) x l f lo hi sA).1 = (bis (tellK K) x l f lo hi sK).1)
  | 0, lo, hi, sA, sK, h, c => ⟨h, fun _ => rfl⟩
  | f + 1, lo, hi, sA, sK, h, c => by
    by_cases hlt : lo < hi
    · have hT := bis_tot (tellK_tot K) x l (f + 1) lo hi sK h.1
      have hE : (ask (tellK K) sK x (l.getD ((lo + hi) / 2) 0)).2.h <+: (bis (tellK K) x l (f + 1) lo hi sK).2.h := by
        simp only [bis]
        rw [if_pos hlt]
        split <;> exact bis_ext _ x l f _ _ _
      obtain ⟨s1, s2⟩ := ask_sm x (l.getD ((lo + hi) / 2) 0) h (c.pre hE)
      by_cases hk : (ask (tellA ans) sA x (l.getD ((lo + hi) / 2) 0)).2.k = true
      · have e : (bis (tellA ans) x l (f + 1) lo hi sA).2 = (ask (tellA ans) sA x (l.getD ((lo + hi) / 2) 0)).2 := by
          simp only [bis]
          rw [if_pos hlt]
          split <;> exact bis_mono _ x l f _ _ _ hk
        rw [e]
        exact ⟨s1.stuck hk hE hT, fun h => by rw [hk] at h; cases h⟩
      · have e := s2 (bsp hk)
        simp only [bis] at c ⊢
        rw [if_pos hlt] at c ⊢
        rw [if_pos hlt, e]
        split
        · rename_i hd
          rw [if_pos hd] at c
          exact bis_sm x l f _ _ _ _ s1 c
        · rename_i hd
          rw [if_neg hd] at c
          exact bis_sm x l f _ _ _ _ s1 c
    · simp only [bis]
      rw [if_neg hlt, if_neg hlt]
      exact ⟨h, fun _ => rfl⟩
theorem fillS_sm {K : List Int} {ans : List Bool} : ∀ (r run : List Int) (sA sK : St), Sm ans sA sK → Cn K ans (fillS (tellK K) run r sK).2.2.h → Sm ans (fillS (tellA ans) run r sA).2.2 (fillS (tellK K) run r sK).2.2 ∧ ((fillS (tellA ans) run r sA).2.2.k = false → (fillS (tellA ans) run r sA).1 = (fillS (tellK K) run r sK).1 ∧ (fillS (tellA ans) run r sA).2.1 = (fillS (tellK K) run r sK).2.1)
  | [], run, sA, sK, h, c => ⟨h, fun _ => ⟨rfl, rfl⟩⟩
  | x :: r, run, sA, sK, h, c => by
    by_cases hlt : run.length < 6
    · have hT := fillS_tot (tellK_tot K) (x :: r) run sK h.1
      have hE : (putS (tellK K) x run sK).2.h <+: (fillS (tellK K) run (x :: r) sK).2.2.h := by
        simp only [fillS]
        rw [if_pos hlt]
        exact fillS_ext _ r _ _
      obtain ⟨s1, s2⟩ := bis_sm x run run.length 0 run.length sA sK h (c.pre hE)
      by_cases hk : (putS (tellA ans) x run sA).2.k = true
      · have e : (fillS (tellA ans) run (x :: r) sA).2.2 = (putS (tellA ans) x run sA).2 := by
          simp only [fillS]
          rw [if_pos hlt]
          exact fillS_mono _ r _ _ hk
        rw [e]
        exact ⟨Sm.stuck s1 hk hE hT, fun h => by rw [hk] at h; cases h⟩
      · have e : (putS (tellA ans) x run sA).1 = (putS (tellK K) x run sK).1 := by
          have := s2 (bsp hk)
          unfold putS
          rw [this]
        simp only [fillS] at c ⊢
        rw [if_pos hlt] at c ⊢
        rw [if_pos hlt, e]
        exact fillS_sm r _ _ _ s1 c
    · simp only [fillS]
      rw [if_neg hlt, if_neg hlt]
      exact ⟨h, fun _ => ⟨rfl, rfl⟩⟩
theorem runN_sm {K : List Int} {ans : List Bool} : ∀ (l : List Int) (sA sK : St), Sm ans sA sK → Cn K ans (runN (tellK K) l sK).2.2.h → Sm ans (runN (tellA ans) l sA).2.2 (runN (tellK K) l sK).2.2 ∧ ((runN (tellA ans) l sA).2.2.k = false → (runN (tellA ans) l sA).1 = (runN (tellK K) l sK).1 ∧ (runN (tellA ans) l sA).2.1 = (runN (tellK K) l sK).2.1)
  | [], sA, sK, h, c => ⟨h, fun _ => ⟨rfl, rfl⟩⟩
  | [_], sA, sK, h, c => ⟨h, fun _ => ⟨rfl, rfl⟩⟩
  | x :: y :: r, sA, sK, h, c => by
    have hT := runN_tot (tellK_tot K) (x :: y :: r) sK h.1
    have hE : (ask (tellK K) sK y x).2.h <+: (runN (tellK K) (x :: y :: r) sK).2.2.h := upTo_ext _ _ r y _
    obtain ⟨s1, s2⟩ := ask_sm y x h (c.pre hE)
    by_cases hk : (ask (tellA ans) sA y x).2.k = true
    · have e : (runN (tellA ans) (x :: y :: r) sA).2.2 = (ask (tellA ans) sA y x).2 := upTo_mono _ _ r y _ hk
      rw [e]
      exact ⟨s1.stuck hk hE hT, fun h => by rw [hk] at h; cases h⟩
    · have e := s2 (bsp hk)
      simp only [runN] at c ⊢
      rw [e]
      obtain ⟨q1, q2⟩ := upTo_sm _ r y _ _ s1 c
      exact ⟨q1, fun h => ⟨by rw [q2 h], rfl⟩⟩
theorem oneS_sm {K : List Int} {ans : List Bool} (l : List Int) (sA sK : St) (h : Sm ans sA sK) (c : Cn K ans (oneS (tellK K) l sK).2.2.h) : Sm ans (oneS (tellA ans) l sA).2.2 (oneS (tellK K) l sK).2.2 ∧ ((oneS (tellA ans) l sA).2.2.k = false → (oneS (tellA ans) l sA).1 = (oneS (tellK K) l sK).1 ∧ (oneS (tellA ans) l sA).2.1 = (oneS (tellK K) l sK).2.1) := by
  have hT := oneS_tot (tellK_tot K) l sK h.1
  have hE : (runN (tellK K) l sK).2.2.h <+: (oneS (tellK K) l sK).2.2.h := fillS_ext _ _ _ _
  obtain ⟨s1, s2⟩ := runN_sm l sA sK h (c.pre hE)
  by_cases hk : (runN (tellA ans) l sA).2.2.k = true
  · have e : (oneS (tellA ans) l sA).2.2 = (runN (tellA ans) l sA).2.2 := fillS_mono _ _ _ _ hk
    rw [e]
    exact ⟨s1.stuck hk hE hT, fun h => by rw [hk] at h; cases h⟩
  · obtain ⟨e1, e2⟩ := s2 (bsp hk)
    unfold oneS at c ⊢
    rw [e1, e2]
    exact fillS_sm _ _ _ _ s1 c
theorem runsS_sm {K : List Int} {ans : List Bool} : ∀ (f : Nat) (l : List Int) (sA sK : St), Sm ans sA sK → Cn K ans (runsS (tellK K) f l sK).2.h → Sm ans (runsS (tellA ans) f l sA).2 (runsS (tellK K) f l sK).2 ∧ ((runsS (tellA ans) f l sA).2.k = false → (runsS (tellA ans) f l sA).1 = (runsS (tellK K) f l sK).1)
  | 0, l, sA, sK, h, c => ⟨h, fun _ => rfl⟩
  | f + 1, l, sA, sK, h, c => by
    by_cases hl : l = []
    · simp only [runsS]; rw [if_pos hl, if_pos hl]; exact ⟨h, fun _ => rfl⟩
    · have hT := runsS_totK (tellK_tot K) (f + 1) l sK h.1
      have hE : (oneS (tellK K) l sK).2.2.h <+: (runsS (tellK K) (f + 1) l sK).2.h := by
        simp only [runsS]; rw [if_neg hl]; exact runsS_ext _ f _ _
      obtain ⟨s1, s2⟩ := oneS_sm l sA sK h (c.pre hE)
      by_cases hk : (oneS (tellA ans) l sA).2.2.k = true
      · have e : (runsS (tellA ans) (f + 1) l sA).2 = (oneS (tellA ans) l sA).2.2 := by
          simp only [runsS]; rw [if_neg hl]; exact runsS_mono _ f _ _ hk
        rw [e]
        exact ⟨s1.stuck hk hE hT, fun h => by rw [hk] at h; cases h⟩
      · obtain ⟨e1, e2⟩ := s2 (bsp hk)
        simp only [runsS] at c ⊢
        rw [if_neg hl] at c ⊢
        rw [if_neg hl, e1, e2]
        obtain ⟨q1, q2⟩ := runsS_sm f _ _ _ s1 c
        exact ⟨q1, fun h => by rw [q2 h]⟩
theorem mrgS_sm {K : List Int} {ans : List Bool} : ∀ (f : Nat) (a b : List Int) (sA sK : St), Sm ans sA sK → Cn K ans (mrgS (tellK K) f a b sK).2.h → Sm ans (mrgS (tellA ans) f a b sA).2 (mrgS (tellK K) f a b sK).2 ∧ ((mrgS (tellA ans) f a b sA).2.k = false → (mrgS (tellA ans) f a b sA).1 = (mrgS (tellK K) f a b sK).1)
  | 0, a, b, sA, sK, h, c => ⟨h, fun _ => rfl⟩
  | _ + 1, [], b, sA, sK, h, c => by simp only [mrgS]; exact ⟨h, fun _ => trivial⟩
  | _ + 1, x :: a, [], sA, sK, h, c => by simp only [mrgS]; exact ⟨h, fun _ => trivial⟩
  | f + 1, x :: a, y :: b, sA, sK, h, c => by
    have hT := mrgS_totK (tellK_tot K) (f + 1) (x :: a) (y :: b) sK h.1
    have hE : (ask (tellK K) sK y x).2.h <+: (mrgS (tellK K) (f + 1) (x :: a) (y :: b) sK).2.h := by
      simp only [mrgS]
      split <;> exact mrgS_ext _ f _ _ _
    obtain ⟨s1, s2⟩ := ask_sm y x h (c.pre hE)
    by_cases hk : (ask (tellA ans) sA y x).2.k = true
    · have e : (mrgS (tellA ans) (f + 1) (x :: a) (y :: b) sA).2 = (ask (tellA ans) sA y x).2 := by
        simp only [mrgS]
        split <;> exact mrgS_mono _ f _ _ _ hk
      rw [e]
      exact ⟨s1.stuck hk hE hT, fun h => by rw [hk] at h; cases h⟩
    · have e := s2 (bsp hk)
      simp only [mrgS] at c ⊢
      rw [e]
      split
      · rename_i hd
        rw [if_pos hd] at c
        obtain ⟨q1, q2⟩ := mrgS_sm f _ _ _ _ s1 c
        exact ⟨q1, fun h => by rw [q2 h]⟩
      · rename_i hd
        rw [if_neg hd] at c
        obtain ⟨q1, q2⟩ := mrgS_sm f _ _ _ _ s1 c
        exact ⟨q1, fun h => by rw [q2 h]⟩
theorem pairS_sm {K : List Int} {ans : List Bool} : ∀ (rs : List (List Int)) (sA sK : St), Sm ans sA sK → Cn K ans (pairS (tellK K) rs sK).2.h → Sm ans (pairS (tellA ans) rs sA).2 (pairS (tellK K) rs sK).2 ∧ ((pairS (tellA ans) rs sA).2.k = false → (pairS (tellA ans) rs sA).1 = (pairS (tellK K) rs sK).1)
  | [], sA, sK, h, c => ⟨h, fun _ => rfl⟩
  | [_], sA, sK, h, c => ⟨h, fun _ => rfl⟩
  | a :: b :: r, sA, sK, h, c => by
    have hT := pairS_totK (tellK_tot K) (a :: b :: r) sK h.1
    have hE : (mrg2 (tellK K) a b sK).2.h <+: (pairS (tellK K) (a :: b :: r) sK).2.h := pairS_ext _ r _
    obtain ⟨s1, s2⟩ := mrgS_sm (a.length + b.length) a b sA sK h (c.pre hE)
    by_cases hk : (mrg2 (tellA ans) a b sA).2.k = true
    · have e : (pairS (tellA ans) (a :: b :: r) sA).2 = (mrg2 (tellA ans) a b sA).2 := pairS_mono _ r _ hk
      rw [e]
      exact ⟨Sm.stuck s1 hk hE hT, fun h => by rw [hk] at h; cases h⟩
    · have e : (mrg2 (tellA ans) a b sA).1 = (mrg2 (tellK K) a b sK).1 := s2 (bsp hk)
      simp only [pairS] at c ⊢
      rw [e]
      obtain ⟨q1, q2⟩ := pairS_sm r _ _ s1 c
      exact ⟨q1, fun h => congrArg (_ :: ·) (q2 h)⟩
theorem allS_sm {K : List Int} {ans : List Bool} : ∀ (f : Nat) (rs : List (List Int)) (sA sK : St), Sm ans sA sK → Cn K ans (allS (tellK K) f rs sK).2.h → Sm ans (allS (tellA ans) f rs sA).2 (allS (tellK K) f rs sK).2 ∧ ((allS (tellA ans) f rs sA).2.k = false → (allS (tellA ans) f rs sA).1 = (allS (tellK K) f rs sK).1)
  | 0, rs, sA, sK, h, c => ⟨h, fun _ => rfl⟩
  | f + 1, rs, sA, sK, h, c => by
    by_cases hl : rs.length ≤ 1
    · simp only [allS]; rw [if_pos hl, if_pos hl]; exact ⟨h, fun _ => rfl⟩
    · have hT := allS_totK (tellK_tot K) (f + 1) rs sK h.1
      have hE : (pairS (tellK K) rs sK).2.h <+: (allS (tellK K) (f + 1) rs sK).2.h := by
        simp only [allS]; rw [if_neg hl]; exact allS_ext _ f _ _
      obtain ⟨s1, s2⟩ := pairS_sm rs sA sK h (c.pre hE)
      by_cases hk : (pairS (tellA ans) rs sA).2.k = true
      · have e : (allS (tellA ans) (f + 1) rs sA).2 = (pairS (tellA ans) rs sA).2 := by
          simp only [allS]; rw [if_neg hl]; exact allS_mono _ f _ _ hk
        rw [e]
        exact ⟨s1.stuck hk hE hT, fun h => by rw [hk] at h; cases h⟩
      · have e := s2 (bsp hk)
        simp only [allS] at c ⊢
        rw [if_neg hl] at c ⊢
        rw [if_neg hl, e]
        exact allS_sm f _ _ _ s1 c
theorem sortS_sm (K : List Int) (ans : List Bool) (n : Nat) (c : Cn K ans (sortS (tellK K) n).2.h) : Sm ans (sortS (tellA ans) n).2 (sortS (tellK K) n).2 ∧ ((sortS (tellA ans) n).2.k = false → (sortS (tellA ans) n).1 = (sortS (tellK K) n).1) := by
  have h0 : Sm ans ⟨[], false⟩ ⟨[], false⟩ := ⟨rfl, .inl ⟨Nat.zero_le _, rfl⟩⟩
  have hT := sortS_tot (tellK_tot K) n
  have hE : (runsS (tellK K) n (nums n) ⟨[], false⟩).2.h <+: (sortS (tellK K) n).2.h := allS_ext _ _ _ _
  obtain ⟨s1, s2⟩ := runsS_sm n (nums n) ⟨[], false⟩ ⟨[], false⟩ h0 (c.pre hE)
  by_cases hk : (runsS (tellA ans) n (nums n) ⟨[], false⟩).2.k = true
  · have e : (sortS (tellA ans) n).2 = (runsS (tellA ans) n (nums n) ⟨[], false⟩).2 := allS_mono _ _ _ _ hk
    rw [e]
    exact ⟨s1.stuck hk hE hT, fun h => by rw [hk] at h; cases h⟩
  · have e := s2 (bsp hk)
    unfold sortS at c ⊢
    rw [e]
    exact allS_sm _ _ _ _ s1 c
end Go.Proofs.Ytlnekedehalbdaa
