import Derived.Test.YtjnalkeopehlbaaGoP
namespace Go.Proofs.Ytjnalkeopehlbaa
set_option linter.unusedVariables false
set_option linter.unusedSimpArgs false

/-- What holds when a thing is finalized and when it is freed holds behind a look. -/
theorem look_ind (P : Gs → Prop) (hf : ∀ S x, P S → S.al x = true → P (finS S x)) (hr : ∀ S x, P S → S.al x = true → P (freeS S x)) : ∀ (m : Nat) (S : Gs) (x : Nat), P S → P (look m S x) := by
  intro m
  induction m with
  | zero => intro S x h; exact h
  | succ m ih =>
    intro S x h
    rw [look]
    split
    · exact h
    · rename_i hc
      simp only [not_or, Bool.not_eq_false] at hc
      have h1 := hf S x h hc.1
      split
      · exact h1
      · have h2 := hr (finS S x) x h1 (by rw [finS_al]; exact hc.1)
        have key : ∀ (ys : List Nat) (A : Gs), P A → P (ys.foldl (look m) A) := by
          intro ys
          induction ys with
          | nil => intro A hA; exact hA
          | cons y r ihy => intro A hA; rw [List.foldl_cons]; exact ihy _ (ih A y hA)
        exact key _ _ h2
/-- What was told. -/
def Up (p q : Nat × Nat) : Prop := p.2 = q.2 → p.1 < q.1
structure Ea (S : Gs) : Prop where
  pw : S.ev.Pairwise Up
  kd : ∀ p ∈ S.ev, 1 ≤ p.1 ∧ p.1 ≤ 3 ∧ 1 ≤ p.2 ∧ p.2 ≤ S.n
  lk : ∀ p ∈ S.ev, (p.1 = 1 ∧ S.rn p.2 = true) ∨ S.al p.2 = false
  fr : ∀ x, 1 ≤ x → x ≤ S.n → S.al x = false → (3, x) ∈ S.ev
  ai : ∀ x, S.al x = true → 1 ≤ x ∧ x ≤ S.n
theorem Ea.old {S : Gs} (h : Ea S) {x : Nat} (hx : S.al x = true) {p : Nat × Nat} (hp : p ∈ S.ev) (e : p.2 = x) : p.1 = 1 ∧ S.rn x = true := by
  rcases h.lk p hp with h1 | h1
  · rw [e] at h1; exact h1
  · rw [e, hx] at h1; cases h1
theorem Ea.fin {S : Gs} (h : Ea S) (x : Nat) (hx : S.al x = true) : Ea (finS S x) := by
  by_cases hc : S.fn x = 0 ∨ S.rn x = true
  · have : finS S x = S := by unfold finS; rw [if_pos hc]
    rw [this]; exact h
  · have e1 : (finS S x).ev = S.ev ++ [(1, x)] := by unfold finS; rw [if_neg hc]
    have e2 : (finS S x).rn = upd S.rn x true := by unfold finS; rw [if_neg hc]
    have hrn : S.rn x ≠ true := fun e => hc (.inr e)
    have hI := h.ai x hx
    refine ⟨?_, fun p hp => ?_, fun p hp => ?_, fun y h1 h2 hy => ?_, fun y hy => ?_⟩
    · rw [e1, List.pairwise_append]
      refine ⟨h.pw, by simp, fun p hp q hq e => ?_⟩
      rw [List.mem_singleton] at hq
      subst hq
      exact absurd (h.old hx hp e).2 hrn
    · rw [e1] at hp
      rw [finS_n]
      rcases List.mem_append.1 hp with h1 | h1
      · exact h.kd p h1
      · rw [List.mem_singleton] at h1; subst h1; exact ⟨Nat.le_refl _, by show 1 ≤ 3; omega, hI.1, hI.2⟩
    · rw [e1] at hp
      rw [e2, finS_al]
      rcases List.mem_append.1 hp with h1 | h1
      · rcases h.lk p h1 with ⟨h2, h3⟩ | h2
        · left
          refine ⟨h2, ?_⟩
          by_cases e : p.2 = x
          · rw [e, upd_same]
          · rw [upd_ne _ _ e]; exact h3
        · exact .inr h2
      · rw [List.mem_singleton] at h1; subst h1; exact .inl ⟨rfl, upd_same _ _ _⟩
    · rw [finS_n] at h2
      rw [finS_al] at hy
      rw [e1]
      exact List.mem_append_left _ (h.fr y h1 h2 hy)
    · rw [finS_al] at hy
      rw [finS_n]
      exact h.ai y hy
theorem wk_mem {S : Gs} {x : Nat} {p : Nat × Nat} (h : p ∈ wkE S x) : p = (2, x) := by
  unfold wkE at h
  split at h
  · simpa using h
  · cases h
theorem Ea.free {S : Gs} (h : Ea S) (x : Nat) (hx : S.al x = true) : Ea (freeS S x) := by
  have hI := h.ai x hx
  have hal : ∀ y, (freeS S x).al y = upd S.al x false y := fun _ => rfl
  have hev : (freeS S x).ev = S.ev ++ (wkE S x ++ [(3, x)]) := by show S.ev ++ wkE S x ++ [(3, x)] = _; rw [List.append_assoc]
  have hnew : ∀ q ∈ wkE S x ++ [(3, x)], q.2 = x ∧ 2 ≤ q.1 ∧ q.1 ≤ 3 := fun q hq => by
    rcases List.mem_append.1 hq with h1 | h1
    · rw [wk_mem h1]; exact ⟨rfl, Nat.le_refl _, by show 2 ≤ 3; omega⟩
    · rw [List.mem_singleton] at h1; subst h1; exact ⟨rfl, by show 2 ≤ 3; omega, Nat.le_refl _⟩
  refine ⟨?_, fun p hp => ?_, fun p hp => ?_, fun y h1 h2 hy => ?_, fun y hy => ?_⟩
  · rw [hev, List.pairwise_append]
    refine ⟨h.pw, ?_, fun p hp q hq e => ?_⟩
    · unfold wkE
      split
      · simp [Up]
      · simp
    · obtain ⟨e1, e2, _⟩ := hnew q hq
      have := (h.old hx hp (e.trans e1)).1
      omega
  · rw [hev] at hp
    rcases List.mem_append.1 hp with h1 | h1
    · exact h.kd p h1
    · obtain ⟨e1, e2, e3⟩ := hnew p h1
      exact ⟨by omega, e3, by omega, by show p.2 ≤ S.n; omega⟩
  · rw [hev] at hp
    rw [hal]
    rcases List.mem_append.1 hp with h1 | h1
    · by_cases e : p.2 = x
      · right; rw [e, upd_same]
      · rw [upd_ne _ _ e]; exact h.lk p h1
    · right; rw [(hnew p h1).1, upd_same]
  · rw [hev]
    by_cases e : y = x
    · subst e; simp
    · rw [hal, upd_ne _ _ e] at hy
      exact List.mem_append_left _ (h.fr y h1 h2 hy)
  · rw [hal] at hy
    by_cases e : y = x
    · subst e; rw [upd_same] at hy; cases hy
    · rw [upd_ne _ _ e] at hy; exact h.ai y hy
theorem Ea.look {S : Gs} (h : Ea S) (m x : Nat) : Ea (look m S x) := look_ind Ea (fun S x h hx => h.fin x hx) (fun S x h hx => h.free x hx) m S x h
theorem Ea.fins {S : Gs} : ∀ (l : List Nat) (S : Gs), Ea S → (∀ x ∈ l, S.al x = true) → Ea (l.foldl finS S) ∧ (l.foldl finS S).al = S.al ∧ (l.foldl finS S).n = S.n
  | [], S, h, _ => ⟨h, rfl, rfl⟩
  | x :: r, S, h, hl => by
    rw [List.foldl_cons]
    obtain ⟨a, b, c⟩ := Ea.fins (S := S) r (finS S x) (h.fin x (hl x (by simp))) (fun y hy => by rw [finS_al]; exact hl y (by simp [hy]))
    exact ⟨a, b.trans (finS_al S x), c.trans (finS_n S x)⟩
theorem pw_wk (S : Gs) : ∀ D : List Nat, D.Nodup → (D.flatMap (wkE S)).Pairwise Up
  | [], _ => by simp
  | x :: r, hn => by
    rw [List.nodup_cons] at hn
    rw [List.flatMap_cons, List.pairwise_append]
    refine ⟨?_, pw_wk S r hn.2, fun p hp q hq e => ?_⟩
    · unfold wkE
      split <;> simp
    · exfalso
      rw [wk_mem hp] at e
      obtain ⟨y, hy, hq2⟩ := List.mem_flatMap.1 hq
      rw [wk_mem hq2] at e
      have e2 : x = y := e
      exact hn.1 (e2 ▸ hy)
theorem Ea.coll {S : Gs} (h : Ea S) : Ea (coll S) ∧ (coll S).n = S.n := by
  obtain ⟨a, b, c⟩ := Ea.fins (S := S) (lostL S) S h (fun x hx => (lost_mem.1 hx).2.1)
  have hS1 : S1 S = (lostL S).foldl finS S := rfl
  rw [← hS1] at a b c
  have hD : ∀ x ∈ deadL S, (1 ≤ x ∧ x ≤ (S1 S).n) ∧ (S1 S).al x = true := fun x hx => by have := lost_mem.1 hx; exact ⟨this.1, this.2.1⟩
  have hnd : (deadL S).Nodup := lost_nodup _
  unfold Go.Proofs.Ytjnalkeopehlbaa.coll
  rw [weaks_eq, frees_eq]
  generalize deadL S = D at hD hnd
  generalize S1 S = T at a b c hD
  have hF : ∀ q ∈ D.flatMap (wkE T), q.1 = 2 ∧ q.2 ∈ D := fun q hq => by
    obtain ⟨y, hy, hq2⟩ := List.mem_flatMap.1 hq
    rw [wk_mem hq2]
    exact ⟨rfl, hy⟩
  have hG : ∀ q ∈ D.map (fun x => (3, x)), q.1 = 3 ∧ q.2 ∈ D := fun q hq => by
    obtain ⟨y, hy, rfl⟩ := List.mem_map.1 hq
    exact ⟨rfl, hy⟩
  have hno : ∀ x ∈ D, noneOf D T.al x = false := fun x hx => by unfold noneOf; simp [hx]
  have hel : ∀ x, T.al x = false → noneOf D T.al x = false := fun x hx => by unfold noneOf; simp [hx]
  refine ⟨⟨?_, fun p hp => ?_, fun p hp => ?_, fun y h1 h2 hy => ?_, fun y hy => ?_⟩, c⟩
  · show ((T.ev ++ D.flatMap (wkE T)) ++ D.map (fun x => (3, x))).Pairwise Up
    rw [List.pairwise_append, List.pairwise_append]
    refine ⟨⟨a.pw, pw_wk T D hnd, fun p hp q hq e => ?_⟩, ?_, fun p hp q hq e => ?_⟩
    · obtain ⟨q1, q2⟩ := hF q hq
      have := (a.old (hD q.2 q2).2 hp e).1
      omega
    · rw [List.pairwise_map]
      exact hnd.imp (fun hne e => absurd e hne)
    · obtain ⟨q1, q2⟩ := hG q hq
      rcases List.mem_append.1 hp with h1 | h1
      · have := (a.old (hD q.2 q2).2 h1 e).1
        omega
      · have := (hF p h1).1
        omega
  · have hp2 : p ∈ (T.ev ++ D.flatMap (wkE T)) ++ D.map (fun x => (3, x)) := hp
    rcases List.mem_append.1 hp2 with h1 | h1
    · rcases List.mem_append.1 h1 with h2 | h2
      · exact a.kd p h2
      · obtain ⟨q1, q2⟩ := hF p h2
        have := (hD p.2 q2).1
        exact ⟨by omega, by omega, this.1, this.2⟩
    · obtain ⟨q1, q2⟩ := hG p h1
      have := (hD p.2 q2).1
      exact ⟨by omega, by omega, this.1, this.2⟩
  · have hp2 : p ∈ (T.ev ++ D.flatMap (wkE T)) ++ D.map (fun x => (3, x)) := hp
    rcases List.mem_append.1 hp2 with h1 | h1
    · rcases List.mem_append.1 h1 with h2 | h2
      · rcases a.lk p h2 with h3 | h3
        · exact .inl h3
        · exact .inr (hel _ h3)
      · exact .inr (hno _ (hF p h2).2)
    · exact .inr (hno _ (hG p h1).2)
  · show (3, y) ∈ (T.ev ++ D.flatMap (wkE T)) ++ D.map (fun x => (3, x))
    by_cases e : y ∈ D
    · exact List.mem_append_right _ (List.mem_map.2 ⟨y, e, rfl⟩)
    · have hy2 : noneOf D T.al y = false := hy
      have : T.al y = false := by
        unfold noneOf at hy2
        simp [e] at hy2
        exact hy2
      exact List.mem_append_left _ (List.mem_append_left _ (a.fr y h1 h2 this))
  · have hy2 : noneOf D T.al y = true := hy
    unfold noneOf at hy2
    simp only [Bool.and_eq_true] at hy2
    exact a.ai y hy2.1
theorem Ea.new {S : Gs} (h : Ea S) : Ea (newS S) := by
  have hne : ∀ p ∈ S.ev, p.2 ≠ S.n + 1 := fun p hp e => by have := (h.kd p hp).2.2.2; omega
  refine ⟨h.pw, fun p hp => ?_, fun p hp => ?_, fun y h1 h2 hy => ?_, fun y hy => ?_⟩
  · have := h.kd p hp
    exact ⟨this.1, this.2.1, this.2.2.1, by show p.2 ≤ S.n + 1; omega⟩
  · show (p.1 = 1 ∧ upd S.rn (S.n + 1) false p.2 = true) ∨ upd S.al (S.n + 1) true p.2 = false
    rw [upd_ne _ _ (hne p hp), upd_ne _ _ (hne p hp)]
    exact h.lk p hp
  · have hy2 : upd S.al (S.n + 1) true y = false := hy
    have h3 : y ≤ S.n + 1 := h2
    by_cases e : y = S.n + 1
    · subst e; rw [upd_same] at hy2; cases hy2
    · rw [upd_ne _ _ e] at hy2
      exact h.fr y h1 (by omega) hy2
  · have hy2 : upd S.al (S.n + 1) true y = true := hy
    show 1 ≤ y ∧ y ≤ S.n + 1
    by_cases e : y = S.n + 1
    · omega
    · rw [upd_ne _ _ e] at hy2
      have := h.ai y hy2
      omega
theorem look_n (m : Nat) (S : Gs) (x : Nat) : (look m S x).n = S.n := look_ind (fun T => T.n = S.n) (fun T x h _ => (finS_n T x).trans h) (fun T x h _ => h) m S x rfl
theorem Ea.eq {S T : Gs} (h : Ea S) (h1 : T.n = S.n) (h2 : T.al = S.al) (h3 : T.rn = S.rn) (h4 : T.ev = S.ev) : Ea T :=
  ⟨by rw [h4]; exact h.pw, by rw [h4, h1]; exact h.kd, by rw [h4, h3, h2]; exact h.lk, by rw [h4, h1, h2]; exact h.fr, by rw [h1, h2]; exact h.ai⟩
def oneIf (b : Bool) : Nat := if b then 1 else 0
/-- One operation: what was told stays in order, and the things are numbered. -/
theorem Ea.step {S : Gs} (h : Ea S) (e : Gp) : Ea (gstep S e).1 ∧ (gstep S e).1.n = S.n + oneIf (decide (e.c = 1)) := by
  unfold gstep
  by_cases h1 : e.c = 1
  · rw [if_pos h1, decide_eq_true h1]; exact ⟨h.new, rfl⟩
  rw [if_neg h1, decide_eq_false h1]
  by_cases h8 : e.c = 8
  · rw [if_pos h8]; exact h.coll
  rw [if_neg h8]
  by_cases h10 : e.c = 10
  · rw [if_pos h10]; exact ⟨h, rfl⟩
  rw [if_neg h10]
  by_cases ha : okx S e.a = false
  · rw [if_pos ha]; exact ⟨h, rfl⟩
  rw [if_neg ha]
  by_cases h2 : e.c = 2
  · rw [if_pos h2]
    by_cases hb : okx S e.b = false
    · rw [if_pos hb]; exact ⟨h, rfl⟩
    · rw [if_neg hb]; exact ⟨h.eq rfl rfl rfl rfl, rfl⟩
  rw [if_neg h2]
  by_cases h3 : e.c = 3
  · rw [if_pos h3]
    by_cases hb : okx S e.b = false ∨ e.b.toNat ∉ (S.hl e.a.toNat).map (·.1)
    · rw [if_pos hb]; exact ⟨h, rfl⟩
    · rw [if_neg hb]; exact ⟨(h.eq (T := dropS S e.a.toNat e.b.toNat) rfl rfl rfl rfl).look _ _, look_n _ _ _⟩
  rw [if_neg h3]
  by_cases h4 : e.c = 4
  · rw [if_pos h4]; exact ⟨h.eq rfl rfl rfl rfl, rfl⟩
  rw [if_neg h4]
  by_cases h5 : e.c = 5
  · rw [if_pos h5]
    by_cases hb : S.rt e.a.toNat = 0
    · rw [if_pos hb]; exact ⟨h, rfl⟩
    · rw [if_neg hb]; exact ⟨(h.eq (T := unrootS S e.a.toNat) rfl rfl rfl rfl).look _ _, look_n _ _ _⟩
  rw [if_neg h5]
  by_cases h6 : e.c = 6
  · rw [if_pos h6]; exact ⟨h.eq rfl rfl rfl rfl, rfl⟩
  rw [if_neg h6]
  by_cases h7 : e.c = 7
  · rw [if_pos h7]
    by_cases hb : e.b < 0 ∨ 2 < e.b
    · rw [if_pos hb]; exact ⟨h, rfl⟩
    · rw [if_neg hb]; exact ⟨h.eq rfl rfl rfl rfl, rfl⟩
  rw [if_neg h7]
  by_cases h9 : e.c = 9
  · rw [if_pos h9]; exact ⟨h, rfl⟩
  · rw [if_neg h9]; exact ⟨h, rfl⟩
/-- How many things are made. -/
def nwC (es : List Gp) : Nat := (es.filter fun e => decide (e.c = 1)).length
theorem nwC_app (a b : List Gp) : nwC (a ++ b) = nwC a + nwC b := by unfold nwC; rw [List.filter_append, List.length_append]
theorem nwC_one (e : Gp) : nwC [e] = oneIf (decide (e.c = 1)) := by unfold nwC oneIf; by_cases h : e.c = 1 <;> simp [h]
theorem Ea.run : ∀ (es : List Gp) (S : Gs), Ea S → Ea (rnG S es) ∧ (rnG S es).n = S.n + nwC es
  | [], S, h => ⟨h, rfl⟩
  | e :: r, S, h => by
    obtain ⟨a, b⟩ := h.step e
    obtain ⟨c, d⟩ := Ea.run r _ a
    rw [rnG_cons]
    refine ⟨c, ?_⟩
    rw [d, b, show e :: r = [e] ++ r from rfl, nwC_app, nwC_one]
    omega
theorem Ea.zero : Ea gs0 := ⟨List.Pairwise.nil, (fun p hp => by cases hp), (fun p hp => by cases hp), (fun x h1 h2 => by have h3 : x ≤ 0 := h2; omega), (fun x hx => by cases hx)⟩
/-- How often so was told. -/
def evC (l : List (Nat × Nat)) (k x : Nat) : Nat := l.count (k, x)
theorem pw_count {l : List (Nat × Nat)} (h : l.Pairwise Up) (p : Nat × Nat) : l.count p ≤ 1 := by
  induction l with
  | nil => simp
  | cons q r ih =>
    rw [List.pairwise_cons] at h
    rw [List.count_cons]
    by_cases e : q = p
    · subst e
      have : r.count q = 0 := List.count_eq_zero.2 (fun hm => by have := h.1 q hm rfl; omega)
      rw [this]; simp
    · have h1 := ih h.2
      have : (q == p) = false := by simp [e]
      rw [this]; simpa using h1
theorem Ea.dead {S : Gs} (h : Ea S) (x : Nat) (h1 : 1 ≤ x) (h2 : x ≤ S.n) : evC S.ev 3 x + oneIf (S.al x) = 1 := by
  unfold evC oneIf
  have hc := pw_count h.pw (3, x)
  cases ha : S.al x with
  | false =>
    have := List.count_pos_iff.2 (h.fr x h1 h2 ha)
    simp; omega
  | true =>
    have : S.ev.count (3, x) = 0 := List.count_eq_zero.2 (fun hm => by
      have := (h.old ha hm rfl).1
      have h5 : (3 : Nat) = 1 := this
      omega)
    rw [this]; simp
theorem Ea.sum {S : Gs} (h : Ea S) : sm S.n (fun k => evC S.ev 3 (k + 1)) + alv S = S.n := by
  unfold alv
  have key : ∀ m, m ≤ S.n → sm m (fun k => evC S.ev 3 (k + 1)) + sm m (fun k => if S.al (k + 1) = true then 1 else 0) = m := by
    intro m
    induction m with
    | zero => intro _; rfl
    | succ m ih =>
      intro hm
      rw [sm_succ, sm_succ]
      have h1 := ih (by omega)
      have h2 := h.dead (m + 1) (by omega) (by omega)
      unfold oneIf at h2
      omega
  exact key S.n (Nat.le_refl _)
/-- Nothing is rooted again. -/
def NoR (e : Gp) : Prop := e.c ≠ 4 ∧ ¬ (e.c = 7 ∧ e.b = 2)
structure Rt (S : Gs) : Prop where
  rt : ∀ x, S.rt x ≤ 1
  fn : ∀ x, S.fn x ≠ 2
theorem Rt.fin {S : Gs} (h : Rt S) (x : Nat) : (finS S x).rt = S.rt ∧ (finS S x).fn = S.fn := by
  unfold finS
  split
  · exact ⟨rfl, rfl⟩
  · exact ⟨by rw [if_neg (h.fn x)], rfl⟩
theorem Rt.eq {S T : Gs} (h : Rt S) (h1 : T.rt = S.rt) (h2 : T.fn = S.fn) : Rt T := ⟨by rw [h1]; exact h.rt, by rw [h2]; exact h.fn⟩
/-- What a look leaves, nothing being rooted again. -/
structure Dn (S T : Gs) : Prop where
  n : T.n = S.n
  fn : T.fn = S.fn
  rt : ∀ x, T.rt x ≤ S.rt x
  al : ∀ x, T.al x = true → S.al x = true
theorem Dn.refl (S : Gs) : Dn S S := ⟨rfl, rfl, fun _ => Nat.le_refl _, fun _ h => h⟩
theorem Dn.trans {A B C : Gs} (h : Dn A B) (k : Dn B C) : Dn A C := ⟨k.n.trans h.n, k.fn.trans h.fn, fun x => Nat.le_trans (k.rt x) (h.rt x), fun x hx => h.al x (k.al x hx)⟩
theorem Dn.rtt {S T : Gs} (h : Dn S T) (hr : Rt S) : Rt T := ⟨fun x => Nat.le_trans (h.rt x) (hr.rt x), fun x => by rw [h.fn]; exact hr.fn x⟩
theorem look_dn {S : Gs} (h : Rt S) (m x : Nat) : Dn S (look m S x) ∧ (look m S x).rt = S.rt := by
  have := look_ind (fun T => Dn S T ∧ T.rt = S.rt) (fun T y hT hy => by
    have hRT := hT.1.rtt h
    obtain ⟨e1, e2⟩ := hRT.fin y
    exact ⟨⟨(finS_n T y).trans hT.1.n, e2.trans hT.1.fn, fun x => by rw [e1]; exact hT.1.rt x, fun x hx => by rw [finS_al] at hx; exact hT.1.al x hx⟩, e1.trans hT.2⟩) (fun T y hT hy => ⟨⟨hT.1.n, hT.1.fn, hT.1.rt, fun x hx => by
      have hx2 : upd T.al y false x = true := hx
      by_cases e : x = y
      · subst e; rw [upd_same] at hx2; cases hx2
      · rw [upd_ne _ _ e] at hx2; exact hT.1.al x hx2⟩, hT.2⟩) m S x ⟨Dn.refl S, rfl⟩
  exact this
theorem fins_dn {S : Gs} (h : Rt S) : ∀ (l : List Nat) (T : Gs), Dn S T ∧ T.rt = S.rt ∧ T.al = S.al → Dn S (l.foldl finS T) ∧ (l.foldl finS T).rt = S.rt ∧ (l.foldl finS T).al = S.al
  | [], T, hT => hT
  | y :: r, T, hT => by
    rw [List.foldl_cons]
    have hRT := hT.1.rtt h
    obtain ⟨e1, e2⟩ := hRT.fin y
    exact fins_dn h r _ ⟨⟨(finS_n T y).trans hT.1.n, e2.trans hT.1.fn, fun x => by rw [e1]; exact hT.1.rt x, fun x hx => by rw [finS_al] at hx; exact hT.1.al x hx⟩, e1.trans hT.2.1, (finS_al T y).trans hT.2.2⟩
theorem coll_dn {S : Gs} (h : Rt S) : Dn S (coll S) ∧ (coll S).al = noneOf (deadL S) S.al ∧ (S1 S).rt = S.rt ∧ (S1 S).al = S.al ∧ (S1 S).n = S.n := by
  obtain ⟨a, b, c⟩ := fins_dn h (lostL S) S ⟨Dn.refl S, rfl, rfl⟩
  have hS1 : S1 S = (lostL S).foldl finS S := rfl
  rw [← hS1] at a b c
  refine ⟨?_, ?_, b, c, a.n⟩
  · unfold coll
    rw [weaks_eq, frees_eq]
    refine ⟨a.n, a.fn, a.rt, fun x hx => ?_⟩
    have hx2 : noneOf (deadL S) (S1 S).al x = true := hx
    unfold noneOf at hx2
    simp only [Bool.and_eq_true] at hx2
    rw [← c]; exact hx2.1
  · unfold coll
    rw [weaks_eq, frees_eq]
    show noneOf (deadL S) (S1 S).al = _
    rw [c]
theorem Rt.step {S : Gs} (h : Rt S) (e : Gp) (he : NoR e) : Rt (gstep S e).1 := by
  unfold gstep
  by_cases h1 : e.c = 1
  · rw [if_pos h1]
    refine ⟨fun x => ?_, fun x => ?_⟩
    · show upd S.rt (S.n + 1) 1 x ≤ 1
      by_cases e : x = S.n + 1
      · subst e; rw [upd_same]; exact Nat.le_refl _
      · rw [upd_ne _ _ e]; exact h.rt x
    · show upd S.fn (S.n + 1) 0 x ≠ 2
      by_cases e : x = S.n + 1
      · subst e; rw [upd_same]; omega
      · rw [upd_ne _ _ e]; exact h.fn x
  rw [if_neg h1]
  by_cases h8 : e.c = 8
  · rw [if_pos h8]; exact (coll_dn h).1.rtt h
  rw [if_neg h8]
  by_cases h10 : e.c = 10
  · rw [if_pos h10]; exact h
  rw [if_neg h10]
  by_cases ha : okx S e.a = false
  · rw [if_pos ha]; exact h
  rw [if_neg ha]
  by_cases h2 : e.c = 2
  · rw [if_pos h2]
    by_cases hb : okx S e.b = false
    · rw [if_pos hb]; exact h
    · rw [if_neg hb]; exact h.eq rfl rfl
  rw [if_neg h2]
  by_cases h3 : e.c = 3
  · rw [if_pos h3]
    by_cases hb : okx S e.b = false ∨ e.b.toNat ∉ (S.hl e.a.toNat).map (·.1)
    · rw [if_pos hb]; exact h
    · rw [if_neg hb]
      have hT : Rt (dropS S e.a.toNat e.b.toNat) := h.eq rfl rfl
      exact (look_dn hT _ _).1.rtt hT
  rw [if_neg h3, if_neg he.1]
  by_cases h5 : e.c = 5
  · rw [if_pos h5]
    by_cases hb : S.rt e.a.toNat = 0
    · rw [if_pos hb]; exact h
    · rw [if_neg hb]
      have hT : Rt (unrootS S e.a.toNat) := ⟨fun x => by
        show upd S.rt e.a.toNat (S.rt e.a.toNat - 1) x ≤ 1
        by_cases ex : x = e.a.toNat
        · rw [ex, upd_same]; have := h.rt e.a.toNat; omega
        · rw [upd_ne _ _ ex]; exact h.rt x, h.fn⟩
      exact (look_dn hT _ _).1.rtt hT
  rw [if_neg h5]
  by_cases h6 : e.c = 6
  · rw [if_pos h6]; exact h.eq rfl rfl
  rw [if_neg h6]
  by_cases h7 : e.c = 7
  · rw [if_pos h7]
    by_cases hb : e.b < 0 ∨ 2 < e.b
    · rw [if_pos hb]; exact h
    · rw [if_neg hb]
      refine ⟨h.rt, fun x => ?_⟩
      show upd S.fn e.a.toNat e.b.toNat x ≠ 2
      by_cases ex : x = e.a.toNat
      · rw [ex, upd_same]
        intro e2
        exact he.2 ⟨h7, by omega⟩
      · rw [upd_ne _ _ ex]; exact h.fn x
  rw [if_neg h7]
  by_cases h9 : e.c = 9
  · rw [if_pos h9]; exact h
  · rw [if_neg h9]; exact h
theorem Rt.run : ∀ (es : List Gp) (S : Gs), Rt S → (∀ e ∈ es, NoR e) → Rt (rnG S es)
  | [], S, h, _ => h
  | e :: r, S, h, he => by rw [rnG_cons]; exact Rt.run r _ (h.step e (he e (by simp))) (fun q hq => he q (by simp [hq]))
theorem Rt.zero : Rt gs0 := ⟨fun _ => Nat.zero_le _, fun _ => by show (0 : Nat) ≠ 2; omega⟩
/-- The root lets go of one. -/
theorem unroot_dn {S : Gs} (h : Rt S) (x : Nat) : Dn S (gstep S (opU (x : Int))).1 ∧ ((gstep S (opU (x : Int))).1.al x = true → (gstep S (opU (x : Int))).1.rt x = 0) := by
  unfold gstep opU
  simp only [show ¬ ((5 : Int) = 1) by omega, show ¬ ((5 : Int) = 8) by omega, show ¬ ((5 : Int) = 10) by omega, show ¬ ((5 : Int) = 2) by omega, show ¬ ((5 : Int) = 3) by omega, show ¬ ((5 : Int) = 4) by omega, if_false, Int.toNat_natCast]
  by_cases ha : okx S (x : Int) = false
  · rw [if_pos ha]
    refine ⟨Dn.refl S, fun hx => ?_⟩
    unfold okx at ha
    have hx2 : S.al x = true := hx
    rw [Int.toNat_natCast, hx2, decide_eq_true (by omega)] at ha
    cases ha
  · rw [if_neg ha, if_pos trivial]
    by_cases hb : S.rt x = 0
    · rw [if_pos hb]; exact ⟨Dn.refl S, fun _ => hb⟩
    · rw [if_neg hb]
      have hu : ∀ y, (unrootS S x).rt y = upd S.rt x (S.rt x - 1) y := fun _ => rfl
      have hle : ∀ y, (unrootS S x).rt y ≤ S.rt y := fun y => by
        rw [hu]
        by_cases e : y = x
        · subst e; rw [upd_same]; omega
        · rw [upd_ne _ _ e]; exact Nat.le_refl _
      have hT : Rt (unrootS S x) := ⟨fun y => Nat.le_trans (hle y) (h.rt y), h.fn⟩
      obtain ⟨a, b⟩ := look_dn hT S.n x
      have hD : Dn S (unrootS S x) := ⟨rfl, rfl, hle, fun _ h => h⟩
      refine ⟨hD.trans a, fun _ => ?_⟩
      show (look S.n (unrootS S x) x).rt x = 0
      rw [b, hu, upd_same]
      have := h.rt x
      omega
theorem unroots_dn : ∀ (us : List Nat) (S : Gs), Rt S → Dn S (rnG S (us.map fun x : Nat => opU (x : Int))) ∧ ∀ x ∈ us, (rnG S (us.map fun x : Nat => opU (x : Int))).al x = true → (rnG S (us.map fun x : Nat => opU (x : Int))).rt x = 0
  | [], S, h => ⟨Dn.refl S, fun x hx => by cases hx⟩
  | y :: r, S, h => by
    rw [List.map_cons, rnG_cons]
    obtain ⟨a, b⟩ := unroot_dn h y
    obtain ⟨c, d⟩ := unroots_dn r _ (a.rtt h)
    refine ⟨a.trans c, fun x hx hxa => ?_⟩
    rcases List.mem_cons.1 hx with e | e
    · subst e
      have h1 := b (c.al x hxa)
      have h2 := c.rt x
      omega
    · exact d x e hxa
/-- Each of 1 .. m, six times. -/
def unl (m : Nat) : List Nat := (List.range m).flatMap fun i => List.replicate 6 (i + 1)
theorem unl_succ (m : Nat) : unl (m + 1) = unl m ++ List.replicate 6 (m + 1) := by unfold unl; rw [List.range_succ, List.flatMap_append]; simp
theorem unl_mem (m x : Nat) (h1 : 1 ≤ x) (h2 : x ≤ m) : x ∈ unl m := by
  unfold unl
  exact List.mem_flatMap.2 ⟨x - 1, List.mem_range.2 (by omega), List.mem_replicate.2 ⟨by omega, by omega⟩⟩
def uO (m : Nat) : List Gp := (unl m).map fun x : Nat => opU (x : Int)
theorem unl_len : ∀ m, (unl m).length = 6 * m
  | 0 => rfl
  | m + 1 => by rw [unl_succ, List.length_append, unl_len m, List.length_replicate]; omega
theorem uO_len (m : Nat) : (uO m).length = 6 * m := by unfold uO; rw [List.length_map, unl_len]
theorem coll_none {S : Gs} (h : Rt S) (ha : ∀ x, S.al x = true → 1 ≤ x ∧ x ≤ S.n) (hr : ∀ x, S.al x = true → S.rt x = 0) (x : Nat) : (coll S).al x = false := by
  obtain ⟨a, b, c, d, e⟩ := coll_dn h
  have hno : ∀ y, ¬ Rc (S1 S) y := by
    intro y hy
    induction hy with
    | @root y hy h0 =>
      rw [d] at hy
      rw [c, hr y hy] at h0
      omega
    | step _ _ _ ih => exact ih
  rw [b]
  unfold noneOf
  cases hx : S.al x with
  | false => rfl
  | true =>
    have : x ∈ deadL S := lost_mem.2 ⟨by rw [e]; exact ha x hx, by rw [d]; exact hx, hno x⟩
    simp [this]
theorem none_step {S : Gs} (h : ∀ x, S.al x = false) (e : Gp) (he : e.c ≠ 1) (x : Nat) : (gstep S e).1.al x = false := by
  have hk : ∀ y, okx S y = false := fun y => by unfold okx; rw [h, Bool.and_false]
  have hcol : (coll S).al x = false := by
    have hl : lostL S = [] := List.eq_nil_iff_forall_not_mem.2 (fun y hy => by have := (lost_mem.1 hy).2.1; rw [h] at this; cases this)
    have h1 : S1 S = S := by unfold S1; rw [hl]; rfl
    unfold coll deadL
    rw [h1, hl]
    exact h x
  unfold gstep
  rw [if_neg he]
  by_cases h8 : e.c = 8
  · rw [if_pos h8]; exact hcol
  rw [if_neg h8]
  by_cases h10 : e.c = 10
  · rw [if_pos h10]; exact h x
  rw [if_neg h10, if_pos (hk _)]
  exact h x
theorem none_run : ∀ (es : List Gp) (S : Gs), (∀ x, S.al x = false) → (∀ e ∈ es, e.c ≠ 1) → ∀ x, (rnG S es).al x = false
  | [], S, h, _ => h
  | e :: r, S, h, he => by rw [rnG_cons]; exact none_run r _ (none_step h e (he e (by simp))) (fun q hq => he q (by simp [hq]))
/-- The operations of a whole run, but for the last. -/
def rnd (m : Nat) : List Gp := uO m ++ [opC]
def opsG (D : List Gp) : List Gp := D ++ rnd (nwC D) ++ rnd (nwC D) ++ rnd (nwC D)
theorem uO_c {m : Nat} {e : Gp} (h : e ∈ uO m) : e.c = 5 := by
  unfold uO at h
  obtain ⟨x, _, rfl⟩ := List.mem_map.1 h
  rfl
theorem rnd_c {m : Nat} {e : Gp} (h : e ∈ rnd m) : e.c = 5 ∨ e.c = 8 := by
  unfold rnd at h
  rcases List.mem_append.1 h with h1 | h1
  · exact .inl (uO_c h1)
  · rw [List.mem_singleton] at h1; subst h1; exact .inr rfl
theorem rnd_len (m : Nat) : (rnd m).length = 6 * m + 1 := by unfold rnd; rw [List.length_append, uO_len]; rfl
theorem rnd_nw (m : Nat) : nwC (rnd m) = 0 := by
  unfold nwC
  rw [List.filter_eq_nil_iff.2 (fun e he => by have := rnd_c he; simp; omega)]
  rfl
theorem opsG_nw (D : List Gp) : nwC (opsG D) = nwC D := by unfold opsG; rw [nwC_app, nwC_app, nwC_app, rnd_nw]; omega
theorem opsG_ea (D : List Gp) : Ea (rnG gs0 (opsG D)) ∧ (rnG gs0 (opsG D)).n = nwC D := by
  obtain ⟨a, b⟩ := Ea.run (opsG D) gs0 Ea.zero
  refine ⟨a, ?_⟩
  rw [b, opsG_nw]
  show 0 + nwC D = nwC D
  omega
theorem opsG_none (D : List Gp) (hD : ∀ e ∈ D, NoR e) : alv (rnG gs0 (opsG D)) = 0 := by
  have h1 := Rt.run D gs0 Rt.zero hD
  obtain ⟨e1, e2⟩ := Ea.run D gs0 Ea.zero
  have hn : (rnG gs0 D).n = nwC D := by rw [e2]; show 0 + nwC D = _; omega
  obtain ⟨d1, d2⟩ := unroots_dn (unl (nwC D)) _ h1
  have hU : rnG (rnG gs0 D) (uO (nwC D)) = rnG (rnG gs0 D) ((unl (nwC D)).map fun x : Nat => opU (x : Int)) := rfl
  rw [← hU] at d1 d2
  have h3 : ∀ x, (gstep (rnG (rnG gs0 D) (uO (nwC D))) opC).1.al x = false := by
    have e8 : (gstep (rnG (rnG gs0 D) (uO (nwC D))) opC).1 = coll (rnG (rnG gs0 D) (uO (nwC D))) := by unfold gstep opC; simp
    rw [e8]
    refine coll_none (d1.rtt h1) (fun x hx => ?_) (fun x hx => ?_)
    · rw [d1.n]; exact e1.ai x (d1.al x hx)
    · have := e1.ai x (d1.al x hx)
      rw [hn] at this
      exact d2 x (unl_mem _ x this.1 this.2) hx
  have h4 : ∀ x, (rnG gs0 (opsG D)).al x = false := by
    have e5 : rnG gs0 (opsG D) = rnG (gstep (rnG (rnG gs0 D) (uO (nwC D))) opC).1 (rnd (nwC D) ++ rnd (nwC D)) := by
      unfold opsG
      rw [List.append_assoc, List.append_assoc, rnG_app]
      conv => lhs; arg 2; rw [rnd, List.append_assoc]
      rw [rnG_app, List.singleton_append, rnG_cons]
      rfl
    rw [e5]
    refine none_run _ _ h3 (fun e he => ?_)
    rcases List.mem_append.1 he with h5 | h5 <;> (have := rnd_c h5; omega)
  unfold alv
  have key : ∀ m, sm m (fun k => if (rnG gs0 (opsG D)).al (k + 1) = true then 1 else 0) = 0 := by
    intro m
    induction m with
    | zero => rfl
    | succ m ih => rw [sm_succ, ih, h4]; rfl
  exact key _
end Go.Proofs.Ytjnalkeopehlbaa
