import Derived.Test.YtjnalkeopehlbaaGcB
import Derived.Test.YtjnalkeopehlbaaGrP
namespace Go.Proofs.Ytjnalkeopehlbaa
set_option linter.unusedVariables false
set_option linter.unusedSimpArgs false

/-- A row of operations, what it leaves. -/
noncomputable def rnG (S : Gs) (es : List Gp) : Gs := es.foldl (fun S e => (gstep S e).1) S
theorem rnG_app (S : Gs) (a b : List Gp) : rnG S (a ++ b) = rnG (rnG S a) b := by unfold rnG; rw [List.foldl_append]
theorem rnG_one (S : Gs) (e : Gp) : rnG S [e] = (gstep S e).1 := rfl
theorem rnG_cons (S : Gs) (e : Gp) (r : List Gp) : rnG S (e :: r) = rnG (gstep S e).1 r := rfl
theorem rnG_stA (es : List Gp) (k : Nat) : stA es k = rnG gs0 (es.take k) := rfl
theorem rnG_ok (es : List Gp) : Ok es.length (rnG gs0 es) := by
  have := stA_ok es es.length (Nat.le_refl _)
  rw [rnG_stA, List.take_length] at this
  exact this
def Nn (n x : Nat) : Prop := 1 ≤ x ∧ x ≤ n
/-- Before the root lets go. -/
structure Ph (n : Nat) (hs : List Gp) (c : Nat → Nat) (S : Gs) : Prop where
  nn : S.n = n
  al : ∀ x, Nn n x → S.al x = true
  rt : ∀ x, Nn n x → S.rt x = c x
  hl : ∀ x, Nn n x → ∀ y : Nat, y ∈ (S.hl x).map (·.1) ↔ ∃ e ∈ hs, e.a = (x : Int) ∧ e.b = (y : Int)
  fn : ∀ x, S.fn x = 0
def opN : Gp := ⟨1, 0, 0⟩
def opH (e : Gp) : Gp := ⟨2, e.a, e.b⟩
def opR (r : Int) : Gp := ⟨4, r, 0⟩
def opU (x : Int) : Gp := ⟨5, x, 0⟩
def opC : Gp := ⟨8, 0, 0⟩
def opA : Gp := ⟨10, 0, 0⟩
theorem ph_new : ∀ n, Ph n [] (fun _ => 1) (rnG gs0 (List.replicate n opN))
  | 0 => ⟨rfl, fun x hx => by have := hx.1; have := hx.2; omega, fun x hx => by have := hx.1; have := hx.2; omega, fun x hx => by have := hx.1; have := hx.2; omega, fun _ => rfl⟩
  | n + 1 => by
    have h := ph_new n
    rw [List.replicate_succ', rnG_app, rnG_one]
    generalize rnG gs0 (List.replicate n opN) = S at h
    have e : (gstep S opN).1 = newS S := by unfold gstep opN; simp
    rw [e]
    have hc : ∀ x, Nn (n + 1) x → x ≠ S.n + 1 → Nn n x := fun x hx hne => ⟨hx.1, by have := hx.2; rw [h.nn] at hne; omega⟩
    refine ⟨by show S.n + 1 = n + 1; rw [h.nn], fun x hx => ?_, fun x hx => ?_, fun x hx y => ?_, fun x => ?_⟩
    · show upd S.al (S.n + 1) true x = true
      by_cases e : x = S.n + 1
      · subst e; rw [upd_same]
      · rw [upd_ne _ _ e]; exact h.al x (hc x hx e)
    · show upd S.rt (S.n + 1) 1 x = 1
      by_cases e : x = S.n + 1
      · subst e; rw [upd_same]
      · rw [upd_ne _ _ e]; exact h.rt x (hc x hx e)
    · show y ∈ (upd S.hl (S.n + 1) [] x).map (·.1) ↔ _
      by_cases e : x = S.n + 1
      · subst e; rw [upd_same]; simp
      · rw [upd_ne _ _ e]; exact h.hl x (hc x hx e) y
    · show upd S.fn (S.n + 1) 0 x = 0
      by_cases e : x = S.n + 1
      · subst e; rw [upd_same]
      · rw [upd_ne _ _ e]; exact h.fn x
theorem Ph.okx {n : Nat} {hs : List Gp} {c : Nat → Nat} {S : Gs} (h : Ph n hs c S) {x : Int} (h1 : 1 ≤ x) (h2 : x ≤ n) : okx S x = true := by
  have h3 : decide (0 ≤ x) = true := decide_eq_true (by omega)
  have h4 := h.al x.toNat ⟨by omega, by omega⟩
  unfold Go.Proofs.Ytjnalkeopehlbaa.okx
  rw [h3, h4]
  rfl
theorem Ph.hold {n : Nat} {hs : List Gp} {c : Nat → Nat} {S : Gs} (h : Ph n hs c S) (e : Gp) (h1 : 1 ≤ e.a ∧ e.a ≤ n ∧ 1 ≤ e.b ∧ e.b ≤ n) : Ph n (hs ++ [e]) c (gstep S (opH e)).1 := by
  have e1 : (gstep S (opH e)).1 = holdS S e.a.toNat e.b.toNat := by
    have ha := h.okx h1.1 h1.2.1
    have hb := h.okx h1.2.2.1 h1.2.2.2
    unfold gstep opH
    simp [ha, hb]
  rw [e1]
  refine ⟨h.nn, h.al, h.rt, fun x hx y => ?_, h.fn⟩
  show y ∈ (upd S.hl e.a.toNat (incL (S.hl e.a.toNat) e.b.toNat) x).map (·.1) ↔ _
  by_cases ex : x = e.a.toNat
  · subst ex
    rw [upd_same, inc_keys]
    have hk : y ∈ (if e.b.toNat ∈ (S.hl e.a.toNat).map (·.1) then (S.hl e.a.toNat).map (·.1) else (S.hl e.a.toNat).map (·.1) ++ [e.b.toNat]) ↔ y ∈ (S.hl e.a.toNat).map (·.1) ∨ y = e.b.toNat := by
      split
      · rename_i hm
        constructor
        · exact .inl
        · rintro (h5 | h5)
          · exact h5
          · rw [h5]; exact hm
      · rw [List.mem_append, List.mem_singleton]
    rw [hk, h.hl _ hx]
    constructor
    · rintro (⟨q, hq, h5⟩ | h5)
      · exact ⟨q, List.mem_append_left _ hq, h5⟩
      · exact ⟨e, by simp, by omega, by omega⟩
    · rintro ⟨q, hq, h5, h6⟩
      rcases List.mem_append.1 hq with h7 | h7
      · exact .inl ⟨q, h7, h5, h6⟩
      · rw [List.mem_singleton] at h7; subst h7; right; omega
  · rw [upd_ne _ _ ex, h.hl x hx]
    constructor
    · rintro ⟨q, hq, h5⟩; exact ⟨q, List.mem_append_left _ hq, h5⟩
    · rintro ⟨q, hq, h5, h6⟩
      rcases List.mem_append.1 hq with h7 | h7
      · exact ⟨q, h7, h5, h6⟩
      · rw [List.mem_singleton] at h7; subst h7; exact absurd (by omega) ex
theorem Ph.holds {n : Nat} {c : Nat → Nat} : ∀ (hs pre : List Gp) (S : Gs), Ph n pre c S → OkE n hs → Ph n (pre ++ hs) c (rnG S (hs.map opH))
  | [], pre, S, h, _ => by rw [List.append_nil]; exact h
  | e :: r, pre, S, h, he => by
    rw [List.map_cons, rnG_cons, show pre ++ e :: r = (pre ++ [e]) ++ r by simp]
    exact Ph.holds r (pre ++ [e]) _ (h.hold e (he e (by simp))) (fun q hq => he q (by simp [hq]))
theorem Ph.root {n : Nat} {hs : List Gp} {c : Nat → Nat} {S : Gs} (h : Ph n hs c S) (r : Int) (h1 : 1 ≤ r) (h2 : r ≤ n) : Ph n hs (fun x => c x + if (x : Int) = r then 1 else 0) (gstep S (opR r)).1 := by
  have e1 : (gstep S (opR r)).1 = rootS S r.toNat := by
    have ha := h.okx h1 h2
    unfold gstep opR
    simp [ha]
  rw [e1]
  refine ⟨h.nn, h.al, fun x hx => ?_, h.hl, h.fn⟩
  show upd S.rt r.toNat (S.rt r.toNat + 1) x = c x + if (x : Int) = r then 1 else 0
  by_cases ex : x = r.toNat
  · have e2 : ((r.toNat : Nat) : Int) = r := by omega
    subst ex; rw [upd_same, if_pos e2, h.rt _ hx]
  · rw [upd_ne _ _ ex, if_neg (by omega), h.rt x hx, Nat.add_zero]
/-- How often the root holds x again. -/
def ctR (rs : List Int) (x : Nat) : Nat := rs.count (x : Int)
theorem Ph.congr {n : Nat} {hs : List Gp} {c c' : Nat → Nat} {S : Gs} (h : Ph n hs c S) (e : ∀ x, c x = c' x) : Ph n hs c' S := ⟨h.nn, h.al, fun x hx => (h.rt x hx).trans (e x), h.hl, h.fn⟩
theorem Ph.roots {n : Nat} {hs : List Gp} : ∀ (rs : List Int) (c : Nat → Nat) (S : Gs), Ph n hs c S → OkT n rs → Ph n hs (fun x => c x + ctR rs x) (rnG S (rs.map opR))
  | [], c, S, h, _ => h.congr (fun x => by simp [ctR])
  | r :: t, c, S, h, hr => by
    rw [List.map_cons, rnG_cons]
    have h1 := hr r (by simp)
    refine (Ph.roots t _ _ (h.root r h1.1 h1.2) (fun q hq => hr q (by simp [hq]))).congr (fun x => ?_)
    unfold ctR
    rw [List.count_cons]
    by_cases e : (x : Int) = r
    · rw [if_pos e, if_pos (by simp [e])]; omega
    · rw [if_neg e, if_neg (by simp; exact fun h => e h.symm)]; omega
/-- Looking at a thing, nothing being finalized. -/
structure Ln (S S' : Gs) : Prop where
  n : S'.n = S.n
  hl : S'.hl = S.hl
  fn : S'.fn = S.fn
  rt : S'.rt = S.rt
  al : ∀ x, S'.al x = true → S.al x = true
  ke : ∀ x, S.al x = true → 0 < S.rt x → S'.al x = true
theorem Ln.refl (S : Gs) : Ln S S := ⟨rfl, rfl, rfl, rfl, fun _ h => h, fun _ h _ => h⟩
theorem Ln.trans {A B C : Gs} (h : Ln A B) (k : Ln B C) : Ln A C := ⟨k.n.trans h.n, k.hl.trans h.hl, k.fn.trans h.fn, k.rt.trans h.rt, fun x hx => h.al x (k.al x hx), fun x hx hr => k.ke x (h.ke x hx hr) (by rw [h.rt]; exact hr)⟩
theorem finS_nf {S : Gs} (h : ∀ x, S.fn x = 0) (x : Nat) : finS S x = S := by unfold finS; rw [if_pos (.inl (h x))]
theorem look_nf (m : Nat) : ∀ (S : Gs) (x : Nat), (∀ x, S.fn x = 0) → Ln S (look m S x) := by
  induction m with
  | zero => intro S x _; exact Ln.refl S
  | succ m ih =>
    intro S x hf
    rw [look, finS_nf hf]
    split
    · exact Ln.refl S
    · rename_i hc
      split
      · exact Ln.refl S
      · rename_i h0
        have h1 : Ln S (freeS S x) := ⟨rfl, rfl, rfl, rfl, fun y hy => by
          have hy2 : upd S.al x false y = true := hy
          by_cases e : y = x
          · subst e; rw [upd_same] at hy2; cases hy2
          · rw [upd_ne _ _ e] at hy2; exact hy2, fun y hy hr => by
          show upd S.al x false y = true
          have e : y ≠ x := fun e => by
            subst e
            apply h0
            unfold cnt
            omega
          rw [upd_ne _ _ e]; exact hy⟩
        have key : ∀ (ys : List Nat) (A : Gs), (∀ x, A.fn x = 0) → Ln A (ys.foldl (look m) A) := by
          intro ys
          induction ys with
          | nil => intro A _; exact Ln.refl A
          | cons y r ihy =>
            intro A hA
            rw [List.foldl_cons]
            have h2 := ih A y hA
            exact h2.trans (ihy _ (fun z => by rw [h2.fn]; exact hA z))
        exact h1.trans (key _ _ hf)
/-- The root lets go of 1 .. m. -/
structure Pu (n : Nat) (hs : List Gp) (rs : List Int) (m : Nat) (S : Gs) : Prop where
  nn : S.n = n
  rt : ∀ x, Nn n x → S.al x = true → S.rt x = ctR rs x + if x ≤ m then 0 else 1
  al : ∀ x, Nn n x → 0 < ctR rs x → S.al x = true
  hl : ∀ x, Nn n x → ∀ y : Nat, y ∈ (S.hl x).map (·.1) ↔ ∃ e ∈ hs, e.a = (x : Int) ∧ e.b = (y : Int)
  fn : ∀ x, S.fn x = 0
theorem Ph.pu {n : Nat} {hs : List Gp} {rs : List Int} {S : Gs} (h : Ph n hs (fun x => 1 + ctR rs x) S) : Pu n hs rs 0 S :=
  ⟨h.nn, fun x hx _ => by rw [h.rt x hx, if_neg (by have := hx.1; omega)]; omega, fun x hx _ => h.al x hx, h.hl, h.fn⟩
theorem Pu.step {n : Nat} {hs : List Gp} {rs : List Int} {m : Nat} {S : Gs} (h : Pu n hs rs m S) (hm : m < n) : Pu n hs rs (m + 1) (gstep S (opU ((m : Int) + 1))).1 := by
  have ht : ((m : Int) + 1).toNat = m + 1 := by omega
  have hN : Nn n (m + 1) := ⟨by omega, by omega⟩
  cases ha : S.al (m + 1) with
  | false =>
    have hk : okx S ((m : Int) + 1) = false := by unfold okx; rw [ht, ha, Bool.and_false]
    have e1 : (gstep S (opU ((m : Int) + 1))).1 = S := by unfold gstep opU; simp [hk]
    rw [e1]
    refine ⟨h.nn, fun x hx hxa => ?_, h.al, h.hl, h.fn⟩
    rw [h.rt x hx hxa]
    have : x ≠ m + 1 := fun e => by subst e; rw [ha] at hxa; cases hxa
    by_cases e : x ≤ m
    · rw [if_pos e, if_pos (by omega)]
    · rw [if_neg e, if_neg (by omega)]
  | true =>
    have hk : okx S ((m : Int) + 1) = true := by unfold okx; rw [ht, ha, decide_eq_true (by omega)]; rfl
    have hrt := h.rt (m + 1) hN ha
    rw [if_neg (by omega)] at hrt
    have e1 : (gstep S (opU ((m : Int) + 1))).1 = look S.n (unrootS S (m + 1)) (m + 1) := by
      unfold gstep opU
      have h5 : ¬ S.rt (m + 1) = 0 := by omega
      simp [hk, ht, h5]
    rw [e1]
    have hL := look_nf S.n (unrootS S (m + 1)) (m + 1) h.fn
    generalize look S.n (unrootS S (m + 1)) (m + 1) = T at hL
    have hu : ∀ x, (unrootS S (m + 1)).rt x = upd S.rt (m + 1) (S.rt (m + 1) - 1) x := fun _ => rfl
    have hr : ∀ x, Nn n x → S.al x = true → (unrootS S (m + 1)).rt x = ctR rs x + if x ≤ m + 1 then 0 else 1 := fun x hx hxa => by
      rw [hu]
      by_cases e : x = m + 1
      · subst e; rw [upd_same, hrt, if_pos (Nat.le_refl _)]; omega
      · rw [upd_ne _ _ e, h.rt x hx hxa]
        by_cases e2 : x ≤ m
        · rw [if_pos e2, if_pos (by omega)]
        · rw [if_neg e2, if_neg (by omega)]
    refine ⟨hL.n.trans h.nn, fun x hx hxa => ?_, fun x hx hc => ?_, fun x hx y => ?_, fun x => ?_⟩
    · rw [hL.rt]; exact hr x hx (hL.al x hxa)
    · have hxa := h.al x hx hc
      refine hL.ke x hxa ?_
      rw [hr x hx hxa]; omega
    · rw [hL.hl]; exact h.hl x hx y
    · rw [hL.fn]; exact h.fn x
theorem Pu.all {n : Nat} {hs : List Gp} {rs : List Int} {S : Gs} (h : Pu n hs rs 0 S) : ∀ m, m ≤ n → Pu n hs rs m (rnG S ((List.range m).map fun i : Nat => opU ((i : Int) + 1)))
  | 0, _ => h
  | m + 1, hm => by
    rw [List.range_succ, List.map_append, List.map_singleton, rnG_app, rnG_one]
    exact (Pu.all h m (by omega)).step hm
theorem Pu.rc {n : Nat} {hs : List Gp} {rs : List Int} {S : Gs} {K : Nat} (h : Pu n hs rs n S) (hO : Ok K S) (hE : OkE n hs) (hT : OkT n rs) (x : Nat) : Rc S x ↔ Rch hs rs (x : Int) := by
  have hN : ∀ x, S.al x = true → Nn n x := fun x hx => by have := hO.iv.al x hx; rw [h.nn] at this; exact this
  constructor
  · intro hr
    induction hr with
    | @root x ha hr =>
      rw [h.rt x (hN x ha) ha, if_pos (hN x ha).2, Nat.add_zero] at hr
      exact Rch.root (List.count_pos_iff.1 hr)
    | @step x p _ ha hp ih =>
      obtain ⟨e, he, e1, e2⟩ := (h.hl x (hN x ha) p.1).1 (List.mem_map.2 ⟨p, hp, rfl⟩)
      rw [← e2]
      rw [← e1] at ih
      exact Rch.step ih he
  · intro hr
    have key : ∀ z : Int, Rch hs rs z → Rc S z.toNat := by
      intro z hz
      induction hz with
      | @root z hz =>
        have h1 := hT z hz
        have h3 : ((z.toNat : Nat) : Int) = z := by omega
        have h4 : 0 < ctR rs z.toNat := by unfold ctR; rw [h3]; exact List.count_pos_iff.2 hz
        have hn : Nn n z.toNat := ⟨by omega, by omega⟩
        have ha := h.al _ hn h4
        have h5 := h.rt _ hn ha
        exact Rc.root ha (by omega)
      | @step e _ he ih =>
        have h1 := hE e he
        have ha := ih.al hO.cl
        have hm := (h.hl e.a.toNat (hN _ ha) e.b.toNat).2 ⟨e, he, by omega, by omega⟩
        obtain ⟨p, hp, e5⟩ := List.mem_map.1 hm
        rw [← e5]
        exact Rc.step ih ha hp
    have := key x hr
    rw [Int.toNat_natCast] at this
    exact this
theorem coll_nf {S : Gs} (hf : ∀ x, S.fn x = 0) : (coll S).n = S.n ∧ (coll S).al = noneOf (lostL S) S.al := by
  have key : ∀ l : List Nat, l.foldl finS S = S := by
    intro l
    induction l with
    | nil => rfl
    | cons x r ih => rw [List.foldl_cons, finS_nf hf, ih]
  have h1 : S1 S = S := key _
  unfold coll deadL
  rw [h1, weaks_eq, frees_eq]
  exact ⟨rfl, rfl⟩
theorem sm_filter (p : Nat → Bool) : ∀ n, sm n (fun k => if p k = true then 1 else 0) = ((List.range n).filter p).length
  | 0 => rfl
  | n + 1 => by
    rw [sm_succ, sm_filter p n, List.range_succ, List.filter_append, List.length_append]
    congr 1
    cases h : p n <;> simp [h]
/-- The operations of a round. -/
def opsR (n : Nat) (hs : List Gp) (rs : List Int) : List Gp := List.replicate n opN ++ hs.map opH ++ rs.map opR ++ ((List.range n).map fun i : Nat => opU ((i : Int) + 1))
theorem reach_alv {n : Nat} {hs : List Gp} {rs : List Int} (hok : OkR n hs rs) : alv (coll (rnG gs0 (opsR n hs rs))) = (ansR n hs rs).length := by
  have h1 := (ph_new n).holds hs [] _ hok.2.2.1
  rw [List.nil_append] at h1
  have h2 := (h1.roots rs _ _ hok.2.2.2).pu.all n (Nat.le_refl _)
  have hO := rnG_ok (opsR n hs rs)
  have e : rnG gs0 (opsR n hs rs) = rnG (rnG (rnG (rnG gs0 (List.replicate n opN)) (hs.map opH)) (rs.map opR)) ((List.range n).map fun i : Nat => opU ((i : Int) + 1)) := by
    unfold opsR
    rw [rnG_app, rnG_app, rnG_app]
  rw [e] at hO ⊢
  generalize rnG (rnG (rnG (rnG gs0 (List.replicate n opN)) (hs.map opH)) (rs.map opR)) ((List.range n).map fun i : Nat => opU ((i : Int) + 1)) = S at h2 hO
  obtain ⟨c1, c2⟩ := coll_nf h2.fn
  have hrc := h2.rc hO hok.2.2.1 hok.2.2.2
  unfold alv ansR
  rw [if_pos hok, List.length_map, c1, c2, h2.nn, Int.toNat_natCast, ← sm_filter]
  apply sm_congr
  intro k hk
  have hal : noneOf (lostL S) S.al (k + 1) = true ↔ Rch hs rs ((k : Int) + 1) := by
    have h3 := hrc (k + 1)
    rw [show ((k + 1 : Nat) : Int) = (k : Int) + 1 by omega] at h3
    rw [← h3]
    unfold noneOf
    constructor
    · intro h5
      simp only [Bool.and_eq_true, Bool.not_eq_true'] at h5
      apply Classical.byContradiction
      intro hn
      have hm : k + 1 ∈ lostL S := lost_mem.2 ⟨⟨by omega, by rw [h2.nn]; omega⟩, h5.1, hn⟩
      have h6 := h5.2
      simp [hm] at h6
    · intro h5
      have hm : k + 1 ∉ lostL S := fun hm => (lost_mem.1 hm).2.2 h5
      simp [h5.al hO.cl, hm]
  by_cases h5 : Rch hs rs ((k : Int) + 1)
  · rw [if_pos (hal.2 h5), if_pos (by simp [h5])]
  · rw [if_neg (fun h6 => h5 (hal.1 h6)), if_neg (by simp [h5])]
def opsF (n : Nat) (hs : List Gp) (rs : List Int) : List Gp := opsR n hs rs ++ [opC, opA]
theorem opsF_len (n : Nat) (hs : List Gp) (rs : List Int) : (opsF n hs rs).length = n + hs.length + rs.length + n + 2 := by unfold opsF opsR; simp; omega
theorem reach_last {n : Nat} {hs : List Gp} {rs : List Int} (hok : OkR n hs rs) : ansA' (opsF n hs rs) ((opsR n hs rs).length + 1) = ((ansR n hs rs).length : Int) := by
  unfold ansA'
  have e1 : (opsF n hs rs).getD ((opsR n hs rs).length + 1) ⟨0, 0, 0⟩ = opA := by
    unfold opsF
    rw [List.getD, List.getElem?_append_right (by omega)]
    simp
  have e2 : stA (opsF n hs rs) ((opsR n hs rs).length + 1) = coll (rnG gs0 (opsR n hs rs)) := by
    rw [rnG_stA]
    unfold opsF
    rw [show opsR n hs rs ++ [opC, opA] = (opsR n hs rs ++ [opC]) ++ [opA] by simp, List.take_append_of_le_length (by simp), List.take_of_length_le (by simp), rnG_app, rnG_one]
    unfold gstep opC
    simp
  rw [e1, e2]
  have h3 := reach_alv hok
  unfold gstep opA
  simp
  rw [h3]
theorem ans_two : (ansR 2 [(⟨0, 1, 2⟩ : Gp)] [1]).length = 2 := by
  have hok : OkR 2 [(⟨0, 1, 2⟩ : Gp)] [1] := ⟨by omega, by omega, fun e he => by rw [List.mem_singleton] at he; subst he; exact ⟨by decide, by decide, by decide, by decide⟩, fun r hr => by rw [List.mem_singleton] at hr; subst hr; exact ⟨by decide, by decide⟩⟩
  have h1 : Rch [(⟨0, 1, 2⟩ : Gp)] [1] 1 := Rch.root (by simp)
  have h2 : Rch [(⟨0, 1, 2⟩ : Gp)] [1] 2 := Rch.step (e := ⟨0, 1, 2⟩) h1 (by simp)
  unfold ansR
  rw [if_pos hok, List.length_map, show (2 : Int).toNat = 2 from rfl, show List.range 2 = [0, 1] from rfl]
  have h1' : Rch [(⟨0, 1, 2⟩ : Gp)] [1] (((0 : Nat) : Int) + 1) := h1
  have h2' : Rch [(⟨0, 1, 2⟩ : Gp)] [1] (((1 : Nat) : Int) + 1) := h2
  rw [List.filter_cons_of_pos (by simpa using h1'), List.filter_cons_of_pos (by simpa using h2')]
  rfl
end Go.Proofs.Ytjnalkeopehlbaa
