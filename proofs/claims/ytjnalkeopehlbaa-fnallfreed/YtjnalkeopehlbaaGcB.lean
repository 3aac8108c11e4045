import Derived.Test.YtjnalkeopehlbaaGcA
namespace Go.Proofs.Ytjnalkeopehlbaa
set_option linter.unusedVariables false
set_option linter.unusedSimpArgs false

theorem tmo_cnt {S : Gs} (y x : Nat) (h1 : 1 ≤ y) (h2 : y ≤ S.n) (hy : S.al y = true) : tmo (S.hl y) x ≤ cnt S x := by
  have h := sm_one (fun k => if S.al (k + 1) = true then tmo (S.hl (k + 1)) x else 0) S.n (y - 1) (by omega)
  simp only [show y - 1 + 1 = y by omega, hy, if_true] at h
  unfold cnt; omega
theorem cl_free {k : Nat} {S : Gs} (h : Iv k S) (hc : Cl S) (x : Nat) (h0 : cnt S x = 0) : Cl (freeS S x) := by
  intro y hy p hp
  have e : y ≠ x := by
    intro e; subst e; unfold freeS at hy; simp [upd_same] at hy
  have hy2 : S.al y = true := by unfold freeS at hy; simp only [upd_ne _ _ e] at hy; exact hy
  have hp2 : p ∈ S.hl y := hp
  obtain ⟨a, b⟩ := h.al y hy2
  have e2 : p.1 ≠ x := by
    intro e2
    have h1 := tmo_cnt (S := S) y x a b hy2
    have h2 := tmo_pos (S.hl y) x (fun q hq => (h.hl y q hq).2.2.1) (List.mem_map.2 ⟨p, hp2, e2⟩)
    omega
  show upd S.al x false p.1 = true
  rw [upd_ne _ _ e2]
  exact hc y hy2 p hp2
theorem cl_fin {S : Gs} (hc : Cl S) (x : Nat) : Cl (finS S x) := by
  intro y hy p hp
  rw [finS_al] at hy ⊢
  rw [finS_hl] at hp
  exact hc y hy p hp
theorem look_cl (k : Nat) : ∀ (m : Nat) (S : Gs) (x : Nat), Iv k S → EvB S → Cl S → Cl (look m S x)
  | 0, S, x, _, _, h => h
  | m + 1, S, x, hI, hE, h => by
    rw [look]
    split
    · exact h
    · rename_i hc
      simp only [not_or, Bool.not_eq_false] at hc
      obtain ⟨h1, h2⟩ := hI.al x hc.1
      have hf := finS_iv hI x h1 h2
      have hfe := finS_evb hE x h1 h2
      split
      · exact cl_fin h x
      · rename_i h0
        have hx : (finS S x).al x = true := by rw [finS_al]; exact hc.1
        have h3 := freeS_iv hf x hx
        have h3e := freeS_evb hfe x h1 (by rw [finS_n]; exact h2) hx
        have h4 := cl_free hf (cl_fin h x) x (by omega)
        generalize freeS (finS S x) x = S2 at h3 h3e h4
        generalize (S.hl x).map (·.1) = ys
        clear hc h1 h2 hf hx h h0 hfe hE hI
        induction ys generalizing S2 with
        | nil => exact h4
        | cons y ys ih =>
          rw [List.foldl_cons]
          obtain ⟨a, a2, b⟩ := look_all k m S2 y h3 h3e
          exact ih _ a a2 (look_cl k m S2 y h3 h3e h4)
theorem looks_all (k m : Nat) : ∀ (ys : List Nat) (S : Gs), Iv k S → EvB S → Iv k (ys.foldl (look m) S) ∧ EvB (ys.foldl (look m) S) ∧ Lk S (ys.foldl (look m) S)
  | [], S, h, hE => ⟨h, hE, Lk.refl S⟩
  | y :: ys, S, h, hE => by
    obtain ⟨a, a2, b⟩ := look_all k m S y h hE
    obtain ⟨c, c2, d⟩ := looks_all k m ys _ a a2
    exact ⟨c, c2, b.trans d⟩
theorem Lk.alv {S S' : Gs} (h : Lk S S') : alv S' ≤ alv S := by
  unfold Go.Proofs.Ytjnalkeopehlbaa.alv
  rw [h.n]
  apply sm_mono
  intro k _
  show (if S'.al (k + 1) = true then 1 else 0) ≤ if S.al (k + 1) = true then 1 else 0
  by_cases e : S'.al (k + 1) = true
  · rw [if_pos e, if_pos (h.al _ e)]; exact Nat.le_refl _
  · rw [if_neg e]; exact Nat.zero_le _
theorem Lk.cnt {S S' : Gs} (h : Lk S S') (b : Nat) (hb : S.al b = false) : cnt S' b ≤ cnt S b := by
  unfold Go.Proofs.Ytjnalkeopehlbaa.cnt
  rw [h.n, (h.dead b hb).1, h.hl]
  have := sm_mono (f := fun k => if S'.al (k + 1) = true then tmo (S.hl (k + 1)) b else 0) (g := fun k => if S.al (k + 1) = true then tmo (S.hl (k + 1)) b else 0) S.n (fun k _ => by
    show (if S'.al (k + 1) = true then tmo (S.hl (k + 1)) b else 0) ≤ if S.al (k + 1) = true then tmo (S.hl (k + 1)) b else 0
    by_cases e : S'.al (k + 1) = true
    · rw [if_pos e, if_pos (h.al _ e)]; exact Nat.le_refl _
    · rw [if_neg e]; exact Nat.zero_le _)
  omega
theorem look_left {k m : Nat} {S : Gs} {b : Nat} (hI : Iv k S) (hE : EvB S) (hb : S.al b = true) (h : (look m S b).al b = false) : cnt (look m S b) b = 0 := by
  cases m with
  | zero => rw [look, hb] at h; cases h
  | succ m =>
    rw [look] at h ⊢
    split at h
    · rw [hb] at h; cases h
    · rename_i hc
      rw [if_neg hc]
      split at h
      · rw [finS_al, hb] at h; cases h
      · rename_i h0
        rw [if_neg h0]
        obtain ⟨h1, h2⟩ := hI.al b hb
        have hf := finS_iv hI b h1 h2
        have hfe := finS_evb hE b h1 h2
        have hx : (finS S b).al b = true := by rw [finS_al]; exact hb
        have h3 := cnt_free (S := finS S b) b b h1 (by rw [finS_n]; exact h2) hx
        obtain ⟨_, _, h4⟩ := looks_all k m ((S.hl b).map (·.1)) _ (freeS_iv hf b hx) (freeS_evb hfe b h1 (by rw [finS_n]; exact h2) hx)
        have h5 := h4.cnt b (by unfold freeS; simp [upd_same])
        omega
/-- What the root reaches. -/
inductive Rc (S : Gs) : Nat → Prop
  | root {x : Nat} (ha : S.al x = true) (h : 0 < S.rt x) : Rc S x
  | step {x : Nat} {p : Nat × Nat} (h : Rc S x) (ha : S.al x = true) (hp : p ∈ S.hl x) : Rc S p.1
theorem Rc.al {S : Gs} (hc : Cl S) {x : Nat} (h : Rc S x) : S.al x = true := by
  cases h with
  | root ha _ => exact ha
  | step h ha hp => exact hc _ ha _ hp
open Classical in
noncomputable def lostL (S : Gs) : List Nat := ((List.range S.n).map (· + 1)).filter fun x => S.al x && !decide (Rc S x)
theorem lost_mem {S : Gs} {x : Nat} : x ∈ lostL S ↔ (1 ≤ x ∧ x ≤ S.n) ∧ S.al x = true ∧ ¬ Rc S x := by
  unfold lostL
  rw [List.mem_filter, List.mem_map]
  simp only [Bool.and_eq_true, Bool.not_eq_true', decide_eq_false_iff_not]
  constructor
  · rintro ⟨⟨j, hj, rfl⟩, h⟩
    exact ⟨⟨by omega, by have := List.mem_range.1 hj; omega⟩, h⟩
  · rintro ⟨⟨h1, h2⟩, h⟩
    exact ⟨⟨x - 1, List.mem_range.2 (by omega), by omega⟩, h⟩
theorem lost_nodup (S : Gs) : (lostL S).Nodup := by
  unfold lostL
  have h : ((List.range S.n).map (· + 1)).Nodup := by
    rw [List.Nodup, List.pairwise_map]
    have := List.pairwise_lt_range (n := S.n)
    exact this.imp (fun h => by omega)
  exact List.Pairwise.filter _ h
theorem lost_len (S : Gs) : (lostL S).length ≤ S.n := pigeonN _ _ (lost_nodup S) (fun x hx => (lost_mem.1 hx).1)
noncomputable def finsS (S : Gs) (l : List Nat) : Gs := l.foldl finS S
def weakS (S : Gs) (x : Nat) : Gs := { S with ev := S.ev ++ wkE S x }
def freeO (S : Gs) (x : Nat) : Gs := { S with al := upd S.al x false, ev := S.ev ++ [(3, x)] }
theorem free_two (S : Gs) (x : Nat) : freeS S x = freeO (weakS S x) x := rfl
noncomputable def S1 (S : Gs) : Gs := (lostL S).foldl finS S
noncomputable def deadL (S : Gs) : List Nat := lostL (S1 S)
noncomputable def coll (S : Gs) : Gs := (deadL S).foldl freeO ((deadL S).foldl weakS (S1 S))
structure Fk (S S' : Gs) : Prop where
  n : S'.n = S.n
  hl : S'.hl = S.hl
  wk : S'.wk = S.wk
  fn : S'.fn = S.fn
  al : S'.al = S.al
  rt : ∀ x, S.rt x ≤ S'.rt x
theorem Fk.refl (S : Gs) : Fk S S := ⟨rfl, rfl, rfl, rfl, rfl, fun _ => Nat.le_refl _⟩
theorem Fk.trans {A B C : Gs} (h1 : Fk A B) (h2 : Fk B C) : Fk A C := ⟨h2.n.trans h1.n, h2.hl.trans h1.hl, h2.wk.trans h1.wk, h2.fn.trans h1.fn, h2.al.trans h1.al, fun x => Nat.le_trans (h1.rt x) (h2.rt x)⟩
theorem Fk.fin (S : Gs) (x : Nat) : Fk S (finS S x) := ⟨finS_n S x, finS_hl S x, finS_wk S x, finS_fn S x, finS_al S x, finS_rt_ge S x⟩
theorem fins_all {k : Nat} : ∀ (l : List Nat) (S : Gs), Iv k S → EvB S → (∀ x ∈ l, 1 ≤ x ∧ x ≤ S.n) → Iv k (l.foldl finS S) ∧ EvB (l.foldl finS S) ∧ Fk S (l.foldl finS S)
  | [], S, h, hE, _ => ⟨h, hE, Fk.refl S⟩
  | x :: l, S, h, hE, hl => by
    obtain ⟨h1, h2⟩ := hl x (by simp)
    obtain ⟨a, b, c⟩ := fins_all l (finS S x) (finS_iv h x h1 h2) (finS_evb hE x h1 h2) (fun y hy => by rw [finS_n]; exact hl y (by simp [hy]))
    exact ⟨a, b, (Fk.fin S x).trans c⟩
theorem S1_all {k : Nat} {S : Gs} (h : Iv k S) (hE : EvB S) : Iv k (S1 S) ∧ EvB (S1 S) ∧ Fk S (S1 S) := fins_all _ S h hE (fun x hx => (lost_mem.1 hx).1)
theorem Rc.mono {S S' : Gs} (h : Fk S S') {x : Nat} (hx : Rc S x) : Rc S' x := by
  induction hx with
  | @root y ha hr => exact Rc.root (by rw [h.al]; exact ha) (by have := h.rt y; omega)
  | step _ ha hp ih => exact Rc.step ih (by rw [h.al]; exact ha) (by rw [h.hl]; exact hp)
theorem dead_sub {k : Nat} {S : Gs} (h : Iv k S) (hE : EvB S) {x : Nat} (hx : x ∈ deadL S) : x ∈ lostL S := by
  obtain ⟨_, _, hf⟩ := S1_all h hE
  obtain ⟨a, b, c⟩ := lost_mem.1 hx
  rw [hf.n] at a
  rw [hf.al] at b
  exact lost_mem.2 ⟨a, b, fun hr => c (hr.mono hf)⟩
open Classical in
/-- The second search among the lost. -/
theorem dead_filter {k : Nat} {S : Gs} (h : Iv k S) (hE : EvB S) : deadL S = (lostL S).filter fun x => !decide (Rc (S1 S) x) := by
  obtain ⟨_, _, hf⟩ := S1_all h hE
  unfold deadL lostL
  rw [List.filter_filter, hf.n, hf.al]
  apply List.filter_congr
  intro x _
  by_cases h1 : Rc (S1 S) x
  · simp [h1]
  · have h2 : ¬ Rc S x := fun hr => h1 (hr.mono hf)
    simp [h1, h2]
theorem weaks_eq (S : Gs) : ∀ l : List Nat, l.foldl weakS S = { S with ev := S.ev ++ l.flatMap (wkE S) } := by
  intro l
  induction l generalizing S with
  | nil => simp
  | cons x l ih =>
    rw [List.foldl_cons, ih]
    unfold weakS
    simp only [List.flatMap_cons, List.append_assoc]
    rfl
def noneOf (l : List Nat) (al : Nat → Bool) : Nat → Bool := fun x => al x && !(l.contains x)
theorem frees_eq (S : Gs) : ∀ l : List Nat, l.foldl freeO S = { S with al := noneOf l S.al, ev := S.ev ++ l.map (fun x => (3, x)) } := by
  intro l
  induction l generalizing S with
  | nil =>
    simp only [List.foldl_nil, List.map_nil, List.append_nil]
    rw [show noneOf [] S.al = S.al from by funext x; simp [noneOf]]
  | cons x l ih =>
    rw [List.foldl_cons, ih]
    unfold freeO
    simp only [List.map_cons, List.append_assoc, List.singleton_append]
    congr 1
    funext y
    unfold noneOf upd
    by_cases e : y = x
    · simp [e]
    · simp [e]
theorem wkE_len (S : Gs) (l : List Nat) : (l.flatMap (wkE S)).length ≤ l.length := by
  induction l with
  | nil => simp
  | cons x l ih =>
    rw [List.flatMap_cons, List.length_append, List.length_cons]
    have : (wkE S x).length ≤ 1 := by unfold wkE; split <;> simp
    omega
theorem evb_none {S : Gs} : ∀ (l : List Nat), l.Nodup → (∀ x ∈ l, 1 ≤ x ∧ x ≤ S.n ∧ S.al x = true) → evb { S with al := noneOf l S.al } = evb S + 2 * l.length := by
  intro l
  induction l with
  | nil =>
    intro _ _
    have : noneOf [] S.al = S.al := by funext x; simp [noneOf]
    rw [this]; simp
  | cons x l ih =>
    intro hn h
    rw [List.nodup_cons] at hn
    have h1 := ih hn.2 (fun y hy => h y (by simp [hy]))
    obtain ⟨a, b, c⟩ := h x (by simp)
    have h4 := sm_upd (fun k => (if S.rn (k + 1) = true then 1 else 0) + (if noneOf l S.al (k + 1) = true then 0 else 2)) (fun k => (if S.rn (k + 1) = true then 1 else 0) + (if noneOf (x :: l) S.al (k + 1) = true then 0 else 2)) (x - 1) S.n (by omega) (fun k hk => by
      have : noneOf (x :: l) S.al (k + 1) = noneOf l S.al (k + 1) := by
        unfold noneOf
        have e : ¬ (k + 1 = x) := by omega
        simp [e]
      show _ + (if noneOf (x :: l) S.al (k + 1) = true then 0 else 2) = _
      rw [this])
    have e1 : noneOf l S.al x = true := by unfold noneOf; simp [c, hn.1]
    have e2 : noneOf (x :: l) S.al x = false := by unfold noneOf; simp
    simp only [show x - 1 + 1 = x by omega, e1, e2] at h4
    unfold evb at h1 ⊢
    simp at h1 h4 ⊢
    omega
theorem coll_all {k : Nat} {S : Gs} (h : Iv k S) (hE : EvB S) (hc : Cl S) : Iv k (coll S) ∧ EvB (coll S) ∧ Cl (coll S) := by
  obtain ⟨a, b, hf⟩ := S1_all h hE
  have hd := fun x (hx : x ∈ deadL S) => lost_mem.1 hx
  have hl1 := wkE_len (S1 S) (deadL S)
  have hnd : (deadL S).Nodup := lost_nodup _
  unfold coll
  rw [weaks_eq, frees_eq]
  simp only
  refine ⟨⟨a.n, fun x hx => ?_, a.rt, a.wk, a.fn, a.nd, a.hl, fun e he => ?_⟩, ?_, ?_⟩
  · unfold noneOf at hx
    simp only [Bool.and_eq_true] at hx
    exact a.al x hx.1
  · rcases List.mem_append.1 he with h1 | h1
    · rcases List.mem_append.1 h1 with h2 | h2
      · exact a.evs e h2
      · obtain ⟨x, hx, h3⟩ := List.mem_flatMap.1 h2
        unfold wkE at h3
        split at h3
        · simp at h3; subst h3; exact ⟨by show 2 ≤ 3; omega, (hd x hx).1.2⟩
        · simp at h3
    · obtain ⟨x, hx, rfl⟩ := List.mem_map.1 h1
      exact ⟨Nat.le_refl _, (hd x hx).1.2⟩
  · have h1 := evb_none (S := S1 S) (deadL S) hnd (fun x hx => ⟨(hd x hx).1.1, (hd x hx).1.2, (hd x hx).2.1⟩)
    unfold EvB at b ⊢
    have h2 : evb { S1 S with al := noneOf (deadL S) (S1 S).al, ev := (S1 S).ev ++ (deadL S).flatMap (wkE (S1 S)) ++ (deadL S).map (fun x => (3, x)) } = evb { S1 S with al := noneOf (deadL S) (S1 S).al } := rfl
    rw [h2, h1]
    simp only [List.length_append, List.length_map]
    omega
  · intro x hx p hp
    have hx2 : noneOf (deadL S) (S1 S).al x = true := hx
    have hp2 : p ∈ (S1 S).hl x := hp
    unfold noneOf at hx2
    simp only [Bool.and_eq_true, Bool.not_eq_true'] at hx2
    have hxa := hx2.1
    have hxr : Rc (S1 S) x := by
      apply Classical.byContradiction
      intro hr
      have : x ∈ deadL S := lost_mem.2 ⟨a.al x hxa, hxa, hr⟩
      have h3 := hx2.2
      simp [this] at h3
    have hpr : Rc (S1 S) p.1 := Rc.step hxr hxa hp2
    show noneOf (deadL S) (S1 S).al p.1 = true
    unfold noneOf
    have hpa : (S1 S).al p.1 = true := by
      rw [hf.al]
      rw [hf.al] at hxa
      rw [hf.hl] at hp2
      exact hc x hxa p hp2
    have hpd : p.1 ∉ deadL S := fun hm => (lost_mem.1 hm).2.2 hpr
    simp [hpa, hpd]
/-- The operations. -/
def newS (S : Gs) : Gs := ⟨S.n + 1, upd S.al (S.n + 1) true, upd S.rt (S.n + 1) 1, upd S.wk (S.n + 1) 0, upd S.fn (S.n + 1) 0, upd S.rn (S.n + 1) false, upd S.hl (S.n + 1) [], S.ev⟩
def holdS (S : Gs) (a b : Nat) : Gs := { S with hl := upd S.hl a (incL (S.hl a) b) }
def dropS (S : Gs) (a b : Nat) : Gs := { S with hl := upd S.hl a (decL (S.hl a) b) }
def rootS (S : Gs) (a : Nat) : Gs := { S with rt := upd S.rt a (S.rt a + 1) }
def unrootS (S : Gs) (a : Nat) : Gs := { S with rt := upd S.rt a (S.rt a - 1) }
def weakenS (S : Gs) (a : Nat) : Gs := { S with wk := upd S.wk a (S.wk a + 1) }
def finalS (S : Gs) (a f : Nat) : Gs := { S with fn := upd S.fn a f }
def okx (S : Gs) (x : Int) : Bool := decide (0 ≤ x) && S.al x.toNat
def leftS (S : Gs) (x : Nat) : Nat := if S.al x then cnt S x else 0
open Classical in
noncomputable def gstep (S : Gs) (e : Gp) : Gs × Int :=
  if e.c = 1 then (newS S, (S.n + 1 : Nat))
  else if e.c = 8 then (coll S, ((deadL S).length : Nat))
  else if e.c = 10 then (S, (alv S : Nat))
  else if okx S e.a = false then (S, -1)
  else if e.c = 2 then (if okx S e.b = false then (S, -1) else (holdS S e.a.toNat e.b.toNat, (cnt (holdS S e.a.toNat e.b.toNat) e.b.toNat : Nat)))
  else if e.c = 3 then (if okx S e.b = false ∨ e.b.toNat ∉ (S.hl e.a.toNat).map (·.1) then (S, -1) else (look S.n (dropS S e.a.toNat e.b.toNat) e.b.toNat, (leftS (look S.n (dropS S e.a.toNat e.b.toNat) e.b.toNat) e.b.toNat : Nat)))
  else if e.c = 4 then (rootS S e.a.toNat, (cnt (rootS S e.a.toNat) e.a.toNat : Nat))
  else if e.c = 5 then (if S.rt e.a.toNat = 0 then (S, -1) else (look S.n (unrootS S e.a.toNat) e.a.toNat, (leftS (look S.n (unrootS S e.a.toNat) e.a.toNat) e.a.toNat : Nat)))
  else if e.c = 6 then (weakenS S e.a.toNat, (S.wk e.a.toNat + 1 : Nat))
  else if e.c = 7 then (if e.b < 0 ∨ 2 < e.b then (S, -1) else (finalS S e.a.toNat e.b.toNat, e.b))
  else if e.c = 9 then (S, (cnt S e.a.toNat : Nat))
  else (S, -1)
theorem Iv.succ {k : Nat} {S : Gs} (h : Iv k S) : Iv (k + 1) S := ⟨by have := h.n; omega, h.al, fun x => by have := h.rt x; omega, fun x => by have := h.wk x; omega, h.fn, h.nd, fun x p hp => by have := h.hl x p hp; omega, h.evs⟩
structure Ok (k : Nat) (S : Gs) : Prop where
  iv : Iv k S
  ev : EvB S
  cl : Cl S
theorem Ok.succ {k : Nat} {S : Gs} (h : Ok k S) : Ok (k + 1) S := ⟨h.iv.succ, h.ev, h.cl⟩
theorem okx_iff {k : Nat} {S : Gs} (h : Iv k S) {x : Int} : okx S x = true → 1 ≤ x ∧ x ≤ S.n ∧ S.al x.toNat = true := by
  intro h1
  unfold okx at h1
  simp only [Bool.and_eq_true, decide_eq_true_eq] at h1
  have := h.al _ h1.2
  exact ⟨by omega, by omega, h1.2⟩
theorem Ok.new {k : Nat} {S : Gs} (h : Ok k S) : Ok (k + 1) (newS S) := by
  obtain ⟨hI, hE, hc⟩ := h
  have nh : ∀ x, S.al x = true → x ≠ S.n + 1 := fun x hx e => by have := hI.al x hx; omega
  refine ⟨⟨by have := hI.n; show S.n + 1 ≤ k + 1; omega, fun x hx => ?_, fun x => ?_, fun x => ?_, fun x => ?_, fun x => ?_, fun x p hp => ?_, fun e he => ?_⟩, ?_, ?_⟩
  · show 1 ≤ x ∧ x ≤ S.n + 1
    by_cases e : x = S.n + 1
    · omega
    · have := hI.al x (by unfold newS at hx; simp only [upd_ne _ _ e] at hx; exact hx); omega
  · show upd S.rt (S.n + 1) 1 x ≤ k + 1 + if upd S.rn (S.n + 1) false x = true then 1 else 0
    by_cases e : x = S.n + 1
    · subst e; rw [upd_same, upd_same]; simp
    · rw [upd_ne _ _ e, upd_ne _ _ e]; have := hI.rt x; omega
  · show upd S.wk (S.n + 1) 0 x ≤ k + 1
    by_cases e : x = S.n + 1
    · subst e; rw [upd_same]; omega
    · rw [upd_ne _ _ e]; have := hI.wk x; omega
  · show upd S.fn (S.n + 1) 0 x ≤ 2
    by_cases e : x = S.n + 1
    · subst e; rw [upd_same]; omega
    · rw [upd_ne _ _ e]; exact hI.fn x
  · show ((upd S.hl (S.n + 1) [] x).map (·.1)).Nodup
    by_cases e : x = S.n + 1
    · subst e; rw [upd_same]; exact List.nodup_nil
    · rw [upd_ne _ _ e]; exact hI.nd x
  · have hp2 : p ∈ upd S.hl (S.n + 1) [] x := hp
    by_cases e : x = S.n + 1
    · subst e; rw [upd_same] at hp2; cases hp2
    · rw [upd_ne _ _ e] at hp2; have := hI.hl x p hp2; show 1 ≤ p.1 ∧ p.1 ≤ S.n + 1 ∧ 1 ≤ p.2 ∧ p.2 ≤ k + 1; omega
  · have := hI.evs e he; show e.1 ≤ 3 ∧ e.2 ≤ S.n + 1; omega
  · unfold EvB evb at hE ⊢
    show S.ev.length ≤ sm (S.n + 1) (fun j => (if upd S.rn (S.n + 1) false (j + 1) = true then 1 else 0) + (if upd S.al (S.n + 1) true (j + 1) = true then 0 else 2))
    rw [sm_succ, sm_congr (g := fun j => (if S.rn (j + 1) = true then 1 else 0) + (if S.al (j + 1) = true then 0 else 2)) S.n (fun j hj => by
      show _ + _ = _ + _
      rw [upd_ne _ _ (by omega), upd_ne _ _ (by omega)])]
    omega
  · intro x hx p hp
    have hp2 : p ∈ upd S.hl (S.n + 1) [] x := hp
    show upd S.al (S.n + 1) true p.1 = true
    by_cases e : x = S.n + 1
    · subst e; rw [upd_same] at hp2; cases hp2
    · rw [upd_ne _ _ e] at hp2
      have h1 := hI.hl x p hp2
      rw [upd_ne _ _ (by omega)]
      exact hc x (by unfold newS at hx; simp only [upd_ne _ _ e] at hx; exact hx) p hp2
theorem Ok.hold {k : Nat} {S : Gs} (h : Ok k S) (a b : Nat) (hb : S.al b = true) : Ok (k + 1) (holdS S a b) := by
  obtain ⟨hI, hE, hc⟩ := h
  have hbb := hI.al b hb
  refine ⟨⟨hI.succ.n, hI.al, hI.succ.rt, hI.succ.wk, hI.fn, fun x => ?_, fun x p hp => ?_, hI.evs⟩, hE, fun x hx p hp => ?_⟩
  · show ((upd S.hl a (incL (S.hl a) b) x).map (·.1)).Nodup
    by_cases e : x = a
    · subst e
      rw [upd_same, inc_keys]
      split
      · exact hI.nd x
      · rename_i h1
        rw [List.nodup_append]
        refine ⟨hI.nd x, by simp, fun y hy z hz => ?_⟩
        simp only [List.mem_singleton] at hz
        subst hz
        exact fun e => h1 (e ▸ hy)
    · rw [upd_ne _ _ e]; exact hI.nd x
  · have hp2 : p ∈ upd S.hl a (incL (S.hl a) b) x := hp
    show 1 ≤ p.1 ∧ p.1 ≤ S.n ∧ 1 ≤ p.2 ∧ p.2 ≤ k + 1
    by_cases e : x = a
    · subst e
      rw [upd_same] at hp2
      rcases inc_mem _ _ p hp2 with h1 | ⟨h1, h2 | ⟨q, h3, h4⟩⟩
      · have := hI.hl x p h1; omega
      · omega
      · have := hI.hl x q h3; omega
    · rw [upd_ne _ _ e] at hp2
      have := hI.hl x p hp2; omega
  · have hp2 : p ∈ upd S.hl a (incL (S.hl a) b) x := hp
    show S.al p.1 = true
    by_cases e : x = a
    · subst e
      rw [upd_same] at hp2
      rcases inc_mem _ _ p hp2 with h1 | ⟨h1, _⟩
      · exact hc x hx p h1
      · rw [h1]; exact hb
    · rw [upd_ne _ _ e] at hp2
      exact hc x hx p hp2
theorem Ok.drop {k : Nat} {S : Gs} (h : Ok k S) (a b : Nat) : Ok k (dropS S a b) := by
  obtain ⟨hI, hE, hc⟩ := h
  have h1 : ∀ x, ∀ p ∈ S.hl x, 1 ≤ p.2 := fun x p hp => (hI.hl x p hp).2.2.1
  refine ⟨⟨hI.n, hI.al, hI.rt, hI.wk, hI.fn, fun x => ?_, fun x p hp => ?_, hI.evs⟩, hE, fun x hx p hp => ?_⟩
  · show ((upd S.hl a (decL (S.hl a) b) x).map (·.1)).Nodup
    by_cases e : x = a
    · subst e; rw [upd_same]; exact (dec_sub _ _).nodup (hI.nd x)
    · rw [upd_ne _ _ e]; exact hI.nd x
  · have hp2 : p ∈ upd S.hl a (decL (S.hl a) b) x := hp
    show 1 ≤ p.1 ∧ p.1 ≤ S.n ∧ 1 ≤ p.2 ∧ p.2 ≤ k
    by_cases e : x = a
    · subst e
      rw [upd_same] at hp2
      obtain ⟨h2, q, h3, h4, h5⟩ := dec_mem _ _ (h1 x) p hp2
      have := hI.hl x q h3; omega
    · rw [upd_ne _ _ e] at hp2
      exact hI.hl x p hp2
  · have hp2 : p ∈ upd S.hl a (decL (S.hl a) b) x := hp
    show S.al p.1 = true
    by_cases e : x = a
    · subst e
      rw [upd_same] at hp2
      obtain ⟨h2, q, h3, h4, h5⟩ := dec_mem _ _ (h1 x) p hp2
      rw [← h4]; exact hc x hx q h3
    · rw [upd_ne _ _ e] at hp2
      exact hc x hx p hp2
theorem Ok.root {k : Nat} {S : Gs} (h : Ok k S) (a : Nat) : Ok (k + 1) (rootS S a) := by
  obtain ⟨hI, hE, hc⟩ := h
  refine ⟨⟨hI.succ.n, hI.al, fun x => ?_, hI.succ.wk, hI.fn, hI.nd, hI.succ.hl, hI.evs⟩, hE, hc⟩
  show upd S.rt a (S.rt a + 1) x ≤ k + 1 + if S.rn x = true then 1 else 0
  have := hI.rt x
  by_cases e : x = a
  · subst e; rw [upd_same]; omega
  · rw [upd_ne _ _ e]; omega
theorem Ok.unroot {k : Nat} {S : Gs} (h : Ok k S) (a : Nat) : Ok k (unrootS S a) := by
  obtain ⟨hI, hE, hc⟩ := h
  refine ⟨⟨hI.n, hI.al, fun x => ?_, hI.wk, hI.fn, hI.nd, hI.hl, hI.evs⟩, hE, hc⟩
  show upd S.rt a (S.rt a - 1) x ≤ k + if S.rn x = true then 1 else 0
  have := hI.rt x
  by_cases e : x = a
  · subst e; rw [upd_same]; omega
  · rw [upd_ne _ _ e]; omega
theorem Ok.weaken {k : Nat} {S : Gs} (h : Ok k S) (a : Nat) : Ok (k + 1) (weakenS S a) := by
  obtain ⟨hI, hE, hc⟩ := h
  refine ⟨⟨hI.succ.n, hI.al, hI.succ.rt, fun x => ?_, hI.fn, hI.nd, hI.succ.hl, hI.evs⟩, hE, hc⟩
  show upd S.wk a (S.wk a + 1) x ≤ k + 1
  have := hI.wk x
  by_cases e : x = a
  · subst e; rw [upd_same]; omega
  · rw [upd_ne _ _ e]; omega
theorem Ok.final {k : Nat} {S : Gs} (h : Ok k S) (a f : Nat) (hf : f ≤ 2) : Ok k (finalS S a f) := by
  obtain ⟨hI, hE, hc⟩ := h
  refine ⟨⟨hI.n, hI.al, hI.rt, hI.wk, fun x => ?_, hI.nd, hI.hl, hI.evs⟩, hE, hc⟩
  show upd S.fn a f x ≤ 2
  by_cases e : x = a
  · subst e; rw [upd_same]; omega
  · rw [upd_ne _ _ e]; exact hI.fn x
theorem Ok.look {k : Nat} {S : Gs} (h : Ok k S) (m x : Nat) : Ok k (look m S x) := by
  obtain ⟨a, b, _⟩ := look_all k m S x h.iv h.ev
  exact ⟨a, b, look_cl k m S x h.iv h.ev h.cl⟩
theorem Ok.coll {k : Nat} {S : Gs} (h : Ok k S) : Ok k (coll S) := by
  obtain ⟨a, b, c⟩ := coll_all h.iv h.ev h.cl
  exact ⟨a, b, c⟩
theorem Ok.step {k : Nat} {S : Gs} (h : Ok k S) (e : Gp) : Ok (k + 1) (gstep S e).1 := by
  unfold gstep
  by_cases h1 : e.c = 1
  · rw [if_pos h1]; exact h.new
  rw [if_neg h1]
  by_cases h2 : e.c = 8
  · rw [if_pos h2]; exact h.coll.succ
  rw [if_neg h2]
  by_cases h3 : e.c = 10
  · rw [if_pos h3]; exact h.succ
  rw [if_neg h3]
  by_cases h4 : okx S e.a = false
  · rw [if_pos h4]; exact h.succ
  rw [if_neg h4]
  by_cases h5 : e.c = 2
  · rw [if_pos h5]
    by_cases hb : okx S e.b = false
    · rw [if_pos hb]; exact h.succ
    · rw [if_neg hb]; exact h.hold _ _ (okx_iff h.iv (by simpa using hb)).2.2
  rw [if_neg h5]
  by_cases h6 : e.c = 3
  · rw [if_pos h6]
    by_cases hb : okx S e.b = false ∨ e.b.toNat ∉ (S.hl e.a.toNat).map (·.1)
    · rw [if_pos hb]; exact h.succ
    · rw [if_neg hb]; exact ((h.drop _ _).look _ _).succ
  rw [if_neg h6]
  by_cases h7 : e.c = 4
  · rw [if_pos h7]; exact h.root _
  rw [if_neg h7]
  by_cases h8 : e.c = 5
  · rw [if_pos h8]
    by_cases hb : S.rt e.a.toNat = 0
    · rw [if_pos hb]; exact h.succ
    · rw [if_neg hb]; exact ((h.unroot _).look _ _).succ
  rw [if_neg h8]
  by_cases h9 : e.c = 6
  · rw [if_pos h9]; exact h.weaken _
  rw [if_neg h9]
  by_cases h10 : e.c = 7
  · rw [if_pos h10]
    by_cases hb : e.b < 0 ∨ 2 < e.b
    · rw [if_pos hb]; exact h.succ
    · rw [if_neg hb]; exact (h.final _ _ (by omega)).succ
  rw [if_neg h10]
  by_cases h11 : e.c = 9
  · rw [if_pos h11]; exact h.succ
  · rw [if_neg h11]; exact h.succ
/-- A row of operations. -/
noncomputable def runS : List Gp → Gs → Gs × List Int
  | [], S => (S, [])
  | e :: r, S => ((runS r (gstep S e).1).1, (gstep S e).2 :: (runS r (gstep S e).1).2)
noncomputable def stA (es : List Gp) (k : Nat) : Gs := (es.take k).foldl (fun S e => (gstep S e).1) gs0
noncomputable def ansA' (es : List Gp) (k : Nat) : Int := (gstep (stA es k) (es.getD k ⟨0, 0, 0⟩)).2
noncomputable def outA (es : List Gp) (k : Nat) : List Int := (List.range k).map (ansA' es)
theorem stA_succ (es : List Gp) (k : Nat) (hk : k < es.length) : stA es (k + 1) = (gstep (stA es k) es[k]).1 := by
  unfold stA
  rw [List.take_succ_eq_append_getElem hk, List.foldl_append]; rfl
theorem outA_succ (es : List Gp) (k : Nat) (hk : k < es.length) : outA es (k + 1) = outA es k ++ [(gstep (stA es k) es[k]).2] := by
  unfold outA
  rw [List.range_succ, List.map_append, List.map_singleton]
  congr 2
  unfold ansA'
  rw [show es.getD k ⟨0, 0, 0⟩ = es[k] by simp [List.getD, List.getElem?_eq_getElem hk]]
theorem stA_ok (es : List Gp) : ∀ k, k ≤ es.length → Ok k (stA es k)
  | 0, _ => by
    show Ok 0 gs0
    exact ⟨Iv.zero 0, Nat.zero_le _, Cl.zero⟩
  | k + 1, h => by
    rw [stA_succ es k h]
    exact (stA_ok es k (by omega)).step _
end Go.Proofs.Ytjnalkeopehlbaa
