import Derived.Test.YtjnalkeopehlbaaGrJ
import Derived.Test.YtjnalkeopehlbaaGrP
namespace Go.Proofs.Ytjnalkeopehlbaa
set_option linter.unusedVariables false
set_option linter.unusedSimpArgs false

/-- How long all rows are. -/
def lenR (ord : Nat → List Nat) (n1 : Nat) : Nat := ((List.range n1).map fun i => (ord i).length).sum
theorem lenR_succ (ord : Nat → List Nat) (n : Nat) : lenR ord (n + 1) = lenR ord n + (ord n).length := by
  unfold lenR
  rw [List.range_succ, List.map_append, List.sum_append]
  simp
theorem lenR_le (ord ord' : Nat → List Nat) (i : Nat) (h : ∀ k, k ≠ i → ord' k = ord k) (h2 : (ord' i).length ≤ (ord i).length + 1) : ∀ n1, lenR ord' n1 ≤ lenR ord n1 + if i < n1 then 1 else 0
  | 0 => by simp [lenR]
  | n + 1 => by
    have ih := lenR_le ord ord' i h h2 n
    rw [lenR_succ, lenR_succ]
    by_cases e : n = i
    · subst e
      rw [if_neg (Nat.lt_irrefl _)] at ih
      rw [if_pos (Nat.lt_succ_self _)]
      omega
    · rw [h n e]
      by_cases e2 : i < n
      · rw [if_pos e2] at ih; rw [if_pos (by omega)]; omega
      · rw [if_neg e2] at ih; rw [if_neg (by omega)]; omega
theorem wtR_len (ord : Nat → List Nat) (m : Nat) : ∀ n1, wtR ord (List.replicate m false) n1 = lenR ord n1 + n1
  | 0 => by simp [wtR, lenR]
  | n + 1 => by
    have ih := wtR_len ord m n
    have hz : (List.replicate m false).getD n false = false := by
      simp only [List.getD]
      by_cases h : n < m
      · rw [List.getElem?_replicate, if_pos h]; rfl
      · rw [List.getElem?_replicate, if_neg h]; rfl
    rw [lenR_succ]
    have hs : wtR ord (List.replicate m false) (n + 1) = wtR ord (List.replicate m false) n + ((ord n).length + 1) := by
      unfold wtR
      rw [List.range_succ, List.map_append, List.sum_append]
      simp only [List.map_cons, List.map_nil, List.sum_cons, List.sum_nil, hz]
      simp
    omega
theorem lenR_one (ord : Nat → List Nat) : ∀ n1 i, i < n1 → (ord i).length ≤ lenR ord n1
  | n + 1, i, h => by
    rw [lenR_succ]
    by_cases e : i = n
    · subst e; omega
    · have := lenR_one ord n i (by omega); omega
/-- What the holds so far make of the things. -/
structure HI (pre : List Gp) (n1 : Nat) (tb : Nat → Nat) (cnt : Nat → Int) (ord : Nat → List Nat) (mp : Nat → List (Nat × Int)) : Prop where
  link : ∀ i, i < n1 → ∀ j, j ∈ ord i ↔ ∃ e ∈ pre, e.a = (i : Int) ∧ e.b = (j : Int)
  zero : ∀ i j, i < n1 → j < n1 → (cntM (mp i) (tb j) = 0 ↔ j ∉ ord i)
  le : ∀ i j, i < n1 → j < n1 → 0 ≤ cntM (mp i) (tb j) ∧ cntM (mp i) (tb j) ≤ pre.length
  cnt : ∀ j, j < n1 → 0 ≤ cnt j ∧ cnt j ≤ pre.length
  len : lenR ord n1 ≤ pre.length
theorem HI.start (n1 : Nat) (tb : Nat → Nat) : HI [] n1 tb (fun _ => 0) (fun _ => []) (fun _ => []) := by
  refine ⟨fun i hi j => by simp, fun i j hi hj => by simp [cntM, posM], fun i j hi hj => by simp [cntM, posM], fun j hj => by simp, ?_⟩
  have : ∀ n, lenR (fun _ => []) n = 0 := fun n => by
    induction n with
    | zero => rfl
    | succ n ih => rw [lenR_succ, ih]; rfl
  rw [this]; exact Nat.zero_le _
theorem cntM_mpH (mp : Nat → List (Nat × Int)) (tb : Nat → Nat) (i j k l : Nat) : cntM (mpH mp tb i j k) (tb l) = if k = i ∧ tb l = tb j then cntM (mp i) (tb j) + 1 else cntM (mp k) (tb l) := by
  unfold mpH
  by_cases e : k = i
  · rw [if_pos e]
    subst e
    have h := cntM_set (mp k) (tb j) (tb l) (cntM (mp k) (tb j) + 1) 0
    unfold cntM at *
    rw [h]
    by_cases e2 : tb l = tb j
    · rw [if_pos e2, if_pos ⟨rfl, e2⟩]
    · rw [if_neg e2, if_neg (fun h => e2 h.2)]
  · rw [if_neg e, if_neg (fun h => e h.1)]
theorem HI.step {pre : List Gp} {n1 : Nat} {tb : Nat → Nat} {cnt : Nat → Int} {ord : Nat → List Nat} {mp : Nat → List (Nat × Int)} (h : HI pre n1 tb cnt ord mp) (inj : ∀ i j, i < n1 → j < n1 → tb i = tb j → i = j) (i j : Nat) (hi : i < n1) (hj : j < n1) (e : Gp) (ha : e.a = (i : Int)) (hb : e.b = (j : Int)) :
    HI (pre ++ [e]) n1 tb (fun k => if k = j then cnt j + 1 else cnt k) (ordH ord mp tb i j) (mpH mp tb i j) := by
  have hmem : ∀ k, k < n1 → ∀ l, l ∈ ordH ord mp tb i j k ↔ l ∈ ord k ∨ (k = i ∧ l = j) := by
    intro k hk l
    unfold ordH
    by_cases h0 : cntM (mp i) (tb j) = 0
    · rw [if_pos h0]
      by_cases ek : k = i
      · subst ek; simp
      · simp [ek]
    · rw [if_neg h0]
      have hin : j ∈ ord i := by
        by_cases h1 : j ∈ ord i
        · exact h1
        · exact absurd ((h.zero i j hi hj).2 h1) h0
      constructor
      · exact fun h => .inl h
      · rintro (h1 | ⟨h1, h2⟩)
        · exact h1
        · rw [h1, h2]; exact hin
  have hl : (pre ++ [e]).length = pre.length + 1 := by simp
  refine ⟨fun k hk l => ?_, fun k l hk hl2 => ?_, fun k l hk hl2 => ?_, fun k hk => ?_, ?_⟩
  · rw [hmem k hk l, h.link k hk l]
    constructor
    · rintro (⟨e', h1, h2⟩ | ⟨h1, h2⟩)
      · exact ⟨e', List.mem_append_left _ h1, h2⟩
      · exact ⟨e, by simp, by rw [h1]; exact ha, by rw [h2]; exact hb⟩
    · rintro ⟨e', h1, h2, h3⟩
      rw [List.mem_append, List.mem_singleton] at h1
      rcases h1 with h1 | h1
      · exact .inl ⟨e', h1, h2, h3⟩
      · rw [h1] at h2 h3; right; omega
  · rw [cntM_mpH, hmem k hk l]
    by_cases e1 : k = i ∧ tb l = tb j
    · rw [if_pos e1]
      have e2 := inj l j hl2 hj e1.2
      have := (h.le i j hi hj).1
      constructor
      · intro h0; omega
      · intro h0; exact absurd (.inr ⟨e1.1, e2⟩) h0
    · rw [if_neg e1, h.zero k l hk hl2]
      constructor
      · rintro h0 (h1 | ⟨h1, h2⟩)
        · exact h0 h1
        · exact e1 ⟨h1, by rw [h2]⟩
      · exact fun h0 h1 => h0 (.inl h1)
  · rw [cntM_mpH, hl]
    have h1 := h.le i j hi hj
    have h2 := h.le k l hk hl2
    split <;> (push_cast; omega)
  · have h1 := h.cnt j hj
    have h2 := h.cnt k hk
    rw [hl]
    show 0 ≤ (if k = j then _ else _) ∧ (if k = j then _ else _) ≤ _
    split <;> (push_cast; omega)
  · have h1 := lenR_le ord (ordH ord mp tb i j) i (fun k hk => by unfold ordH; split <;> simp [hk]) (by unfold ordH; split <;> simp) n1
    rw [if_pos hi] at h1
    have := h.len
    omega
/-- The two words for what can be reached. -/
theorem HI.rch {hs : List Gp} {n1 : Nat} {tb : Nat → Nat} {cnt : Nat → Int} {ord : Nat → List Nat} {mp : Nat → List (Nat × Int)} (h : HI hs n1 tb cnt ord mp) (rs : List Int) (fr : List Nat) (hfr : fr.map (fun i : Nat => (i : Int)) = rs) (hf : ∀ i ∈ fr, i < n1) (hE : OkE (n1 - 1 : Int) hs) (i : Nat) : RchI ord fr i ↔ Rch hs rs i := by
  constructor
  · intro hr
    have : Rch hs rs i ∧ i < n1 := by
      induction hr with
      | root hi => exact ⟨.root (by rw [← hfr]; exact List.mem_map_of_mem hi), hf _ hi⟩
      | @step a b h1 hj ih =>
        obtain ⟨e, he, ha, hb⟩ := (h.link a ih.2 b).1 hj
        have hok := hE e he
        refine ⟨?_, by omega⟩
        rw [← hb]
        exact .step (by rw [ha]; exact ih.1) he
    exact this.1
  · intro hr
    have key : ∀ x, Rch hs rs x → ∃ i : Nat, x = i ∧ i < n1 ∧ RchI ord fr i := by
      intro x hx
      induction hx with
      | root hi =>
        rw [← hfr, List.mem_map] at hi
        obtain ⟨k, hk, e⟩ := hi
        exact ⟨k, e.symm, hf k hk, .root hk⟩
      | @step e h1 he ih =>
        obtain ⟨a, ea, ha, hra⟩ := ih
        have hok := hE e he
        refine ⟨e.b.toNat, by omega, by omega, .step hra ?_⟩
        exact (h.link a ha _).2 ⟨e, he, ea, by omega⟩
    obtain ⟨k, ek, _, hk⟩ := key _ hr
    have : i = k := by omega
    rw [this]; exact hk
/-- The answer, as the program writes it. -/
def outN (sn : List Bool) (k : Nat) : List Int := ((List.range k).filter fun i : Nat => sn.getD i false).map (fun i : Nat => (i : Int))
theorem outN_succ (sn : List Bool) (k : Nat) : outN sn (k + 1) = if sn.getD k false = true then outN sn k ++ [(k : Int)] else outN sn k := by
  unfold outN
  rw [List.range_succ, List.filter_append, List.map_append]
  by_cases h : sn.getD k false = true
  · rw [if_pos h, List.filter_cons_of_pos (by exact h)]; simp
  · rw [if_neg h, List.filter_cons_of_neg (by exact h)]; simp
theorem outN_len (sn : List Bool) (k : Nat) : (outN sn k).length ≤ k := by
  unfold outN
  rw [List.length_map]
  have := List.length_filter_le (fun i : Nat => sn.getD i false) (List.range k)
  rw [List.length_range] at this
  exact this
open Classical in
theorem outN_ans {n : Nat} {hs : List Gp} {rs : List Int} {sn : List Bool} (hok : OkR n hs rs) (h : ∀ i : Nat, sn.getD i false = true ↔ Rch hs rs i) : outN sn (n + 1) = ansR n hs rs := by
  unfold outN ansR
  rw [if_pos hok]
  have h0 : sn.getD 0 false = false := by
    cases hb : sn.getD 0 false
    · rfl
    · have := Rch.ok hok.2.2.1 hok.2.2.2 ((h 0).1 hb)
      have := this.1
      omega
  rw [List.range_succ_eq_map, List.filter_cons, if_neg (by rw [h0]; decide), List.filter_map, List.map_map]
  rw [show ((n : Int)).toNat = n from rfl]
  have hf : ∀ k : Nat, sn.getD (k + 1) false = decide (Rch hs rs ((k : Int) + 1)) := fun k => by
    have h1 := h (k + 1)
    push_cast at h1
    cases hb : sn.getD (k + 1) false
    · symm; apply decide_eq_false; intro h2; rw [h1.2 h2] at hb; cases hb
    · symm; exact decide_eq_true (h1.1 hb)
  have hf2 : ((fun i : Nat => sn.getD i false) ∘ Nat.succ) = fun i : Nat => decide (Rch hs rs ((i : Int) + 1)) := funext fun k => hf k
  rw [hf2]
  apply List.map_congr_left
  intro k _
  show ((k + 1 : Nat) : Int) = _
  push_cast
  rfl
end Go.Proofs.Ytjnalkeopehlbaa
