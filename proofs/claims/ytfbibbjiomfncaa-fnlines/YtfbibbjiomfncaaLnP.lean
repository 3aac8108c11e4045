import Derived.Test.YtfbibbjiomfncaaMoB
namespace Go.Proofs.Ytfbibbjiomfncaa
open Go.RowKit
set_option linter.unusedVariables false
set_option linter.unusedSimpArgs false

theorem sub_drop {x : Int} {l m : List Int} (h : (dropH x l).Sublist m) : l.Sublist (x :: m) := by
  cases l with
  | nil => exact List.nil_sublist _
  | cons y t =>
    simp only [dropH] at h
    split at h
    · rename_i e; subst e; exact h.cons_cons _
    · exact h.cons _
/-- What the merge answers holds each line in its order. -/
theorem merge_sub {m : List Int} {Ls : List (List Int)} (h : merge Ls = some m) : ∀ l ∈ Ls, l.Sublist m := by
  induction hn : tot Ls using Nat.strongRecOn generalizing Ls m with
  | ind n ih =>
    rw [merge_eq] at h
    by_cases hA : AllE Ls
    · intro l hl; rw [hA l hl]; exact List.nil_sublist _
    · rw [if_neg hA] at h
      cases hp : pickL Ls Ls with
      | none => rw [hp] at h; cases h
      | some x =>
        obtain ⟨_, t, ht⟩ := pickL_some hp
        rw [hp] at h
        simp only at h
        cases hm : merge (Ls.map (dropH x)) with
        | none => rw [hm] at h; cases h
        | some m' =>
          rw [hm] at h
          simp at h
          subst h
          intro l hl
          exact sub_drop (ih (tot (Ls.map (dropH x))) (by have := tot_lt ht; omega) hm rfl _ (List.mem_map.mpr ⟨l, hl, rfl⟩))
theorem line_parts {i : Nat} {bs : List Int} {prev : List (List Int)} (h : lineC i bs prev ≠ []) : ∃ m, lineC i bs prev = (i : Int) :: m ∧ bs.Sublist m ∧ ∀ l ∈ baseL prev bs, l.Sublist m := by
  unfold lineC at h ⊢
  by_cases hN : NoE (baseL prev bs)
  · rw [if_pos hN] at h ⊢
    cases hm : merge (baseL prev bs ++ [bs]) with
    | none => rw [hm] at h; exact absurd rfl h
    | some m =>
      have hs := merge_sub hm
      exact ⟨m, rfl, hs bs (by simp), fun l hl => hs l (by simp [hl])⟩
  · rw [if_neg hN] at h; exact absurd rfl h
/-- A line, and what it holds. -/
structure Ln (Ls : List (List Int)) (i : Nat) (bs l : List Int) : Prop where
  hd : ∃ m, l = (i : Int) :: m
  sb : bs.Sublist l
  ba : ∀ b ∈ bs, (Ls.getD b.toNat []).Sublist l
  nd : l.Nodup
theorem lns_get (cs : List Cl) (i : Nat) (hi : i < cs.length) : (lnsC cs cs.length).getD i [] = lineC i cs[i].b (lnsC cs i) := by
  have key : ∀ n, i < n → n ≤ cs.length → (lnsC cs n).getD i [] = lineC i cs[i].b (lnsC cs i) := by
    intro n
    induction n with
    | zero => intro h; omega
    | succ n ih =>
      intro h hn
      have hl := lns_len cs n
      rw [lns_succ cs n (by omega)]
      by_cases e : i = n
      · subst e; simp [List.getD, hl]
      · have := ih (by omega) (by omega)
        rw [← this]
        simp [List.getD, List.getElem?_append, hl, show i < n by omega]
  exact key _ hi (Nat.le_refl _)
theorem lns_stay (cs : List Cl) (k i n : Nat) (hk : k < i) (hi : i ≤ n) (hn : n ≤ cs.length) : (lnsC cs n).getD k [] = (lnsC cs i).getD k [] := by
  induction n with
  | zero => omega
  | succ n ih =>
    by_cases e : i = n + 1
    · subst e; rfl
    · have hl := lns_len cs n
      rw [← ih (by omega) (by omega), lns_succ cs n (by omega)]
      simp [List.getD, List.getElem?_append, hl, show k < n by omega]
theorem Ln.of {cs : List Cl} (hok : OkCs cs) (i : Nat) (hi : i < cs.length) (hne : (lnsC cs cs.length).getD i [] ≠ []) : Ln (lnsC cs cs.length) i cs[i].b ((lnsC cs cs.length).getD i []) := by
  have e := lns_get cs i hi
  have hnd : ((lnsC cs cs.length).getD i []).Nodup := by
    have hl := lns_len cs cs.length
    have := (lns_ok hok cs.length (Nat.le_refl _) i (by omega)).2
    simpa [List.getD, hl, hi] using this
  rw [e] at hne hnd ⊢
  obtain ⟨m, hm, h1, h2⟩ := line_parts hne
  rw [hm] at hnd ⊢
  refine ⟨⟨m, rfl⟩, h1.cons _, fun b hb => ?_, hnd⟩
  obtain ⟨hb0, hb1⟩ := (hok.2 i hi).1.1 b hb
  rw [lns_stay cs b.toNat i cs.length (by omega) (by omega) (Nat.le_refl _)]
  exact (h2 _ (List.mem_map.mpr ⟨b, hb, rfl⟩)).cons _
/-- The lines that there are. -/
theorem bad_none' : ∀ (Ls : List (List Int)), badL Ls = none → ∀ l ∈ Ls, l ≠ []
  | [], _, l, hl => by simp at hl
  | x :: r, h, l, hl => by
    simp only [badL] at h
    split at h
    · cases h
    · rename_i hx
      rcases List.mem_cons.mp hl with e | e
      · subst e; exact hx
      · exact bad_none' r (by simpa using h) l e
/-- The first that doesn't fit, from a place on. -/
def firstN (bs : List Bool) (k : Nat) : Int := match (bs.drop k).findIdx? (fun b => !b) with
  | some i => ((k + i : Nat) : Int)
  | none => -1
theorem firstN_end (bs : List Bool) : firstN bs bs.length = -1 := by simp [firstN]
theorem firstN_step (bs : List Bool) (k : Nat) (hk : k < bs.length) : firstN bs k = if bs[k] = true then firstN bs (k + 1) else (k : Int) := by
  unfold firstN
  rw [List.drop_eq_getElem_cons hk, List.findIdx?_cons]
  cases bs[k] with
  | false => simp
  | true =>
    simp
    cases (bs.drop (k + 1)).findIdx? (fun b => !b) with
    | none => rfl
    | some i => simp; omega
theorem firstN_bad (Ls : List (List Int)) : firstN (fitL Ls) 0 = match badL Ls with | some k => (k : Int) | none => -1 := by
  have key : ∀ Ls : List (List Int), (fitL Ls).findIdx? (fun b => !b) = badL Ls := by
    intro Ls
    induction Ls with
    | nil => rfl
    | cons l r ih =>
      simp only [fitL, List.map_cons, List.findIdx?_cons, badL] at ih ⊢
      cases l with
      | nil => simp
      | cons x t => simp [ih]
  unfold firstN
  rw [List.drop_zero, key]
  cases badL Ls <;> simp
end Go.Proofs.Ytfbibbjiomfncaa
