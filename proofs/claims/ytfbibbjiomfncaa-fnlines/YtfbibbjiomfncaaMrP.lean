import Derived.Test.YtfbibbjiomfncaaClP
namespace Go.Proofs.Ytfbibbjiomfncaa
open Go.RowKit
set_option linter.unusedVariables false
set_option linter.unusedSimpArgs false

/-- In no tail. -/
def GoodH (Ls : List (List Int)) (x : Int) : Prop := ∀ l ∈ Ls, x ∉ l.tail
instance (Ls : List (List Int)) (x : Int) : Decidable (GoodH Ls x) := by unfold GoodH; infer_instance
/-- The first head that is in no tail. -/
def pickL (Ls : List (List Int)) : List (List Int) → Option Int
  | [] => none
  | [] :: r => pickL Ls r
  | (x :: _) :: r => if GoodH Ls x then some x else pickL Ls r
def dropH (x : Int) : List Int → List Int
  | [] => []
  | y :: t => if y = x then t else y :: t
def tot (Ls : List (List Int)) : Nat := (Ls.map List.length).sum
def AllE (Ls : List (List Int)) : Prop := ∀ l ∈ Ls, l = []
instance (Ls : List (List Int)) : Decidable (AllE Ls) := by unfold AllE; infer_instance
def mrg : Nat → List (List Int) → Option (List Int)
  | 0, _ => none
  | n + 1, Ls => if AllE Ls then some [] else match pickL Ls Ls with
    | none => none
    | some x => (mrg n (Ls.map (dropH x))).map (x :: ·)
def merge (Ls : List (List Int)) : Option (List Int) := mrg (tot Ls + 1) Ls

theorem pickL_some {Ls : List (List Int)} {x : Int} : ∀ {Rs : List (List Int)}, pickL Ls Rs = some x → GoodH Ls x ∧ ∃ t, (x :: t) ∈ Rs
  | [], h => by simp [pickL] at h
  | [] :: r, h => by
    obtain ⟨h1, t, h2⟩ := pickL_some (Rs := r) (by simpa [pickL] using h)
    exact ⟨h1, t, List.mem_cons_of_mem _ h2⟩
  | (y :: t) :: r, h => by
    simp only [pickL] at h
    split at h
    · rename_i hg
      simp at h; subst h
      exact ⟨hg, t, List.mem_cons_self ..⟩
    · obtain ⟨h1, t, h2⟩ := pickL_some (Rs := r) h
      exact ⟨h1, t, List.mem_cons_of_mem _ h2⟩
theorem dropH_len (x : Int) (l : List Int) : (dropH x l).length ≤ l.length := by
  cases l with
  | nil => simp [dropH]
  | cons y t => simp only [dropH]; split <;> simp
theorem tot_cons (l : List Int) (r : List (List Int)) : tot (l :: r) = l.length + tot r := by simp [tot]
theorem tot_drop (x : Int) : ∀ Ls : List (List Int), tot (Ls.map (dropH x)) ≤ tot Ls
  | [] => Nat.le_refl _
  | l :: r => by rw [List.map_cons, tot_cons, tot_cons]; have := tot_drop x r; have := dropH_len x l; omega
theorem tot_lt {x : Int} {t : List Int} : ∀ {Ls : List (List Int)}, (x :: t) ∈ Ls → tot (Ls.map (dropH x)) < tot Ls
  | l :: r, h => by
    rw [List.map_cons, tot_cons, tot_cons]
    have h1 := tot_drop x r
    have h2 := dropH_len x l
    rcases List.mem_cons.mp h with e | h
    · subst e
      have : (dropH x (x :: t)).length = t.length := by simp [dropH]
      simp only [List.length_cons]
      omega
    · have := tot_lt h; omega
theorem mrg_fuel : ∀ (n m : Nat) (Ls : List (List Int)), tot Ls < n → tot Ls < m → mrg n Ls = mrg m Ls
  | 0, _, _, h, _ => by omega
  | _ + 1, 0, _, _, h => by omega
  | n + 1, m + 1, Ls, hn, hm => by
    simp only [mrg]
    split
    · rfl
    · cases hp : pickL Ls Ls with
      | none => rfl
      | some x =>
        obtain ⟨_, t, ht⟩ := pickL_some hp
        have := tot_lt ht
        simp only
        rw [mrg_fuel n m _ (by omega) (by omega)]
theorem merge_eq (Ls : List (List Int)) : merge Ls = if AllE Ls then some [] else match pickL Ls Ls with
    | none => none
    | some x => (merge (Ls.map (dropH x))).map (x :: ·) := by
  unfold merge
  rw [mrg]
  split
  · rfl
  · cases hp : pickL Ls Ls with
    | none => rfl
    | some x =>
      obtain ⟨_, t, ht⟩ := pickL_some hp
      have := tot_lt ht
      simp only
      rw [mrg_fuel (tot Ls) (tot (Ls.map (dropH x)) + 1) _ (by omega) (by omega)]

/-- Lines without the empty ones. -/
def full (Ls : List (List Int)) : List (List Int) := Ls.filter fun l => !l.isEmpty
theorem full_cons_nil (r : List (List Int)) : full ([] :: r) = full r := by simp [full]
theorem full_cons (x : Int) (t : List Int) (r : List (List Int)) : full ((x :: t) :: r) = (x :: t) :: full r := by simp [full]
theorem mem_full {l : List Int} {Ls : List (List Int)} : l ∈ full Ls ↔ l ∈ Ls ∧ l ≠ [] := by
  unfold full; rw [List.mem_filter]; cases l <;> simp
theorem good_full (Ls : List (List Int)) (x : Int) : GoodH (full Ls) x ↔ GoodH Ls x := by
  constructor
  · intro h l hl
    by_cases e : l = []
    · subst e; simp
    · exact h l (mem_full.mpr ⟨hl, e⟩)
  · exact fun h l hl => h l (mem_full.mp hl).1
theorem pick_full (Ls : List (List Int)) : ∀ Rs : List (List Int), pickL (full Ls) (full Rs) = pickL Ls Rs
  | [] => rfl
  | [] :: r => by rw [full_cons_nil, pick_full Ls r]; rfl
  | (x :: t) :: r => by
    rw [full_cons]
    simp only [pickL, good_full, pick_full Ls r]
theorem all_full (Ls : List (List Int)) : AllE (full Ls) ↔ AllE Ls := by
  constructor
  · intro h l hl
    by_cases e : l = []
    · exact e
    · exact h l (mem_full.mpr ⟨hl, e⟩)
  · exact fun h l hl => h l (mem_full.mp hl).1
theorem full_drop (x : Int) : ∀ Ls : List (List Int), full ((full Ls).map (dropH x)) = full (Ls.map (dropH x))
  | [] => rfl
  | [] :: r => by rw [full_cons_nil, full_drop x r, List.map_cons]; exact (full_cons_nil _).symm
  | (y :: t) :: r => by
    rw [full_cons, List.map_cons, List.map_cons]
    cases h : dropH x (y :: t) with
    | nil => rw [full_cons_nil, full_cons_nil, full_drop x r]
    | cons z u => rw [full_cons, full_cons, full_drop x r]
theorem tot_full : ∀ Ls : List (List Int), tot (full Ls) ≤ tot Ls
  | [] => Nat.le_refl _
  | [] :: r => by rw [full_cons_nil, tot_cons]; have := tot_full r; simp; exact this
  | (y :: u) :: r => by rw [full_cons, tot_cons, tot_cons]; have := tot_full r; omega
theorem merge_full (Ls : List (List Int)) : merge (full Ls) = merge Ls := by
  induction hn : tot Ls using Nat.strongRecOn generalizing Ls with
  | ind n ih =>
    rw [merge_eq, merge_eq Ls, pick_full]
    by_cases hA : AllE Ls
    · rw [if_pos hA, if_pos ((all_full Ls).mpr hA)]
    · rw [if_neg hA, if_neg (fun h => hA ((all_full Ls).mp h))]
      cases hp : pickL Ls Ls with
      | none => rfl
      | some x =>
        obtain ⟨_, t, ht⟩ := pickL_some hp
        have h1 := tot_lt ht
        have h2 := tot_lt (mem_full.mpr ⟨ht, by simp⟩)
        have h3 := tot_full Ls
        simp only
        rw [← ih (tot ((full Ls).map (dropH x))) (by omega) ((full Ls).map (dropH x)) rfl, full_drop, ih (tot (Ls.map (dropH x))) (by omega) (Ls.map (dropH x)) rfl]

/-- What the merge keeps: what was taken is told once, and stands no more in the lines. -/
structure Tk (K : Nat) (acc : List Int) (Ls : List (List Int)) : Prop where
  nd : acc.Nodup
  ba : ∀ y ∈ acc, 0 ≤ y ∧ y < (K : Int)
  bl : ∀ l ∈ Ls, ∀ y ∈ l, 0 ≤ y ∧ y < (K : Int)
  ap : ∀ y ∈ acc, ∀ l ∈ Ls, y ∉ l
theorem mem_drop {x y : Int} {l : List Int} (h : y ∈ dropH x l) : y ∈ l := by
  cases l with
  | nil => simp [dropH] at h
  | cons z t => simp only [dropH] at h; split at h
                · exact List.mem_cons_of_mem _ h
                · exact h
theorem drop_gone {x : Int} {l : List Int} (h : x ∉ l.tail) : x ∉ dropH x l := by
  cases l with
  | nil => simp [dropH]
  | cons z t =>
    simp only [dropH]
    split
    · exact h
    · rename_i hz
      intro hm
      rcases List.mem_cons.mp hm with e | e
      · exact hz e.symm
      · exact h e
theorem Tk.len {K : Nat} {acc : List Int} {Ls : List (List Int)} (h : Tk K acc Ls) : acc.length ≤ K := pigeon K acc h.nd h.ba
theorem Tk.step {K : Nat} {acc : List Int} {Ls : List (List Int)} {x : Int} (h : Tk K acc Ls) (hp : pickL Ls Ls = some x) : Tk K (acc ++ [x]) (Ls.map (dropH x)) := by
  obtain ⟨hg, t, ht⟩ := pickL_some hp
  have hx := h.bl _ ht x (List.mem_cons_self ..)
  have hna : x ∉ acc := fun hm => h.ap x hm _ ht (List.mem_cons_self ..)
  refine ⟨nodup_snoc h.nd hna, fun y hy => ?_, fun l hl y hy => ?_, fun y hy l hl hm => ?_⟩
  · rcases List.mem_append.mp hy with h1 | h1
    · exact h.ba y h1
    · simp at h1; subst h1; exact hx
  · obtain ⟨l', hl', rfl⟩ := List.mem_map.mp hl
    exact h.bl l' hl' y (mem_drop hy)
  · obtain ⟨l', hl', rfl⟩ := List.mem_map.mp hl
    rcases List.mem_append.mp hy with h1 | h1
    · exact h.ap y h1 l' hl' (mem_drop hm)
    · simp at h1; subst h1; exact drop_gone (hg l' hl') hm
theorem Tk.full {K : Nat} {acc : List Int} {Ls : List (List Int)} (h : Tk K acc Ls) : Tk K acc (full Ls) :=
  ⟨h.nd, h.ba, fun l hl => h.bl l (mem_full.mp hl).1, fun y hy l hl => h.ap y hy l (mem_full.mp hl).1⟩
theorem Tk.start {K : Nat} {Ls : List (List Int)} (h : ∀ l ∈ Ls, ∀ y ∈ l, 0 ≤ y ∧ y < (K : Int)) : Tk K [] Ls := ⟨List.nodup_nil, by simp, h, by simp⟩
/-- The answer, with what was taken ahead. -/
def ans (acc : List Int) (Ls : List (List Int)) : Option (List Int) := (merge Ls).map (acc ++ ·)
theorem ans_nil (Ls : List (List Int)) : ans [] Ls = merge Ls := by unfold ans; cases merge Ls <;> simp
theorem ans_full (acc : List Int) (Ls : List (List Int)) : ans acc (full Ls) = ans acc Ls := by unfold ans; rw [merge_full]
theorem ans_end {acc : List Int} {Ls : List (List Int)} (h : AllE Ls) : ans acc Ls = some acc := by unfold ans; rw [merge_eq, if_pos h]; simp
theorem ans_none {acc : List Int} {Ls : List (List Int)} (h : ¬ AllE Ls) (hp : pickL Ls Ls = none) : ans acc Ls = none := by unfold ans; rw [merge_eq, if_neg h, hp]; rfl
theorem ans_step {acc : List Int} {Ls : List (List Int)} {x : Int} (hp : pickL Ls Ls = some x) : ans acc Ls = ans (acc ++ [x]) (Ls.map (dropH x)) := by
  obtain ⟨_, t, ht⟩ := pickL_some hp
  have h : ¬ AllE Ls := fun h => by have := h _ ht; cases this
  unfold ans
  rw [merge_eq, if_neg h, hp]
  simp only
  generalize merge (Ls.map (dropH x)) = m
  cases m <;> simp
/-- What is answered is told once, of what was there. -/
theorem Tk.ans {K : Nat} {acc xs : List Int} {Ls : List (List Int)} (h : Tk K acc Ls) (ha : ans acc Ls = some xs) : xs.Nodup ∧ ∀ y ∈ xs, 0 ≤ y ∧ y < (K : Int) := by
  induction hn : tot Ls using Nat.strongRecOn generalizing Ls acc with
  | ind n ih =>
    by_cases hA : AllE Ls
    · rw [ans_end hA] at ha; simp at ha; subst ha; exact ⟨h.nd, h.ba⟩
    · cases hp : pickL Ls Ls with
      | none => rw [ans_none hA hp] at ha; cases ha
      | some x =>
        obtain ⟨_, t, ht⟩ := pickL_some hp
        rw [ans_step hp] at ha
        exact ih (tot (Ls.map (dropH x))) (by have := tot_lt ht; omega) (h.step hp) ha rfl
end Go.Proofs.Ytfbibbjiomfncaa
