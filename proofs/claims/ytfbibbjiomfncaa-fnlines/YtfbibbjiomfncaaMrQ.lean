import Derived.Test.YtfbibbjiomfncaaMrP
namespace Go.Proofs.Ytfbibbjiomfncaa
open Go.RowKit
set_option linter.unusedVariables false
set_option linter.unusedSimpArgs false

/-- The lines of a class's bases. -/
def baseL (prev : List (List Int)) (bs : List Int) : List (List Int) := bs.map fun b => prev.getD b.toNat []
def NoE (Ls : List (List Int)) : Prop := ∀ l ∈ Ls, l ≠ []
instance (Ls : List (List Int)) : Decidable (NoE Ls) := by unfold NoE; infer_instance
/-- A class's line, or none. -/
def lineC (i : Nat) (bs : List Int) (prev : List (List Int)) : List Int :=
  if NoE (baseL prev bs) then (match merge (baseL prev bs ++ [bs]) with
    | some m => (i : Int) :: m
    | none => []) else []
def lnsC (cs : List Cl) : Nat → List (List Int)
  | 0 => []
  | i + 1 => lnsC cs i ++ [lineC i (cs.getD i ⟨[], []⟩).b (lnsC cs i)]
theorem lns_len (cs : List Cl) : ∀ i, (lnsC cs i).length = i
  | 0 => rfl
  | i + 1 => by simp [lnsC, lns_len cs i]
theorem lns_succ (cs : List Cl) (i : Nat) (hi : i < cs.length) : lnsC cs (i + 1) = lnsC cs i ++ [lineC i cs[i].b (lnsC cs i)] := by
  simp [lnsC, List.getD, hi]
/-- A line of the place k: its things are at most k, each once. -/
def OkLn (k : Nat) (l : List Int) : Prop := (∀ y ∈ l, 0 ≤ y ∧ y < ((k + 1 : Nat) : Int)) ∧ l.Nodup
theorem OkLn.len {k : Nat} {l : List Int} (h : OkLn k l) : l.length ≤ k + 1 := pigeon (k + 1) l h.2 h.1
theorem base_mem {i : Nat} {prev : List (List Int)} {bs : List Int} (hp : prev.length = i) (hok : ∀ k (h : k < prev.length), OkLn k prev[k]) (hb : ∀ x ∈ bs, 0 ≤ x ∧ x < (i : Int)) :
    ∀ l ∈ baseL prev bs ++ [bs], (∀ y ∈ l, 0 ≤ y ∧ y < (i : Int)) ∧ (l ∈ baseL prev bs → l.length ≤ i) := by
  intro l hl
  have key : l ∈ baseL prev bs → (∀ y ∈ l, 0 ≤ y ∧ y < (i : Int)) ∧ l.length ≤ i := by
    intro h
    obtain ⟨b, hbm, rfl⟩ := List.mem_map.mp h
    obtain ⟨h0, h1⟩ := hb b hbm
    have hlt : b.toNat < prev.length := by omega
    have e : prev.getD b.toNat [] = prev[b.toNat] := by simp [List.getD, hlt]
    rw [e]
    have hk := hok b.toNat hlt
    exact ⟨fun y hy => by have := hk.1 y hy; omega, by have := hk.len; omega⟩
  rcases List.mem_append.mp hl with h | h
  · exact ⟨(key h).1, fun _ => (key h).2⟩
  · simp at h; subst h
    exact ⟨hb, fun h => (key h).2⟩
theorem line_ok {i : Nat} {prev : List (List Int)} {bs : List Int} (hp : prev.length = i) (hok : ∀ k (h : k < prev.length), OkLn k prev[k]) (hb : ∀ x ∈ bs, 0 ≤ x ∧ x < (i : Int)) : OkLn i (lineC i bs prev) := by
  have hm := base_mem hp hok hb
  have hT : Tk i [] (baseL prev bs ++ [bs]) := Tk.start (fun l hl => (hm l hl).1)
  unfold lineC
  split
  · cases h : merge (baseL prev bs ++ [bs]) with
    | none => exact ⟨by simp, List.nodup_nil⟩
    | some m =>
      obtain ⟨h1, h2⟩ := hT.ans (by rw [ans_nil]; exact h)
      refine ⟨fun y hy => ?_, List.nodup_cons.mpr ⟨fun hy => by have := h2 _ hy; omega, h1⟩⟩
      rcases List.mem_cons.mp hy with rfl | hy
      · omega
      · have := h2 y hy; omega
  · exact ⟨by simp, List.nodup_nil⟩
theorem lns_ok {cs : List Cl} (h : OkCs cs) : ∀ i, i ≤ cs.length → ∀ k (hk : k < (lnsC cs i).length), OkLn k (lnsC cs i)[k]
  | 0, _, k, hk => by simp [lnsC] at hk
  | i + 1, hi, k, hk => by
    have e := lns_succ cs i (by omega)
    have hl := lns_len cs i
    have key : ∀ L, lnsC cs (i + 1) = L → ∀ (hk : k < L.length), OkLn k L[k] := by
      intro L hL hk
      rw [e] at hL
      subst hL
      rw [List.getElem_append]
      split
      · exact lns_ok h i (by omega) k _
      · rename_i hk1
        simp only [List.getElem_singleton]
        have hki : k = i := by simp at hk; omega
        rw [hki]
        exact line_ok hl (fun k hk => lns_ok h i (by omega) k hk) (h.2 i (by omega)).1.1
    exact key _ rfl hk
theorem base_take (prev : List (List Int)) (bs : List Int) (k : Nat) (hk : k < bs.length) : baseL prev (bs.take (k + 1)) = baseL prev (bs.take k) ++ [prev.getD bs[k].toNat []] := by
  unfold baseL; rw [List.take_succ_eq_append_getElem hk, List.map_append]; rfl
theorem noE_snoc (A : List (List Int)) (l : List Int) : NoE (A ++ [l]) ↔ (NoE A ∧ l ≠ []) := by
  unfold NoE
  simp only [List.mem_append, List.mem_singleton]
  exact ⟨fun h => ⟨fun x hx => h x (.inl hx), h l (.inr rfl)⟩, fun h x hx => hx.elim (h.1 x) (fun e => by rw [e]; exact h.2)⟩
theorem base_len (prev : List (List Int)) (bs : List Int) : (baseL prev bs).length = bs.length := by simp [baseL]
end Go.Proofs.Ytfbibbjiomfncaa
