import Derived.Test.YtfoofbcfcekleaaGreatDoorEncP
namespace Go.Proofs.YtfoofbcfcekleaaGreatDoor
open Go.RowKit Go.Lib
set_option linter.unusedVariables false
set_option linter.unusedSimpArgs false

/-- The value of a digit to the base 16. -/
def hxV (c : Nat) : Option Nat := if 48 ≤ c ∧ c ≤ 57 then some (c - 48) else if 97 ≤ c ∧ c ≤ 102 then some (c - 87) else if 65 ≤ c ∧ c ≤ 70 then some (c - 55) else none
theorem hxV_lt {c d : Nat} (h : hxV c = some d) : d < 16 ∧ c < 128 := by
  unfold hxV at h
  split at h
  · simp only [Option.some.injEq] at h; omega
  · split at h
    · simp only [Option.some.injEq] at h; omega
    · split at h
      · simp only [Option.some.injEq] at h; omega
      · cases h
/-- So many digits, read onto v. -/
def hxN : Nat → Nat → List Nat → Option Nat
  | 0, v, _ => some v
  | _ + 1, _, [] => none
  | n + 1, v, c :: t => (hxV c).bind fun d => hxN n (v * 16 + d) t
theorem hxN_lt : ∀ (n v : Nat) (t : List Nat) (u : Nat), hxN n v t = some u → u < (v + 1) * 16 ^ n := by
  intro n
  induction n with
  | zero => intro v t u h; simp [hxN] at h; omega
  | succ n ih =>
    intro v t u h
    cases t with
    | nil => simp [hxN] at h
    | cons c t =>
      rw [hxN] at h
      obtain ⟨d, hd, h2⟩ := Option.bind_eq_some_iff.1 h
      have h3 := ih _ _ _ h2
      have h4 := (hxV_lt hd).1
      have h5 : (v * 16 + d + 1) * 16 ^ n ≤ (v + 1) * 16 * 16 ^ n := Nat.mul_le_mul_right _ (by omega)
      rw [Nat.pow_succ, Nat.mul_comm (16 ^ n) 16, ← Nat.mul_assoc]
      omega
/-- A code point by its digits: it, and how many digits. -/
def ptR (n : Nat) (t : List Nat) : Option (List Nat × Nat) := (hxN n 0 t).bind fun v => if 55296 ≤ v ∧ v < 57344 then none else some ([v], n)
/-- What an escape's letter with what is behind it means: the code points, and how many behind the letter belong to it. -/
def escR (e : Nat) (t : List Nat) : Option (List Nat × Nat) :=
  if e = 10 then some ([], 0) else if e = 92 ∨ e = 39 ∨ e = 34 then some ([e], 0) else if e = 110 then some ([10], 0) else if e = 116 then some ([9], 0)
  else if e = 114 then some ([13], 0) else if e = 48 then some ([0], 0) else if e = 120 then ptR 2 t else if e = 117 then ptR 4 t else none
def escOf : List Nat → Option (List Nat × List Nat)
  | [] => none
  | e :: u => (escR e u).map fun p => (p.1, u.drop p.2)
theorem escOf_short {t : List Nat} {p : List Nat × List Nat} (h : escOf t = some p) : p.2.length < t.length := by
  cases t with
  | nil => cases h
  | cons e u =>
    rw [escOf] at h
    obtain ⟨q, _, rfl⟩ := Option.map_eq_some_iff.1 h
    simp only [List.length_drop, List.length_cons]; omega
def svF : Nat → List Nat → Option (List Nat)
  | 0, _ => some []
  | _ + 1, [] => some []
  | f + 1, c :: t => if c = 92 then (escOf t).bind fun p => (svF f p.2).map (p.1 ++ ·) else (svF f t).map (c :: ·)
theorem svF_more : ∀ (f g : Nat) (l : List Nat), l.length ≤ f → l.length ≤ g → svF f l = svF g l := by
  intro f
  induction f with
  | zero => intro g l h _; obtain rfl := List.eq_nil_of_length_eq_zero (Nat.le_zero.1 h); cases g <;> rfl
  | succ f ih =>
    intro g l hf hg
    cases l with
    | nil => cases g <;> rfl
    | cons c t =>
      rw [List.length_cons] at hf hg
      obtain ⟨g, rfl⟩ : ∃ k, g = k + 1 := ⟨g - 1, by omega⟩
      rw [svF, svF]
      by_cases hc : c = 92
      · rw [if_pos hc, if_pos hc]
        cases he : escOf t with
        | none => rfl
        | some p =>
          have := escOf_short he
          simp only [Option.bind_some]
          rw [ih g p.2 (by omega) (by omega)]
      · rw [if_neg hc, if_neg hc, ih g t (by omega) (by omega)]
/-- The value of a string's inside, or none. -/
def sv (l : List Nat) : Option (List Nat) := svF l.length l
theorem sv_nil : sv [] = some [] := rfl
theorem sv_plain (c : Nat) (t : List Nat) (h : c ≠ 92) : sv (c :: t) = (sv t).map (c :: ·) := by
  unfold sv; rw [List.length_cons, svF, if_neg h]
theorem sv_end : sv [92] = none := rfl
theorem sv_esc (e : Nat) (u : List Nat) : sv (92 :: e :: u) = (escR e u).bind fun p => (sv (u.drop p.2)).map (p.1 ++ ·) := by
  unfold sv
  rw [List.length_cons, svF, if_pos rfl, escOf]
  cases he : escR e u with
  | none => rfl
  | some p =>
    simp only [Option.map_some, Option.bind_some]
    rw [svF_more _ (u.drop p.2).length (u.drop p.2) (by rw [List.length_drop, List.length_cons]; omega) (Nat.le_refl _)]
theorem sv_run (p r : List Nat) (h : 92 ∉ p) : sv (p ++ r) = (sv r).map (p ++ ·) := by
  induction p with
  | nil => simp
  | cons c p ih =>
    rw [List.cons_append, sv_plain c _ (fun e => h (by simp [e])), ih (fun e => h (by simp [e]))]
    cases sv r <;> simp
theorem escR_fit {e : Nat} {u : List Nat} {vs : List Nat} {k : Nat} (hs : ∀ r ∈ u, Scalar r) (h : escR e u = some (vs, k)) : (∀ v ∈ vs, Scalar v) ∧ (encs vs).length ≤ k + 1 ∧ k ≤ u.length ∧ (encs (u.take k)).length = k ∧ k ≤ 4 ∧ vs.length ≤ 1 := by
  have hx : ∀ (n v : Nat) (t : List Nat) (w : Nat), hxN n v t = some w → n ≤ t.length ∧ (encs (t.take n)).length = n := by
    intro n
    induction n with
    | zero => intro v t w _; simp [encs]
    | succ n ih =>
      intro v t w h
      cases t with
      | nil => simp [hxN] at h
      | cons c t =>
        rw [hxN] at h
        obtain ⟨d, hd, h2⟩ := Option.bind_eq_some_iff.1 h
        obtain ⟨i1, i2⟩ := ih _ _ _ h2
        have h4 := (hxV_lt hd).2
        rcases enc_cases c (.inl (by omega)) with ⟨a, e⟩ | ⟨a, b, e⟩ | ⟨a, b, e⟩ | ⟨a, b, e⟩
        · refine ⟨by rw [List.length_cons]; omega, ?_⟩
          rw [List.take_succ_cons, encs_cons, List.length_append, i2, e]; simp; omega
        all_goals omega
  have one : ∀ c : Nat, c < 128 → (encs [c]).length = 1 := fun c hc => by
    rcases enc_cases c (.inl (by omega)) with ⟨a, e⟩ | ⟨a, b, e⟩ | ⟨a, b, e⟩ | ⟨a, b, e⟩
    · rw [encs_cons, encs_nil, e]; rfl
    all_goals omega
  have simple : ∀ c : Nat, c < 128 → (∀ v ∈ [c], Scalar v) ∧ (encs [c]).length ≤ 0 + 1 ∧ 0 ≤ u.length ∧ (encs (u.take 0)).length = 0 ∧ 0 ≤ 4 ∧ [c].length ≤ 1 := fun c hc =>
    ⟨by intro v hv; simp at hv; subst hv; exact .inl (by omega), by rw [one c hc]; omega, Nat.zero_le _, by simp [encs], by omega, by simp⟩
  have point : ∀ n, n = 2 ∨ n = 4 → ptR n u = some (vs, k) → (∀ v ∈ vs, Scalar v) ∧ (encs vs).length ≤ k + 1 ∧ k ≤ u.length ∧ (encs (u.take k)).length = k ∧ k ≤ 4 ∧ vs.length ≤ 1 := by
    intro n hn h
    unfold ptR at h
    obtain ⟨v, hv, h2⟩ := Option.bind_eq_some_iff.1 h
    split at h2
    · cases h2
    · rename_i hsur
      simp only [Option.some.injEq, Prod.mk.injEq] at h2
      obtain ⟨rfl, rfl⟩ := h2
      have hb := hxN_lt _ _ _ _ hv
      obtain ⟨i1, i2⟩ := hx _ _ _ _ hv
      have hvs : Scalar v := by unfold Scalar; rcases hn with rfl | rfl <;> omega
      refine ⟨by intro x hx; simp at hx; subst hx; exact hvs, ?_, i1, i2, by omega, by simp⟩
      rw [encs_cons, encs_nil, List.append_nil]
      rcases enc_cases v hvs with ⟨a, e⟩ | ⟨a, b, e⟩ | ⟨a, b, e⟩ | ⟨a, b, e⟩ <;> rw [e] <;> simp <;> rcases hn with rfl | rfl <;> omega
  unfold escR at h
  repeat' split at h
  all_goals first
    | (cases h; done)
    | exact point 2 (.inl rfl) h
    | exact point 4 (.inr rfl) h
    | skip
  all_goals (simp only [Option.some.injEq, Prod.mk.injEq] at h; obtain ⟨rfl, rfl⟩ := h)
  · exact ⟨by simp, by simp [encs], Nat.zero_le _, by simp [encs], by omega, by simp⟩
  · exact simple _ (by omega)
  · exact simple _ (by omega)
  · exact simple _ (by omega)
  · exact simple _ (by omega)
  · exact simple _ (by omega)
theorem sv_fit : ∀ (n : Nat) (l vs : List Nat), l.length ≤ n → (∀ r ∈ l, Scalar r) → sv l = some vs → (∀ v ∈ vs, Scalar v) ∧ (encs vs).length ≤ (encs l).length := by
  intro n
  induction n with
  | zero =>
    intro l vs hl _ h
    obtain rfl := List.eq_nil_of_length_eq_zero (Nat.le_zero.1 hl)
    simp [sv_nil] at h; subst h; simp
  | succ n ih =>
    intro l vs hl hs h
    cases l with
    | nil => simp [sv_nil] at h; subst h; simp
    | cons c t =>
      rw [List.length_cons] at hl
      by_cases hc : c = 92
      · subst hc
        cases t with
        | nil => rw [sv_end] at h; cases h
        | cons e u =>
          rw [List.length_cons] at hl
          rw [sv_esc] at h
          obtain ⟨⟨ws, k⟩, he, h2⟩ := Option.bind_eq_some_iff.1 h
          obtain ⟨ts, ht, rfl⟩ := Option.map_eq_some_iff.1 h2
          have hsu : ∀ r ∈ u, Scalar r := fun r hr => hs r (by simp [hr])
          obtain ⟨f1, f2, f3, f4, _, _⟩ := escR_fit hsu he
          simp only at ht ⊢
          obtain ⟨g1, g2⟩ := ih (u.drop k) ts (by rw [List.length_drop]; omega) (fun r hr => hsu r (List.mem_of_mem_drop hr)) ht
          refine ⟨fun v hv => (List.mem_append.1 hv).elim (f1 v) (g1 v), ?_⟩
          have h3 := enc_pos 92 (hs 92 (by simp))
          have h4 := enc_pos e (hs e (by simp))
          have h5 : (encs u).length = (encs (u.take k)).length + (encs (u.drop k)).length := by rw [← List.length_append, ← encs_split]
          rw [encs_append, List.length_append, encs_cons, encs_cons, List.length_append, List.length_append]
          omega
      · rw [sv_plain c t hc] at h
        obtain ⟨ts, ht, rfl⟩ := Option.map_eq_some_iff.1 h
        obtain ⟨g1, g2⟩ := ih t ts (by omega) (fun r hr => hs r (by simp [hr])) ht
        refine ⟨fun v hv => ?_, ?_⟩
        · rcases List.mem_cons.1 hv with rfl | h
          · exact hs _ (by simp)
          · exact g1 v h
        · rw [encs_cons, encs_cons, List.length_append, List.length_append]; omega
end Go.Proofs.YtfoofbcfcekleaaGreatDoor
