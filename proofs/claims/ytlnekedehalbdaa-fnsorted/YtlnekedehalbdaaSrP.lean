import Derived.Test.YtlnekedehalbdaaBaseZ
namespace Go.Proofs.Ytlnekedehalbdaa
open Go.RowKit
set_option linter.unusedVariables false
set_option linter.unusedSimpArgs false

/-- What was asked so far, and whether there was no answer. -/
structure St where
  h : List (Int × Int)
  k : Bool
abbrev Tl := List (Int × Int) → Int → Int → Option Bool
def ask (t : Tl) (s : St) (a b : Int) : Bool × St :=
  if s.k then (false, s) else match t s.h a b with
    | some r => (r, ⟨s.h ++ [(a, b)], false⟩)
    | none => (false, ⟨s.h ++ [(a, b)], true⟩)
theorem ask_stuck {t : Tl} {s : St} (h : s.k = true) (a b : Int) : ask t s a b = (false, s) := by simp [ask, h]
theorem ask_told {t : Tl} {s : St} {a b : Int} {r : Bool} (h : s.k = false) (e : t s.h a b = some r) : ask t s a b = (r, ⟨s.h ++ [(a, b)], false⟩) := by simp [ask, h, e]
theorem ask_none {t : Tl} {s : St} {a b : Int} (h : s.k = false) (e : t s.h a b = none) : ask t s a b = (false, ⟨s.h ++ [(a, b)], true⟩) := by simp [ask, h, e]
/-- Once there was no answer it stays so. -/
def Mono (s s' : St) : Prop := s.k = true → s' = s
theorem Mono.refl (s : St) : Mono s s := fun _ => rfl
theorem Mono.trans {a b c : St} (h : Mono a b) (g : Mono b c) : Mono a c := fun e => by have := h e; subst this; exact g e
theorem ask_mono (t : Tl) (s : St) (a b : Int) : Mono s (ask t s a b).2 := fun h => by rw [ask_stuck h]

/-- How many more go on in the run's way. -/
def upTo (t : Tl) (d : Bool) : Int → List Int → St → Nat × St
  | _, [], s => (0, s)
  | p, x :: r, s => if (ask t s x p).1 = d then ((upTo t d x r (ask t s x p).2).1 + 1, (upTo t d x r (ask t s x p).2).2) else (0, (ask t s x p).2)
theorem upTo_le (t : Tl) (d : Bool) : ∀ (l : List Int) (p : Int) (s : St), (upTo t d p l s).1 ≤ l.length
  | [], _, _ => Nat.le_refl _
  | x :: r, p, s => by
    simp only [upTo]
    split
    · have := upTo_le t d r x (ask t s x p).2; simp; omega
    · simp
theorem upTo_mono (t : Tl) (d : Bool) : ∀ (l : List Int) (p : Int) (s : St), Mono s (upTo t d p l s).2
  | [], _, s => Mono.refl s
  | x :: r, p, s => by
    simp only [upTo]
    split
    · exact (ask_mono t s x p).trans (upTo_mono t d r x _)
    · exact ask_mono t s x p
/-- The first run: how many, whether it goes down. -/
def runN (t : Tl) : List Int → St → Nat × Bool × St
  | [], s => (0, false, s)
  | [_], s => (1, false, s)
  | x :: y :: r, s => ((upTo t (ask t s y x).1 y r (ask t s y x).2).1 + 2, (ask t s y x).1, (upTo t (ask t s y x).1 y r (ask t s y x).2).2)
theorem runN_le (t : Tl) : ∀ (l : List Int) (s : St), (runN t l s).1 ≤ l.length
  | [], _ => Nat.le_refl _
  | [_], _ => Nat.le_refl _
  | x :: y :: r, s => by have := upTo_le t (ask t s y x).1 r y (ask t s y x).2; simp only [runN, List.length_cons]; omega
theorem runN_pos (t : Tl) : ∀ (l : List Int) (s : St), 0 < l.length → 0 < (runN t l s).1
  | [], _, h => by simp at h
  | [_], _, _ => by simp [runN]
  | x :: y :: r, s, _ => by simp [runN]
theorem runN_mono (t : Tl) : ∀ (l : List Int) (s : St), Mono s (runN t l s).2.2
  | [], s => Mono.refl s
  | [_], s => Mono.refl s
  | x :: y :: r, s => (ask_mono t s y x).trans (upTo_mono t _ r y _)
/-- Where a thing belongs among those that are sorted. -/
def bis (t : Tl) (x : Int) (l : List Int) : Nat → Nat → Nat → St → Nat × St
  | 0, lo, _, s => (lo, s)
  | f + 1, lo, hi, s => if lo < hi then (if (ask t s x (l.getD ((lo + hi) / 2) 0)).1 then bis t x l f lo ((lo + hi) / 2) (ask t s x (l.getD ((lo + hi) / 2) 0)).2 else bis t x l f ((lo + hi) / 2 + 1) hi (ask t s x (l.getD ((lo + hi) / 2) 0)).2) else (lo, s)
theorem bis_fuel (t : Tl) (x : Int) (l : List Int) : ∀ (f g lo hi : Nat) (s : St), hi - lo ≤ f → hi - lo ≤ g → bis t x l f lo hi s = bis t x l g lo hi s
  | 0, 0, _, _, _, _, _ => rfl
  | 0, g + 1, lo, hi, s, h, _ => by simp [bis, show ¬ lo < hi by omega]
  | f + 1, 0, lo, hi, s, _, h => by simp [bis, show ¬ lo < hi by omega]
  | f + 1, g + 1, lo, hi, s, h1, h2 => by
    simp only [bis]
    split
    · split
      · exact bis_fuel t x l f g _ _ _ (by omega) (by omega)
      · exact bis_fuel t x l f g _ _ _ (by omega) (by omega)
    · rfl
theorem bis_mono (t : Tl) (x : Int) (l : List Int) : ∀ (f lo hi : Nat) (s : St), Mono s (bis t x l f lo hi s).2
  | 0, _, _, s => Mono.refl s
  | f + 1, lo, hi, s => by
    simp only [bis]
    split
    · split
      · exact (ask_mono t s x _).trans (bis_mono t x l f _ _ _)
      · exact (ask_mono t s x _).trans (bis_mono t x l f _ _ _)
    · exact Mono.refl s
theorem bis_le (t : Tl) (x : Int) (l : List Int) : ∀ (f lo hi : Nat) (s : St), lo ≤ hi → lo ≤ (bis t x l f lo hi s).1 ∧ (bis t x l f lo hi s).1 ≤ hi
  | 0, lo, hi, s, h => ⟨Nat.le_refl _, h⟩
  | f + 1, lo, hi, s, h => by
    simp only [bis]
    split
    · split
      · have := bis_le t x l f lo ((lo + hi) / 2) (ask t s x (l.getD ((lo + hi) / 2) 0)).2 (by omega); omega
      · have := bis_le t x l f ((lo + hi) / 2 + 1) hi (ask t s x (l.getD ((lo + hi) / 2) 0)).2 (by omega); omega
    · exact ⟨Nat.le_refl _, h⟩
def putS (t : Tl) (x : Int) (l : List Int) (s : St) : List Int × St :=
  (l.take (bis t x l l.length 0 l.length s).1 ++ x :: l.drop (bis t x l l.length 0 l.length s).1, (bis t x l l.length 0 l.length s).2)
theorem putS_len (t : Tl) (x : Int) (l : List Int) (s : St) : (putS t x l s).1.length = l.length + 1 := by
  have := bis_le t x l l.length 0 l.length s (Nat.zero_le _)
  simp [putS]; omega
theorem putS_mono (t : Tl) (x : Int) (l : List Int) (s : St) : Mono s (putS t x l s).2 := bis_mono t x l _ _ _ s
/-- A short run takes in what comes behind it. -/
def fillS (t : Tl) : List Int → List Int → St → List Int × List Int × St
  | run, [], s => (run, [], s)
  | run, x :: r, s => if run.length < 6 then fillS t (putS t x run s).1 r (putS t x run s).2 else (run, x :: r, s)
theorem fillS_le (t : Tl) : ∀ (r run : List Int) (s : St), (fillS t run r s).2.1.length ≤ r.length ∧ (fillS t run r s).1.length + (fillS t run r s).2.1.length = run.length + r.length
  | [], run, s => ⟨Nat.le_refl _, rfl⟩
  | x :: r, run, s => by
    simp only [fillS]
    split
    · have := fillS_le t r (putS t x run s).1 (putS t x run s).2
      rw [putS_len] at this
      simp only [List.length_cons]; omega
    · simp
theorem fillS_mono (t : Tl) : ∀ (r run : List Int) (s : St), Mono s (fillS t run r s).2.2
  | [], run, s => Mono.refl s
  | x :: r, run, s => by
    simp only [fillS]
    split
    · exact (putS_mono t x run s).trans (fillS_mono t r _ _)
    · exact Mono.refl s
/-- A run whole, and what is left. -/
def oneS (t : Tl) (l : List Int) (s : St) : List Int × List Int × St :=
  fillS t (if (runN t l s).2.1 then (l.take (runN t l s).1).reverse else l.take (runN t l s).1) (l.drop (runN t l s).1) (runN t l s).2.2
theorem oneS_lt (t : Tl) (l : List Int) (s : St) (h : 0 < l.length) : (oneS t l s).2.1.length < l.length := by
  have h1 := runN_pos t l s h
  have h2 := runN_le t l s
  have h3 := (fillS_le t (l.drop (runN t l s).1) (if (runN t l s).2.1 then (l.take (runN t l s).1).reverse else l.take (runN t l s).1) (runN t l s).2.2).1
  rw [List.length_drop] at h3
  unfold oneS
  omega
theorem oneS_mono (t : Tl) (l : List Int) (s : St) : Mono s (oneS t l s).2.2 := (runN_mono t l s).trans (fillS_mono t _ _ _)
def runsS (t : Tl) : Nat → List Int → St → List (List Int) × St
  | 0, _, s => ([], s)
  | f + 1, l, s => if l = [] then ([], s) else ((oneS t l s).1 :: (runsS t f (oneS t l s).2.1 (oneS t l s).2.2).1, (runsS t f (oneS t l s).2.1 (oneS t l s).2.2).2)
theorem runsS_fuel (t : Tl) : ∀ (f g : Nat) (l : List Int) (s : St), l.length ≤ f → l.length ≤ g → runsS t f l s = runsS t g l s
  | 0, 0, _, _, _, _ => rfl
  | 0, g + 1, l, s, h, _ => by simp [runsS, List.length_eq_zero_iff.mp (Nat.le_zero.mp h)]
  | f + 1, 0, l, s, _, h => by simp [runsS, List.length_eq_zero_iff.mp (Nat.le_zero.mp h)]
  | f + 1, g + 1, l, s, h1, h2 => by
    simp only [runsS]
    split
    · rfl
    · rename_i hl
      have := oneS_lt t l s (List.length_pos_iff.mpr hl)
      rw [runsS_fuel t f g _ _ (by omega) (by omega)]
theorem runsS_mono (t : Tl) : ∀ (f : Nat) (l : List Int) (s : St), Mono s (runsS t f l s).2
  | 0, _, s => Mono.refl s
  | f + 1, l, s => by
    simp only [runsS]
    split
    · exact Mono.refl s
    · exact (oneS_mono t l s).trans (runsS_mono t f _ _)
def mrgS (t : Tl) : Nat → List Int → List Int → St → List Int × St
  | 0, a, b, s => (a ++ b, s)
  | _ + 1, [], b, s => (b, s)
  | _ + 1, x :: a, [], s => (x :: a, s)
  | f + 1, x :: a, y :: b, s => if (ask t s y x).1 then (y :: (mrgS t f (x :: a) b (ask t s y x).2).1, (mrgS t f (x :: a) b (ask t s y x).2).2) else (x :: (mrgS t f a (y :: b) (ask t s y x).2).1, (mrgS t f a (y :: b) (ask t s y x).2).2)
theorem mrgS_len (t : Tl) : ∀ (f : Nat) (a b : List Int) (s : St), (mrgS t f a b s).1.length = a.length + b.length
  | 0, a, b, s => by simp [mrgS]
  | _ + 1, [], b, s => by simp [mrgS]
  | _ + 1, x :: a, [], s => by simp [mrgS]
  | f + 1, x :: a, y :: b, s => by
    simp only [mrgS]
    split
    · have := mrgS_len t f (x :: a) b (ask t s y x).2; simp only [List.length_cons] at this ⊢; omega
    · have := mrgS_len t f a (y :: b) (ask t s y x).2; simp only [List.length_cons] at this ⊢; omega
theorem mrgS_mono (t : Tl) : ∀ (f : Nat) (a b : List Int) (s : St), Mono s (mrgS t f a b s).2
  | 0, a, b, s => Mono.refl s
  | _ + 1, [], b, s => Mono.refl s
  | _ + 1, x :: a, [], s => Mono.refl s
  | f + 1, x :: a, y :: b, s => by
    simp only [mrgS]
    split
    · exact (ask_mono t s y x).trans (mrgS_mono t f _ _ _)
    · exact (ask_mono t s y x).trans (mrgS_mono t f _ _ _)
def mrg2 (t : Tl) (a b : List Int) (s : St) : List Int × St := mrgS t (a.length + b.length) a b s
def pairS (t : Tl) : List (List Int) → St → List (List Int) × St
  | [], s => ([], s)
  | [a], s => ([a], s)
  | a :: b :: r, s => ((mrg2 t a b s).1 :: (pairS t r (mrg2 t a b s).2).1, (pairS t r (mrg2 t a b s).2).2)
theorem pairS_len (t : Tl) : ∀ (rs : List (List Int)) (s : St), (pairS t rs s).1.length = (rs.length + 1) / 2
  | [], _ => by simp [pairS]
  | [_], _ => by simp [pairS]
  | a :: b :: r, s => by simp only [pairS, List.length_cons]; rw [pairS_len t r]; omega
theorem pairS_mono (t : Tl) : ∀ (rs : List (List Int)) (s : St), Mono s (pairS t rs s).2
  | [], s => Mono.refl s
  | [_], s => Mono.refl s
  | a :: b :: r, s => (mrgS_mono t _ a b s).trans (pairS_mono t r _)
def allS (t : Tl) : Nat → List (List Int) → St → List (List Int) × St
  | 0, rs, s => (rs, s)
  | f + 1, rs, s => if rs.length ≤ 1 then (rs, s) else allS t f (pairS t rs s).1 (pairS t rs s).2
theorem allS_fuel (t : Tl) : ∀ (f g : Nat) (rs : List (List Int)) (s : St), rs.length ≤ f + 1 → rs.length ≤ g + 1 → allS t f rs s = allS t g rs s
  | 0, 0, _, _, _, _ => rfl
  | 0, g + 1, rs, s, h, _ => by simp [allS, show rs.length ≤ 1 by omega]
  | f + 1, 0, rs, s, _, h => by simp [allS, show rs.length ≤ 1 by omega]
  | f + 1, g + 1, rs, s, h1, h2 => by
    simp only [allS]
    split
    · rfl
    · have := pairS_len t rs s
      exact allS_fuel t f g _ _ (by omega) (by omega)
theorem allS_mono (t : Tl) : ∀ (f : Nat) (rs : List (List Int)) (s : St), Mono s (allS t f rs s).2
  | 0, rs, s => Mono.refl s
  | f + 1, rs, s => by
    simp only [allS]
    split
    · exact Mono.refl s
    · exact (pairS_mono t rs s).trans (allS_mono t f _ _)
theorem allS_one (t : Tl) : ∀ (f : Nat) (rs : List (List Int)) (s : St), rs.length ≤ f + 1 → (allS t f rs s).1.length ≤ 1
  | 0, rs, s, h => h
  | f + 1, rs, s, h => by
    simp only [allS]
    split
    · assumption
    · have := pairS_len t rs s
      exact allS_one t f _ _ (by omega)
def nums (n : Nat) : List Int := (List.range n).map fun (i : Nat) => (i : Int)
/-- The runs that are left in the end (one at most), and what was asked. -/
def sortS (t : Tl) (n : Nat) : List (List Int) × St := allS t (runsS t n (nums n) ⟨[], false⟩).1.length (runsS t n (nums n) ⟨[], false⟩).1 (runsS t n (nums n) ⟨[], false⟩).2
/-- The teller of SortKeys, and that of SortPlan. -/
def tellK (keys : List Int) : Tl := fun _ a b => some (decide (keys.getD a.toNat 0 < keys.getD b.toNat 0))
def tellA (ans : List Bool) : Tl := fun h _ _ => ans[h.length]?
end Go.Proofs.Ytlnekedehalbdaa
