import Derived.Test.YtdamddfhflhfbaaDoorBaseS
import Derived.Test.YtdamddfhflhfbaaDoorRuneB
import Derived.Lib.FieldsP
import Derived.Lib.TrimU
import Derived.Lib.TrimUEq
namespace Go.Proofs.YtdamddfhflhfbaaDoor
open Go.Lib
set_option linter.unusedVariables false
set_option linter.unusedSimpArgs false

/-- What stands between words. -/
def spN (x : Nat) : Bool := x == 32 || x == 9 || x == 10 || x == 13
theorem spN_high {x : Nat} (h : 128 ≤ x) : spN x = false := by
  simp [spN]; omega
def opn (st : Option Nat) (i : Nat) : Option Nat := match st with
  | some a => some a
  | none => some i
def cls (st : Option Nat) (i : Nat) : List (Nat × Nat) := match st with
  | some a => [(a, i)]
  | none => []
/-- The spans, byte by byte. -/
def bsp (s : ByteArray) : Nat → Nat → Option Nat → List (Nat × Nat) → List (Nat × Nat) × Option Nat
  | 0, _, st, acc => (acc, st)
  | f + 1, i, st, acc => if spN (s.get! i).toNat = true then bsp s f (i + 1) none (acc ++ cls st i) else bsp s f (i + 1) (opn st i) acc
theorem opn_opn (st : Option Nat) (i j : Nat) : opn (opn st i) j = opn st i := by cases st <;> rfl
theorem bsp_high (s : ByteArray) (st : Option Nat) (acc : List (Nat × Nat)) : ∀ (n f i : Nat), 1 ≤ n → (∀ j, j < n → 128 ≤ (s.get! (i + j)).toNat) → bsp s (f + n) i st acc = bsp s f (i + n) (opn st i) acc := by
  intro n
  induction n generalizing st with
  | zero => intro f i h; omega
  | succ n ih =>
    intro f i _ h
    have h0 := h 0 (by omega)
    rw [Nat.add_zero] at h0
    rw [← Nat.add_assoc, bsp, if_neg (by rw [spN_high h0]; decide)]
    by_cases hn : n = 0
    · subst hn; rfl
    · rw [ih (opn st i) f (i + 1) (by omega) (fun j hj => by rw [show i + 1 + j = i + (j + 1) by omega]; exact h (j + 1) (by omega)), opn_opn]
      congr 1; omega
theorem decodeN_parts (n b0 b1 b2 b3 : Nat) (h : 128 ≤ b0) (hn : 1 ≤ n) : 128 ≤ (decodeN n b0 b1 b2 b3).1 ∧ 1 ≤ (decodeN n b0 b1 b2 b3).2 ∧ (decodeN n b0 b1 b2 b3).2 ≤ n ∧ (decodeN n b0 b1 b2 b3).2 ≤ 4 ∧ (1 < (decodeN n b0 b1 b2 b3).2 → 128 ≤ b1) ∧ (2 < (decodeN n b0 b1 b2 b3).2 → 128 ≤ b2) ∧ (3 < (decodeN n b0 b1 b2 b3).2 → 128 ≤ b3) := by
  unfold decodeN
  rw [if_neg (by omega)]
  repeat' split
  all_goals (refine ⟨?_, ?_, ?_, ?_, ?_, ?_, ?_⟩)
  all_goals (simp only; omega)
theorem spans_eq (s : ByteArray) : ∀ (m pos f : Nat) (st : Option Nat) (acc : List (Nat × Nat)), s.size - pos ≤ m → s.size - pos ≤ f → spansFromP spN s f pos st acc = bsp s (s.size - pos) pos st acc := by
  intro m
  induction m with
  | zero =>
    intro pos f st acc h1 h2
    rw [spansFromP_end _ _ _ _ _ _ (by omega), show s.size - pos = 0 by omega]; rfl
  | succ m ih =>
    intro pos f st acc h1 h2
    by_cases hp : pos < s.size
    · obtain ⟨f', rfl⟩ : ∃ f', f = f' + 1 := ⟨f - 1, by omega⟩
      obtain ⟨d, hd⟩ : ∃ d, Utf8.decode s pos = d := ⟨_, rfl⟩
      unfold spansFromP
      rw [if_pos hp, hd]
      rw [decode_at] at hd
      by_cases hb : (s.get! pos).toNat < 128
      · rw [decodeN_ascii _ _ _ _ _ hb] at hd
        subst hd
        rw [show s.size - pos = (s.size - (pos + 1)) + 1 by omega, bsp]
        simp only
        by_cases hs : spN (s.get! pos).toNat = true
        · rw [if_pos hs, if_pos hs]
          cases st with
          | some a => exact ih _ _ _ _ (by omega) (by omega)
          | none => simp only [cls, List.append_nil]; exact ih _ _ _ _ (by omega) (by omega)
        · rw [if_neg hs, if_neg hs]
          cases st with
          | some a => exact ih _ _ _ _ (by omega) (by omega)
          | none => exact ih _ _ _ _ (by omega) (by omega)
      · obtain ⟨p1, p2, p3, p4, p5, p6, p7⟩ := decodeN_parts (s.size - pos) (s.get! pos).toNat (s.get! (pos + 1)).toNat (s.get! (pos + 2)).toNat (s.get! (pos + 3)).toNat (by omega) (by omega)
        rw [hd] at p1 p2 p3 p4 p5 p6 p7
        obtain ⟨r, n⟩ := d
        simp only at p1 p2 p3 p4 p5 p6 p7 ⊢
        rw [if_neg (by rw [spN_high p1]; decide)]
        have hH := bsp_high s st acc n (s.size - (pos + n)) pos p2 (fun j hj => by
          have : j = 0 ∨ j = 1 ∨ j = 2 ∨ j = 3 := by omega
          rcases this with rfl | rfl | rfl | rfl
          · rw [Nat.add_zero]; omega
          · exact p5 (by omega)
          · exact p6 (by omega)
          · exact p7 (by omega))
        rw [show s.size - (pos + n) + n = s.size - pos by omega] at hH
        rw [hH]
        cases st with
        | some a => exact ih _ _ _ _ (by omega) (by omega)
        | none => exact ih _ _ _ _ (by omega) (by omega)
    · rw [spansFromP_end _ _ _ _ _ _ hp, show s.size - pos = 0 by omega]; rfl
/-- The words of a text. -/
def wordsB (s : ByteArray) : List ByteArray := (closeSpans s (bsp s s.size 0 none [])).map fun x => s.extract x.1 x.2
theorem words_eq (s : ByteArray) : goFieldsP spN s = wordsB s := by
  unfold goFieldsP wordsB spansOfP
  rw [spans_eq s s.size 0 s.size none [] (by omega) (by omega)]; rfl
def wordOf (s : ByteArray) (st : Option Nat) (k : Nat) : List UInt8 := match st with
  | none => []
  | some a => (s.data.toList.take k).drop a
theorem ext_word (s : ByteArray) (a k : Nat) : s.extract a k = ⟨(wordOf s (some a) k).toArray⟩ := by
  apply ByteArray.ext
  apply Array.toList_inj.1
  rw [ByteArray.data_extract, Array.toList_extract]
  simp [wordOf, List.extract_eq_take_drop, List.drop_take]
/-- The search's state at the byte k: the words X, the word V that is open. -/
def WSt (s : ByteArray) (k : Nat) (X : List ByteArray) (V : List UInt8) : Prop :=
  ∃ st acc, X = acc.map (fun x => s.extract x.1 x.2) ∧ V = wordOf s st k ∧ (∀ a, st = some a → a < k) ∧ acc.length ≤ k ∧ (closeSpans s (bsp s (s.size - k) k st acc)).map (fun x => s.extract x.1 x.2) = wordsB s
theorem WSt.init (s : ByteArray) : WSt s 0 [] [] := ⟨none, [], rfl, rfl, fun a h => (by cases h), Nat.le_refl _, rfl⟩
theorem WSt.len {s : ByteArray} {k : Nat} {X : List ByteArray} {V : List UInt8} (h : WSt s k X V) : X.length ≤ k ∧ V.length ≤ k := by
  obtain ⟨st, acc, rfl, rfl, _, hl, _⟩ := h
  refine ⟨by simpa using hl, ?_⟩
  cases st with
  | none => simp [wordOf]
  | some a => simp [wordOf]; omega
theorem take_one (s : ByteArray) (k : Nat) (h : k < s.size) : s.data.toList.take (k + 1) = s.data.toList.take k ++ [s.get! k] := by
  have hk : k < s.data.toList.length := by rw [← size_eq]; exact h
  have e : s.data.toList[k] = s.get! k := by
    rw [← get_at s k h]; rfl
  rw [List.take_add_one, List.getElem?_eq_getElem hk, e]; rfl
theorem WSt.put {s : ByteArray} {k : Nat} {X : List ByteArray} {V : List UInt8} (h : WSt s k X V) (hk : k < s.size) (hb : spN (s.get! k).toNat = false) : WSt s (k + 1) X (V ++ [s.get! k]) := by
  obtain ⟨st, acc, rfl, rfl, ha, hl, hA⟩ := h
  rw [show s.size - k = (s.size - (k + 1)) + 1 by omega, bsp, if_neg (by rw [hb]; decide)] at hA
  have hkl : k < s.data.toList.length := by rw [← size_eq]; exact hk
  refine ⟨opn st k, acc, rfl, ?_, ?_, by omega, hA⟩
  · cases st with
    | none =>
      simp only [wordOf, opn, List.nil_append]
      rw [take_one s k hk, List.drop_append_of_le_length (by simp; omega), List.drop_of_length_le (by simp; omega)]; rfl
    | some a =>
      have := ha a rfl
      simp only [wordOf, opn]
      rw [take_one s k hk, List.drop_append_of_le_length (by simp; omega)]
  · intro a h
    cases st with
    | none => simp [opn] at h; omega
    | some b => simp [opn] at h; have := ha b rfl; omega
theorem WSt.some_of {s : ByteArray} {k : Nat} {st : Option Nat} (h : wordOf s st k ≠ []) : ∃ a, st = some a := by
  cases st with
  | none => exact absurd rfl h
  | some a => exact ⟨a, rfl⟩
theorem WSt.none_of {s : ByteArray} {k : Nat} {st : Option Nat} (h : wordOf s st k = []) (ha : ∀ a, st = some a → a < k) (hk : k ≤ s.size) : st = none := by
  cases st with
  | none => rfl
  | some a =>
    have := ha a rfl
    have h2 := congrArg List.length h
    simp [wordOf] at h2
    omega
/-- The state, or the end. -/
def WSt' (s : ByteArray) (k : Nat) (X : List ByteArray) (V : List UInt8) : Prop := (k ≤ s.size ∧ WSt s k X V) ∨ (k = s.size + 1 ∧ X = wordsB s ∧ V = [] ∧ X.length ≤ k)
theorem WSt.cut {s : ByteArray} {k : Nat} {X : List ByteArray} {V : List UInt8} (h : WSt s k X V) (hk : k ≤ s.size) (hb : k = s.size ∨ spN (s.get! k).toNat = true) (hV : V ≠ []) : WSt' s (k + 1) (X ++ [⟨V.toArray⟩]) [] := by
  obtain ⟨st, acc, rfl, rfl, ha, hl, hA⟩ := h
  obtain ⟨a, rfl⟩ := WSt.some_of hV
  by_cases he : k = s.size
  · subst he
    rw [Nat.sub_self, bsp] at hA
    right
    refine ⟨rfl, ?_, rfl, by simp; omega⟩
    rw [← hA, ← ext_word]
    simp [closeSpans]
  · have hb := hb.resolve_left he
    rw [show s.size - k = (s.size - (k + 1)) + 1 by omega, bsp, if_pos hb] at hA
    left
    refine ⟨by omega, none, acc ++ cls (some a) k, ?_, rfl, fun _ h => (by cases h), by simp [cls]; omega, hA⟩
    rw [← ext_word]
    simp [cls]
theorem WSt.skip {s : ByteArray} {k : Nat} {X : List ByteArray} (h : WSt s k X []) (hk : k ≤ s.size) (hb : k = s.size ∨ spN (s.get! k).toNat = true) : WSt' s (k + 1) X [] := by
  obtain ⟨st, acc, rfl, hV, ha, hl, hA⟩ := h
  obtain rfl := WSt.none_of hV.symm ha hk
  by_cases he : k = s.size
  · subst he
    rw [Nat.sub_self, bsp] at hA
    right
    refine ⟨rfl, ?_, rfl, by simp; omega⟩
    rw [← hA]
    simp [closeSpans]
  · have hb := hb.resolve_left he
    rw [show s.size - k = (s.size - (k + 1)) + 1 by omega, bsp, if_pos hb] at hA
    left
    refine ⟨by omega, none, acc ++ cls none k, ?_, rfl, fun _ h => (by cases h), by simp [cls]; omega, hA⟩
    simp [cls]
end Go.Proofs.YtdamddfhflhfbaaDoor
