import Derived.Test.YtahcpgldpbejiaaGreatDoorFbN
import Derived.Test.YtahcpgldpbejiaaGreatDoorFbT
import Derived.Test.YtahcpgldpbejiaaGreatDoorFmG
namespace Go.Proofs.YtahcpgldpbejiaaGreatDoor
open Go.RowKit Go.Lib
set_option linter.unusedVariables false
set_option linter.unusedSimpArgs false

theorem bsN_rest (l : List Nat) (hs : ∀ r ∈ l, Scalar r) : bsN (tx l).toList = match kindR l with | some k => bsS k | none => 0 := by
  have e0 := tx_empty l hs
  have e1 := tx_is l hs 100 (by omega)
  have e2 := tx_is l hs 98 (by omega)
  have e3 := tx_is l hs 111 (by omega)
  have e4 := tx_is l hs 120 (by omega)
  unfold bsN
  rw [show ([100] : List UInt8) = [(100 : Nat).toUInt8] from rfl, show ([98] : List UInt8) = [(98 : Nat).toUInt8] from rfl, show ([111] : List UInt8) = [(111 : Nat).toUInt8] from rfl, show ([120] : List UInt8) = [(120 : Nat).toUInt8] from rfl, e0, e1, e2, e3, e4]
  rcases sh2 l with rfl | ⟨x, rfl⟩ | ⟨x, y, t, rfl⟩
  · rfl
  · rw [show kindR [x] = if isLt x = true then some x else none from rfl]
    by_cases hx : isLt x = true
    · rw [if_pos hx]
      have h0 : x ≠ 0 := by intro e; rw [e] at hx; cases hx
      unfold bsS
      by_cases a : x = 100
      · subst a; rfl
      by_cases b : x = 98
      · subst b; rfl
      by_cases c : x = 111
      · subst c; rfl
      by_cases d : x = 120
      · subst d; rfl
      simp [a, b, c, d, h0]
    · rw [if_neg hx]
      have a : x ≠ 100 := by intro e; rw [e] at hx; exact hx rfl
      have b : x ≠ 98 := by intro e; rw [e] at hx; exact hx rfl
      have c : x ≠ 111 := by intro e; rw [e] at hx; exact hx rfl
      have d : x ≠ 120 := by intro e; rw [e] at hx; exact hx rfl
      simp [a, b, c, d]
  · simp [kindR]
theorem pr_empty {c : List Nat} (hs : ∀ r ∈ c, Scalar r) (hbad : badR (rdR c) = false) : (tx (afDot (r5 c)).2.1).toList.isEmpty = !(rdR c).dot := by
  have hsc : ∀ r ∈ (afDot (r5 c)).2.1, Scalar r := by
    intro r hr
    have := (pr_dig c).1 r hr
    unfold isDg at this
    simp at this
    exact .inl (by omega)
  rw [tx_empty _ hsc]
  obtain ⟨_, d2, _, d4⟩ := afDot_eq (r5 c)
  show (afDot (r5 c)).2.1.isEmpty = !(afDot (r5 c)).1
  cases hh : (afDot (r5 c)).1 with
  | false => rw [d4 (d2.trans hh)]; rfl
  | true =>
    unfold badR rdR at hbad
    simp only at hbad
    rw [hh] at hbad
    simp at hbad
    cases h : (afDot (r5 c)).2.1 with
    | nil => rw [h] at hbad; simp at hbad
    | cons _ _ => rfl
theorem cm_empty {c : List Nat} (hs : ∀ r ∈ c, Scalar r) : (tx (cutL (· == 44) (r4 c))).toList.isEmpty = !((rdR c).cm != 0) := by
  have hs4 : ∀ r ∈ r4 c, Scalar r := cutD_sc (cutO_sc (cutO_sc (r1_sc hs)))
  rw [tx_empty _ (cutL_sc hs4), cutL_ne]
  show _ = !((cutO (· == 44) (r4 c)).1 != 0)
  rw [hd_ne (p := (· == 44)) rfl]
/-- The program's test and the specification's. -/
theorem bad_eq {c : List Nat} {k : Nat} (hs : ∀ r ∈ c, Scalar r) (hbad : badR (rdR c) = false) (hk : kindR (rdR c).rest = some k) (o : Bool) : fbBad (svR (rdR c) k) o = (bsBad (prT c) || !o) := by
  unfold fbBad bsBad svR
  show (bsS k == 0 || !o || (rdR c).dot || ((rdR c).cm != 0 && bsS k != 10)) = (bsN (tx (afDot (r5 c)).2.2).toList == 0 || !(tx (afDot (r5 c)).2.1).toList.isEmpty || (!(tx (cutL (· == 44) (r4 c))).toList.isEmpty && bsN (tx (afDot (r5 c)).2.2).toList != 10) || !o)
  rw [bsN_rest _ (rest_sc hs), pr_empty hs hbad, cm_empty hs, show (afDot (r5 c)).2.2 = (rdR c).rest from rfl, hk, Bool.not_not, Bool.not_not]
  simp only
  cases o <;> cases (bsS k == 0) <;> cases (rdR c).dot <;> cases ((rdR c).cm != 0 && bsS k != 10) <;> rfl
theorem bad_none {c : List Nat} (hs : ∀ r ∈ c, Scalar r) (hk : kindR (rdR c).rest = none) : bsBad (prT c) = true := by
  unfold bsBad
  have h := bsN_rest _ (rest_sc hs)
  rw [show (afDot (r5 c)).2.2 = (rdR c).rest from rfl, hk] at h
  simp only at h
  show (bsN (tx (rdR c).rest).toList == 0 || _ || _) = true
  rw [h]; rfl
theorem sg_cases {c : List Nat} (hs : ∀ r ∈ c, Scalar r) : (prT c).s = ⟨#[]⟩ ∧ (rdR c).sg = 0 ∨ (prT c).s = ⟨#[43]⟩ ∧ (rdR c).sg = 43 ∨ (prT c).s = ⟨#[45]⟩ ∧ (rdR c).sg = 45 ∨ (prT c).s = ⟨#[32]⟩ ∧ (rdR c).sg = 32 := by
  show tx (cutL isSg (r1 c)) = _ ∧ (cutO isSg (r1 c)).1 = _ ∨ tx (cutL isSg (r1 c)) = _ ∧ (cutO isSg (r1 c)).1 = _ ∨ tx (cutL isSg (r1 c)) = _ ∧ (cutO isSg (r1 c)).1 = _ ∨ tx (cutL isSg (r1 c)) = _ ∧ (cutO isSg (r1 c)).1 = _
  cases h : r1 c with
  | nil => exact .inl ⟨rfl, rfl⟩
  | cons x t =>
    by_cases hx : isSg x = true
    · simp only [cutL, cutO, hx, if_true]
      have h2 := hx
      unfold isSg at h2
      simp at h2
      have e : ∀ k : Nat, k < 128 → tx [k] = ⟨#[k.toUInt8]⟩ := fun k hk => by unfold tx; rw [encs_cons, encs_nil, List.append_nil, enc1 k hk]
      rcases h2 with (rfl | rfl) | rfl
      · exact .inr (.inl ⟨e 43 (by omega), rfl⟩)
      · exact .inr (.inr (.inr ⟨e 32 (by omega), rfl⟩))
      · exact .inr (.inr (.inl ⟨e 45 (by omega), rfl⟩))
    · simp only [cutL, cutO, hx]
      exact .inl ⟨rfl, rfl⟩
theorem sg_eq {c : List Nat} (hs : ∀ r ∈ c, Scalar r) (k : Nat) (neg : Bool) : sgP (prT c).s neg = sgS (svR (rdR c) k) neg := by
  unfold sgP sgS svR
  simp only
  cases neg with
  | true => rfl
  | false =>
    rcases sg_cases hs with ⟨a, b⟩ | ⟨a, b⟩ | ⟨a, b⟩ | ⟨a, b⟩
    all_goals (rw [a, b]; first | rfl | decide +revert | simp)
/-- ASCII bytes. -/
def Asc (l : List UInt8) : Prop := ∀ x ∈ l, x.toNat < 128
theorem Asc.encs {l : List UInt8} (h : Asc l) : encs (l.map UInt8.toNat) = l ∧ ∀ r ∈ l.map UInt8.toNat, Scalar r := by
  constructor
  · induction l with
    | nil => rfl
    | cons x t ih =>
      rw [List.map_cons, encs_cons, enc1 _ (h x (by simp)), ih (fun y hy => h y (by simp [hy]))]
      simp
  · intro r hr
    obtain ⟨x, hx, rfl⟩ := List.mem_map.1 hr
    exact .inl (by have := h x hx; omega)
theorem Asc.heads {l : List UInt8} (h : Asc l) : heads l = l.length := by
  obtain ⟨a, b⟩ := h.encs
  have := heads_encs _ b
  rw [a, List.length_map] at this
  exact this
theorem Asc.count {s : ByteArray} (h : Asc s.data.toList) : runeCount s = s.data.toList.length := by
  obtain ⟨a, b⟩ := h.encs
  rw [tx_of a.symm, tx_count _ b, List.length_map, tx_data, a]
theorem Asc.append {a b : List UInt8} (ha : Asc a) (hb : Asc b) : Asc (a ++ b) := fun x hx => (List.mem_append.1 hx).elim (ha x) (hb x)
theorem asc_txt {b n : Nat} (hb : 2 ≤ b) (hb2 : b ≤ 36) : Asc (Z.txt b n) := by
  intro x hx
  unfold Z.txt at hx
  split at hx
  · simp at hx; subst hx; decide
  · rw [List.mem_reverse, List.mem_map] at hx
    obtain ⟨d, hd, rfl⟩ := hx
    have := Z.le_lt hb n d hd
    unfold Z.ch
    split
    · rw [byte_nat (by omega)]; omega
    · rw [byte_nat (by omega)]; omega
theorem asc_cm {l : List UInt8} (h : Asc l) : Asc (cmT l) := by
  have : ∀ k, Asc (cmO l k) := by
    intro k
    induction k with
    | zero => intro x hx; simp [cmO] at hx
    | succ k ih =>
      rw [cmO]
      refine (ih.append ?_).append ?_
      · split
        · intro x hx; simp at hx; subst hx; decide
        · intro x hx; simp at hx
      · intro x hx
        simp at hx
        subst hx
        by_cases hk : k < l.length
        · have hg : l.getD k 0 = l[k] := by simp [List.getD, List.getElem?_eq_getElem hk]
          rw [show (l[k]?.getD 0) = l.getD k 0 from by simp [List.getD], hg]
          exact h _ (List.getElem_mem _)
        · rw [List.getElem?_eq_none (by omega)]; decide
  exact this _
theorem asc_sg (v : Sv) (p : Bool) : Asc (sgS v p).data.toList := by
  unfold sgS
  repeat' split
  all_goals (intro x hx; simp at hx; try (subst hx; decide))
end Go.Proofs.YtahcpgldpbejiaaGreatDoor
