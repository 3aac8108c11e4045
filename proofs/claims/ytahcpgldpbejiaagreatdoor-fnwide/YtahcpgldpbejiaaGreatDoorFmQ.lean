import Derived.Test.YtahcpgldpbejiaaGreatDoorFmR
namespace Go.Proofs.YtahcpgldpbejiaaGreatDoor
open Go.RowKit Go.Lib
set_option linter.unusedVariables false
set_option linter.unusedSimpArgs false

theorem q1_eq (c : List Nat) : q1 c = r1 c ∧ w1 c = { sv0 with f := (match (cutAl c).1 with | some x => (x : Int) | none => -1), a := (cutAl c).2.1 } := by
  unfold q1 w1 r1
  rcases sh2 c with rfl | ⟨x, rfl⟩ | ⟨x, y, t, rfl⟩
  · exact ⟨rfl, rfl⟩
  · by_cases h : isAl x = true <;> simp [cutAl, al2, hd, h, sv0]
  · by_cases h : isAl y = true
    · simp [cutAl, al2, hd, h, sv0]
    · by_cases h2 : isAl x = true <;> simp [cutAl, al2, hd, h, h2, sv0]
theorem cutO_hd (p : Nat → Bool) (l : List Nat) : (if hd p l then l.drop 1 else l) = (cutO p l).2 ∧ (cutO p l).1 = (if hd p l then l.getD 0 0 else 0) := by
  cases l with
  | nil => exact ⟨rfl, rfl⟩
  | cons x t =>
    by_cases h : p x = true <;> simp [hd, cutO, h]
theorem hd_ne {p : Nat → Bool} {l : List Nat} (h0 : p 0 = false) : ((cutO p l).1 != 0) = hd p l := by
  cases l with
  | nil => rfl
  | cons x t =>
    unfold hd cutO
    simp only
    cases hp : p x
    · rfl
    · simp only [if_true]
      by_cases hx : x = 0
      · rw [hx, h0] at hp; cases hp
      · simp [hx]
theorem cutD_drop (m : Nat) (l : List Nat) : l.drop (cutD m l).1.length = (cutD m l).2 := by
  have h := cutD_app m l
  exact (congrArg (List.drop (cutD m l).1.length) h.symm).trans (List.drop_left)
/-- The parts of a spec as the specification keeps them. -/
def svR (r : Rs) (k : Nat) : Sv := ⟨(match r.fl with | some x => (x : Int) | none => -1), r.al, r.sg, r.zr != 0, nv r.wd, r.cm != 0, r.dot, nv r.pr, k⟩
theorem q3_eq (c : List Nat) : q3 c = r3 c ∧ w3 c = { sv0 with f := (match (cutAl c).1 with | some x => (x : Int) | none => -1), a := (cutAl c).2.1, s := (cutO isSg (r1 c)).1, z := ((cutO (· == 48) (r2 c)).1 != 0) } := by
  obtain ⟨h1, h2⟩ := q1_eq c
  have h3 : q2 c = r2 c := by unfold q2 r2; rw [h1]; exact (cutO_hd isSg (r1 c)).1
  have h4 : w2 c = { w1 c with s := (cutO isSg (r1 c)).1 } := by
    unfold w2
    rw [h1, (cutO_hd isSg (r1 c)).2]
    cases hd isSg (r1 c)
    · rw [h2]; rfl
    · rfl
  refine ⟨by unfold q3 r3; rw [h3]; exact (cutO_hd _ (r2 c)).1, ?_⟩
  unfold w3
  rw [h3, h4, h2, hd_ne (p := (· == 48)) (l := r2 c) rfl]
  cases hd (· == 48) (r2 c) <;> rfl
theorem dg19 {x : Nat} (h : isDg x = true) (h2 : x ≠ 48) : is19 x = true := by
  unfold isDg at h
  unfold is19
  simp only [Bool.and_eq_true, decide_eq_true_eq] at h ⊢
  omega
theorem d19 {x : Nat} (h : is19 x = true) : isDg x = true ∧ x ≠ 48 := by
  unfold is19 at h
  unfold isDg
  simp only [Bool.and_eq_true, decide_eq_true_eq] at h ⊢
  omega
theorem q4_eq (l : List Nat) (h : hd (· == 48) l = false) : (if hd is19 l then l.drop (cutD 4 l).1.length else l) = (cutD 4 l).2 ∧ (if hd is19 l then nv (cutD 4 l).1 else 0) = nv (cutD 4 l).1 ∧ (cutD 4 l).1.head? ≠ some 48 := by
  cases l with
  | nil => exact ⟨rfl, rfl, by simp [cutD]⟩
  | cons x t =>
    have hx : x ≠ 48 := by
      intro e
      rw [e] at h
      cases h
    cases hd : isDg x with
    | true =>
      have h19 : Proofs.YtahcpgldpbejiaaGreatDoor.hd is19 (x :: t) = true := dg19 hd hx
      rw [if_pos h19, if_pos h19]
      refine ⟨cutD_drop 4 (x :: t), rfl, ?_⟩
      rw [cutD, if_pos hd]
      simp [hx]
    | false =>
      have h19 : ¬ Proofs.YtahcpgldpbejiaaGreatDoor.hd is19 (x :: t) = true := by
        intro e
        have := (d19 (x := x) e).1
        rw [hd] at this; cases this
      rw [if_neg h19, if_neg h19]
      have hc : cutD 4 (x :: t) = ([], x :: t) := by rw [cutD, if_neg (by rw [hd]; decide)]
      rw [hc]
      exact ⟨rfl, rfl, by simp⟩
theorem afDot_eq (l : List Nat) : (if hd (· == 46) l then (l.drop 1).drop (cutD 3 (l.drop 1)).1.length else l) = (afDot l).2.2 ∧ hd (· == 46) l = (afDot l).1 ∧ (hd (· == 46) l = true → (cutD 3 (l.drop 1)).1 = (afDot l).2.1) ∧ (hd (· == 46) l = false → (afDot l).2.1 = []) := by
  cases l with
  | nil => exact ⟨rfl, rfl, (fun h => by cases h), fun _ => rfl⟩
  | cons x t =>
    by_cases hx : x = 46
    · subst hx
      have h1 : hd (· == 46) (46 :: t) = true := rfl
      rw [if_pos h1]
      refine ⟨?_, h1, fun _ => rfl, fun h => by rw [h1] at h; cases h⟩
      show t.drop (cutD 3 t).1.length = (cutD 3 t).2
      exact cutD_drop 3 t
    · have h1 : hd (· == 46) (x :: t) = false := by
        show (x == 46) = false
        rw [beq_eq_false_iff_ne]; exact hx
      have h2 : afDot (x :: t) = (false, [], x :: t) := by
        unfold afDot
        split
        · rename_i e; injection e with e1 _; exact absurd e1 hx
        · rfl
      rw [h2, h1]
      exact ⟨rfl, rfl, (fun h => by cases h), fun _ => rfl⟩
theorem kind_eq (l : List Nat) : (if hd isLt l then l.drop 1 else l).isEmpty = (kindR l).isSome ∧ (∀ k, kindR l = some k → (if hd isLt l then l.getD 0 0 else 0) = k) := by
  rcases sh2 l with rfl | ⟨x, rfl⟩ | ⟨x, y, t, rfl⟩
  · exact ⟨rfl, fun k h => by simp [kindR] at h; subst h; rfl⟩
  · by_cases h : isLt x = true <;> simp [kindR, hd, h]
  · by_cases h : isLt x = true <;> simp [kindR, hd, h]
set_option maxHeartbeats 1000000 in
theorem okQ_eq (c : List Nat) : okQ c = (!badR (rdR c) && (kindR (rdR c).rest).isSome) ∧ (okQ c = true → ∀ k, kindR (rdR c).rest = some k → w7 c = svR (rdR c) k) := by
  obtain ⟨h1, h2⟩ := q3_eq c
  cases h0 : hd (· == 48) (r3 c) with
  | true =>
    obtain ⟨x, t, hr, hx⟩ := hd_true h0
    have hx' : x = 48 := by simpa using hx
    subst hx'
    have hq3 : q3 c = 48 :: t := h1.trans hr
    have hq4 : q4 c = 48 :: t := by unfold q4; rw [hq3]; exact if_neg (by show ¬ is19 48 = true; decide)
    have hq5 : q5 c = 48 :: t := by unfold q5; rw [hq4]; exact if_neg (by show ¬ ((48 : Nat) == 44) = true; decide)
    have hq6 : q6 c = 48 :: t := by unfold q6; rw [hq5]; exact if_neg (by show ¬ ((48 : Nat) == 46) = true; decide)
    have hq7 : q7 c = 48 :: t := by unfold q7; rw [hq6]; exact if_neg (by show ¬ isLt 48 = true; decide)
    have ho : okQ c = false := by unfold okQ; rw [hq7]; simp
    have hb : badR (rdR c) = true := by
      unfold badR rdR
      simp only
      rw [hr, cutD, if_pos (by decide)]
      simp
    rw [ho, hb]
    exact ⟨rfl, fun h => by cases h⟩
  | false =>
    obtain ⟨g1, g2, g3⟩ := q4_eq (r3 c) h0
    have hq4 : q4 c = r4 c := by unfold q4 r4; rw [h1]; exact g1
    have hw4 : w4 c = { w3 c with wd := nv (cutD 4 (r3 c)).1 } := by
      unfold w4
      rw [h1]
      cases hh : hd is19 (r3 c)
      · rw [hh] at g2
        rw [if_neg (by decide)] at g2 ⊢
        rw [← g2, h2]; rfl
      · rfl
    have hq5 : q5 c = r5 c := by unfold q5 r5; rw [hq4]; exact (cutO_hd _ (r4 c)).1
    have hw5 : w5 c = { w4 c with cm := ((cutO (· == 44) (r4 c)).1 != 0) } := by
      unfold w5
      rw [hq4, hd_ne (p := (· == 44)) (l := r4 c) rfl]
      cases hd (· == 44) (r4 c)
      · rw [hw4, h2]; rfl
      · rfl
    obtain ⟨d1, d2, d3, d4⟩ := afDot_eq (r5 c)
    have hq6 : q6 c = (rdR c).rest := by unfold q6; rw [hq5]; exact d1
    have hw6 : w6 c = { w5 c with dt := (afDot (r5 c)).1, pr := nv (afDot (r5 c)).2.1 } := by
      unfold w6
      rw [hq5]
      cases hh : hd (· == 46) (r5 c)
      · rw [if_neg (by decide), ← d2, d4 hh, hh, hw5, hw4, h2]; rfl
      · rw [if_pos rfl, ← d2, hh, d3 hh]
    have hbad : badR (rdR c) = noDg c := by
      unfold badR noDg
      have e1 : ((rdR c).wd.head? == some 48) = false := by
        rw [beq_eq_false_iff_ne]; exact g3
      rw [e1, Bool.false_or, hq5]
      show ((afDot (r5 c)).1 && (afDot (r5 c)).2.1.isEmpty) = _
      cases hh : hd (· == 46) (r5 c)
      · rw [← d2, hh]; rfl
      · rw [← d2, hh, d3 hh]
    obtain ⟨k1, k2⟩ := kind_eq (rdR c).rest
    have hok : okQ c = (!badR (rdR c) && (kindR (rdR c).rest).isSome) := by
      unfold okQ q7
      rw [hbad, hq6, k1]
    refine ⟨hok, fun _ k hk => ?_⟩
    have hw7 : w7 c = { w6 c with kd := k } := by
      unfold w7
      rw [hq6]
      have := k2 k hk
      cases hh : hd isLt (rdR c).rest
      · rw [hh] at this
        rw [if_neg (by decide)] at this ⊢
        rw [← this, hw6, hw5, hw4, h2]; rfl
      · rw [hh] at this
        rw [if_pos rfl] at this ⊢
        rw [this]
    rw [hw7, hw6, hw5, hw4, h2]
    rfl
end Go.Proofs.YtahcpgldpbejiaaGreatDoor
