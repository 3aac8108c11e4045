import Derived.Test.YtlnekedehalbdaaFsB
namespace Go.Proofs.Ytlnekedehalbdaa
open Go.RowKit
set_option linter.unusedVariables false
set_option linter.unusedSimpArgs false

theorem fill_ok (K : List Int) (n : Int) : ∀ (r run : List Int) (s : St), s.k = false → SL K run → 0 < run.length → (∀ y ∈ run, ∀ z ∈ r, y < z) → Up r → (∀ x ∈ run, 0 ≤ x ∧ x < n) → (∀ x ∈ r, 0 ≤ x ∧ x < n) → Ak n s.h →
    ∃ j, j ≤ r.length ∧ (fillS (tellK K) run r s).1.Perm (run ++ r.take j) ∧ (fillS (tellK K) run r s).2.1 = r.drop j ∧ SL K (fillS (tellK K) run r s).1 ∧ Ak n (fillS (tellK K) run r s).2.2.h ∧ s.h.length + j ≤ (fillS (tellK K) run r s).2.2.h.length
  | [], run, s, hk, hs, hl, hc, hu, h1, h2, ha => ⟨0, Nat.zero_le _, by simp [fillS], rfl, hs, ha, Nat.le_refl _⟩
  | x :: r, run, s, hk, hs, hl, hc, hu, h1, h2, ha => by
    by_cases hlt : run.length < 6
    · have hx := h2 x (by simp)
      obtain ⟨q1, q2, q3, q4⟩ := put_ok K n x run s hk hs (fun y hy => ⟨(h1 y hy).1, hc y hy x (by simp)⟩) hx.2 ha hl
      have hk2 : (putS (tellK K) x run s).2.k = false := bis_tot (tellK_tot K) x run _ _ _ s hk
      have hmem : ∀ y ∈ (putS (tellK K) x run s).1, y ∈ run ∨ y = x := fun y hy => by
        have := q2.mem_iff.mp hy
        simpa using this
      have hu2 := List.pairwise_cons.mp hu
      obtain ⟨j, j1, j2, j3, j4, j5, j6⟩ := fill_ok K n r (putS (tellK K) x run s).1 (putS (tellK K) x run s).2 hk2 q1 (by rw [putS_len]; omega) (fun y hy z hz => by
        rcases hmem y hy with h | h
        · exact hc y h z (by simp [hz])
        · rw [h]; exact hu2.1 z hz) hu2.2 (fun y hy => by
        rcases hmem y hy with h | h
        · exact h1 y h
        · rw [h]; exact hx) (fun y hy => h2 y (by simp [hy])) q3
      simp only [fillS]
      rw [if_pos hlt]
      refine ⟨j + 1, by simp; omega, ?_, j3, j4, j5, by omega⟩
      rw [List.take_succ_cons]
      refine j2.trans ?_
      have := q2.append_right (r.take j)
      simpa using this
    · simp only [fillS]
      rw [if_neg hlt]
      exact ⟨0, Nat.zero_le _, by simp, rfl, hs, ha, Nat.le_refl _⟩
theorem one_ok (K : List Int) (n : Int) (l : List Int) (s : St) (hk : s.k = false) (hl : 0 < l.length) (hu : Up l) (hr : ∀ x ∈ l, 0 ≤ x ∧ x < n) (ha : Ak n s.h) :
    ∃ k, 0 < k ∧ k ≤ l.length ∧ (oneS (tellK K) l s).1.Perm (l.take k) ∧ (oneS (tellK K) l s).2.1 = l.drop k ∧ SL K (oneS (tellK K) l s).1 ∧ Ak n (oneS (tellK K) l s).2.2.h ∧ s.h.length + k ≤ (oneS (tellK K) l s).2.2.h.length + 1 := by
  obtain ⟨q1, q2, q3⟩ := run_ok K n l s hk hu hr ha
  have p1 := runN_pos (tellK K) l s hl
  have p2 := runN_le (tellK K) l s
  have hk2 := runN_tot (tellK_tot K) l s hk
  unfold oneS
  generalize hRN : runN (tellK K) l s = RN at *
  obtain ⟨m, d, s2⟩ := RN
  simp only at q1 q2 q3 p1 p2 hk2 ⊢
  have hperm : (if d then (l.take m).reverse else l.take m).Perm (l.take m) := by
    split
    · exact List.reverse_perm _
    · exact List.Perm.refl _
  have hsp : (l.take m ++ l.drop m).Pairwise (· < ·) := by rw [List.take_append_drop]; exact hu
  obtain ⟨u1, u2, u3⟩ := List.pairwise_append.mp hsp
  generalize (if d then (l.take m).reverse else l.take m) = Q at *
  obtain ⟨j, j1, j2, j3, j4, j5, j6⟩ := fill_ok K n (l.drop m) Q s2 hk2 q1 (by rw [hperm.length_eq]; simp; omega) (fun y hy z hz => u3 y (hperm.mem_iff.mp hy) z hz) u2 (fun x hx => hr x (List.mem_of_mem_take (hperm.mem_iff.mp hx))) (fun x hx => hr x (List.mem_of_mem_drop hx)) q2
  refine ⟨m + j, by omega, by simp at j1; omega, ?_, ?_, j4, j5, by omega⟩
  · refine j2.trans ?_
    have e : l.take (m + j) = l.take m ++ (l.drop m).take j := List.take_add
    rw [e]
    exact hperm.append_right _
  · rw [j3, List.drop_drop]
def Cr (A B : List Int) : Prop := ∀ a ∈ A, ∀ b ∈ B, a < b
theorem runs_ok (K : List Int) (n : Int) : ∀ (f : Nat) (l : List Int) (s : St), s.k = false → l.length ≤ f → Up l → (∀ x ∈ l, 0 ≤ x ∧ x < n) → Ak n s.h →
    (∀ q ∈ (runsS (tellK K) f l s).1, SL K q ∧ 0 < q.length) ∧ (runsS (tellK K) f l s).1.flatten.Perm l ∧ (runsS (tellK K) f l s).1.Pairwise Cr ∧ Ak n (runsS (tellK K) f l s).2.h ∧ s.h.length + l.length ≤ (runsS (tellK K) f l s).2.h.length + (runsS (tellK K) f l s).1.length
  | 0, l, s, hk, hl, hu, hr, ha => by
    have : l = [] := List.length_eq_zero_iff.mp (by omega)
    subst this
    exact ⟨by simp [runsS], by simp [runsS], by simp [runsS], ha, by simp [runsS]⟩
  | f + 1, l, s, hk, hl, hu, hr, ha => by
    by_cases h0 : l = []
    · subst h0
      simp only [runsS, if_true]
      exact ⟨by simp, by simp, by simp, ha, by simp⟩
    · have hpos : 0 < l.length := List.length_pos_iff.mpr h0
      obtain ⟨k, k1, k2, k3, k4, k5, k6, k7⟩ := one_ok K n l s hk hpos hu hr ha
      have hk2 := oneS_tot (tellK_tot K) l s hk
      have hsp : (l.take k ++ l.drop k).Pairwise (· < ·) := by rw [List.take_append_drop]; exact hu
      obtain ⟨u1, u2, u3⟩ := List.pairwise_append.mp hsp
      simp only [runsS]
      rw [if_neg h0]
      generalize oneS (tellK K) l s = ON at *
      obtain ⟨Q, R, s2⟩ := ON
      simp only at k3 k4 k5 k6 k7 hk2 ⊢
      subst k4
      obtain ⟨g1, g2, g3, g4, g5⟩ := runs_ok K n f (l.drop k) s2 hk2 (by simp; omega) u2 (fun x hx => hr x (List.mem_of_mem_drop hx)) k6
      refine ⟨?_, ?_, ?_, g4, ?_⟩
      · intro q hq
        rcases List.mem_cons.mp hq with rfl | hq
        · exact ⟨k5, by rw [k3.length_eq]; simp; omega⟩
        · exact g1 q hq
      · rw [List.flatten_cons]
        have := (k3.append g2)
        rw [List.take_append_drop] at this
        exact this
      · refine List.pairwise_cons.mpr ⟨fun B hB => ?_, g3⟩
        intro a hA b hb
        exact u3 a (k3.mem_iff.mp hA) b (g2.mem_iff.mp (List.mem_flatten.mpr ⟨B, hB, hb⟩))
      · simp at g5 ⊢; omega
theorem merge_ok (K : List Int) (n : Int) : ∀ (f : Nat) (A B : List Int) (s : St), s.k = false → A.length + B.length ≤ f → SL K A → SL K B → Cr A B → (∀ x ∈ A, 0 ≤ x ∧ x < n) → (∀ x ∈ B, 0 ≤ x ∧ x < n) → Ak n s.h →
    SL K (mrgS (tellK K) f A B s).1 ∧ (mrgS (tellK K) f A B s).1.Perm (A ++ B) ∧ Ak n (mrgS (tellK K) f A B s).2.h ∧ s.h.length ≤ (mrgS (tellK K) f A B s).2.h.length ∧ (0 < A.length → 0 < B.length → s.h.length + 1 ≤ (mrgS (tellK K) f A B s).2.h.length)
  | 0, A, B, s, hk, hf, hA, hB, hc, h1, h2, ha => by
    have e1 : A = [] := List.length_eq_zero_iff.mp (by omega)
    have e2 : B = [] := List.length_eq_zero_iff.mp (by omega)
    subst e1 e2
    exact ⟨by simp [mrgS, SL], by simp [mrgS], ha, Nat.le_refl _, fun h => by simp at h⟩
  | f + 1, [], B, s, hk, hf, hA, hB, hc, h1, h2, ha => by
    simp only [mrgS]
    exact ⟨hB, by simp, ha, Nat.le_refl _, fun h => by simp at h⟩
  | f + 1, x :: A, [], s, hk, hf, hA, hB, hc, h1, h2, ha => by
    simp only [mrgS]
    exact ⟨hA, by simp, ha, Nat.le_refl _, fun _ h => by simp at h⟩
  | f + 1, x :: A, y :: B, s, hk, hf, hA, hB, hc, h1, h2, ha => by
    have hxy := hc x (by simp) y (by simp)
    have e := askK K hk y x
    have hx := h1 x (by simp)
    have hy := h2 y (by simp)
    have ha2 : Ak n (s.h ++ [(y, x)]) := ha.snoc hx.1 hxy hy.2
    have hA2 := List.pairwise_cons.mp hA
    have hB2 := List.pairwise_cons.mp hB
    simp only [mrgS]
    rw [e]
    simp only
    by_cases hd : kv K y < kv K x
    · rw [decide_eq_true hd]
      simp only [if_true]
      obtain ⟨q1, q2, q3, q4, q5⟩ := merge_ok K n f (x :: A) B ⟨s.h ++ [(y, x)], false⟩ rfl (by simp at hf ⊢; omega) hA hB2.2 (fun a hAa b hb => hc a hAa b (by simp [hb])) h1 (fun z hz => h2 z (by simp [hz])) ha2
      simp only [List.length_append, List.length_singleton] at q4
      refine ⟨?_, ?_, q3, by omega, fun _ _ => by omega⟩
      · refine List.pairwise_cons.mpr ⟨fun z hz => ?_, q1⟩
        have := q2.mem_iff.mp hz
        rcases List.mem_append.mp this with h | h
        · rcases List.mem_cons.mp h with rfl | h
          · exact .inl hd
          · have := (hA2.1 z h).le
            exact .inl (by omega)
        · exact hB2.1 z h
      · have := (q2.cons y)
        exact this.trans (List.perm_middle.symm)
    · rw [decide_eq_false hd]
      simp only [Bool.false_eq_true, if_false]
      obtain ⟨q1, q2, q3, q4, q5⟩ := merge_ok K n f A (y :: B) ⟨s.h ++ [(y, x)], false⟩ rfl (by simp at hf ⊢; omega) hA2.2 hB (fun a hAa b hb => hc a (by simp [hAa]) b hb) (fun z hz => h1 z (by simp [hz])) h2 ha2
      simp only [List.length_append, List.length_singleton] at q4
      refine ⟨?_, ?_, q3, by omega, fun _ _ => by omega⟩
      · refine List.pairwise_cons.mpr ⟨fun z hz => ?_, q1⟩
        have := q2.mem_iff.mp hz
        rcases List.mem_append.mp this with h | h
        · exact hA2.1 z h
        · have hxz := hc x (by simp) z h
          have hyz : kv K y ≤ kv K z := by
            rcases List.mem_cons.mp h with rfl | h
            · omega
            · exact (hB2.1 z h).le
          unfold Lt; omega
      · exact q2.cons x
/-- Runs that can be merged. -/
structure Rs (K : List Int) (n : Int) (rs : List (List Int)) : Prop where
  sl : ∀ q ∈ rs, SL K q ∧ 0 < q.length
  cr : rs.Pairwise Cr
  rg : ∀ q ∈ rs, ∀ x ∈ q, 0 ≤ x ∧ x < n
theorem pair_ok (K : List Int) (n : Int) : ∀ (rs : List (List Int)) (s : St), s.k = false → Rs K n rs → Ak n s.h →
    Rs K n (pairS (tellK K) rs s).1 ∧ (pairS (tellK K) rs s).1.flatten.Perm rs.flatten ∧ Ak n (pairS (tellK K) rs s).2.h ∧ s.h.length + rs.length ≤ (pairS (tellK K) rs s).2.h.length + (pairS (tellK K) rs s).1.length
  | [], s, hk, h, ha => ⟨h, List.Perm.refl _, ha, Nat.le_refl _⟩
  | [a], s, hk, h, ha => ⟨h, List.Perm.refl _, ha, Nat.le_refl _⟩
  | a :: b :: r, s, hk, h, ha => by
    have hcr := List.pairwise_cons.mp h.cr
    have hcr2 := List.pairwise_cons.mp hcr.2
    have hSa := h.sl a (by simp)
    have hSb := h.sl b (by simp)
    obtain ⟨q1, q2, q3, q4, q5⟩ := merge_ok K n (a.length + b.length) a b s hk (Nat.le_refl _) hSa.1 hSb.1 (hcr.1 b (by simp)) (h.rg a (by simp)) (h.rg b (by simp)) ha
    have hk2 := mrgS_totK (tellK_tot K) (a.length + b.length) a b s hk
    have hr : Rs K n r := ⟨fun q hq => h.sl q (by simp [hq]), hcr2.2, fun q hq => h.rg q (by simp [hq])⟩
    have q6 := q5 hSa.2 hSb.2
    simp only [pairS]
    unfold mrg2
    generalize mrgS (tellK K) (a.length + b.length) a b s = MM at *
    obtain ⟨M, s2⟩ := MM
    simp only at q1 q2 q3 q4 q5 q6 hk2 ⊢
    obtain ⟨g1, g2, g3, g4⟩ := pair_ok K n r s2 hk2 hr q3
    have hmem : ∀ x ∈ M, x ∈ a ∨ x ∈ b := fun x hx => List.mem_append.mp (q2.mem_iff.mp hx)
    refine ⟨⟨?_, ?_, ?_⟩, ?_, g3, by simp at g4 ⊢; omega⟩
    · intro q hq
      rcases List.mem_cons.mp hq with rfl | hq
      · exact ⟨q1, by rw [q2.length_eq]; have := hSa.2; simp; omega⟩
      · exact g1.sl q hq
    · refine List.pairwise_cons.mpr ⟨fun C hC x hx y hy => ?_, g1.cr⟩
      have hy2 : y ∈ r.flatten := g2.mem_iff.mp (List.mem_flatten.mpr ⟨C, hC, hy⟩)
      obtain ⟨D, hD, hyD⟩ := List.mem_flatten.mp hy2
      rcases hmem x hx with h3 | h3
      · exact hcr.1 D (by simp [hD]) x h3 y hyD
      · exact hcr2.1 D hD x h3 y hyD
    · intro q hq
      rcases List.mem_cons.mp hq with rfl | hq
      · intro x hx
        rcases hmem x hx with h3 | h3
        · exact h.rg a (by simp) x h3
        · exact h.rg b (by simp) x h3
      · exact g1.rg q hq
    · simp only [List.flatten_cons]
      have := q2.append g2
      simpa using this
theorem all_ok (K : List Int) (n : Int) : ∀ (f : Nat) (rs : List (List Int)) (s : St), s.k = false → Rs K n rs → Ak n s.h →
    Rs K n (allS (tellK K) f rs s).1 ∧ (allS (tellK K) f rs s).1.flatten.Perm rs.flatten ∧ Ak n (allS (tellK K) f rs s).2.h ∧ s.h.length + rs.length ≤ (allS (tellK K) f rs s).2.h.length + (allS (tellK K) f rs s).1.length
  | 0, rs, s, hk, h, ha => ⟨h, List.Perm.refl _, ha, Nat.le_refl _⟩
  | f + 1, rs, s, hk, h, ha => by
    by_cases hl : rs.length ≤ 1
    · simp only [allS]; rw [if_pos hl]; exact ⟨h, List.Perm.refl _, ha, Nat.le_refl _⟩
    · simp only [allS]
      rw [if_neg hl]
      obtain ⟨q1, q2, q3, q4⟩ := pair_ok K n rs s hk h ha
      obtain ⟨g1, g2, g3, g4⟩ := all_ok K n f _ _ (pairS_totK (tellK_tot K) rs s hk) q1 q3
      exact ⟨g1, g2.trans q2, g3, by omega⟩
theorem nums_up (n : Nat) : Up (nums n) := by
  unfold Up nums
  rw [List.pairwise_map]
  exact List.pairwise_lt_range.imp (fun h => by omega)
/-- The sort by keys: all things once, in order, and enough was asked. -/
theorem sort_ok (K : List Int) (n : Nat) : SL K ((sortS (tellK K) n).1.headD []) ∧ ((sortS (tellK K) n).1.headD []).Perm (nums n) ∧ Ak n (sortS (tellK K) n).2.h ∧ n ≤ (sortS (tellK K) n).2.h.length + 1 := by
  have ha : Ak n ([] : List (Int × Int)) := fun p hp => by cases hp
  obtain ⟨r1, r2, r3, r4, r5⟩ := runs_ok K n n (nums n) ⟨[], false⟩ rfl (by simp [nums]) (nums_up n) (fun x hx => by rw [← seg_nums] at hx; have := seg_mem hx; omega) ha
  have hk := runsS_totK (tellK_tot K) n (nums n) ⟨[], false⟩ rfl
  have hrs : Rs K n (runsS (tellK K) n (nums n) ⟨[], false⟩).1 := ⟨r1, r3, fun q hq x hx => by
    have := r2.mem_iff.mp (List.mem_flatten.mpr ⟨q, hq, hx⟩)
    rw [← seg_nums] at this
    have := seg_mem this
    omega⟩
  obtain ⟨g1, g2, g3, g4⟩ := all_ok K n (runsS (tellK K) n (nums n) ⟨[], false⟩).1.length _ _ hk hrs r4
  have hone := allS_one (tellK K) (runsS (tellK K) n (nums n) ⟨[], false⟩).1.length (runsS (tellK K) n (nums n) ⟨[], false⟩).1 (runsS (tellK K) n (nums n) ⟨[], false⟩).2 (by omega)
  have hnl : (nums n).length = n := by simp [nums]
  rw [hnl] at r5
  unfold sortS
  generalize allS (tellK K) (runsS (tellK K) n (nums n) ⟨[], false⟩).1.length (runsS (tellK K) n (nums n) ⟨[], false⟩).1 (runsS (tellK K) n (nums n) ⟨[], false⟩).2 = AL at *
  obtain ⟨F, sF⟩ := AL
  simp only at g1 g2 g3 g4 hone ⊢
  simp only [List.length_nil] at r5
  have hp := g2.trans r2
  match F, hone with
  | [], _ =>
    simp only [List.flatten_nil] at hp
    have : nums n = [] := hp.nil_eq.symm
    have hn0 : n = 0 := by rw [← hnl, this]; rfl
    exact ⟨by simp [SL], by simpa using hp, g3, by omega⟩
  | [q], _ =>
    refine ⟨(g1.sl q (by simp)).1, by simpa using hp, g3, ?_⟩
    simp at g4
    omega
  | _ :: _ :: _, h => simp at h
end Go.Proofs.Ytlnekedehalbdaa
