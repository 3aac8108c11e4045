import Derived.Test.YtnpjlmnhailipaaPvI
namespace Go.Proofs.Ytnpjlmnhailipaa
open Go.RowKit Go.Maps
set_option linter.unusedVariables false
set_option linter.unusedSimpArgs false

theorem hsOf_set (es : List En) (i : Nat) (x : En) (hi : i < es.length) (hx : x.h = es[i].h) : hsOf (es.set i x) = hsOf es := by
  unfold hsOf
  rw [List.map_set, hx]
  apply List.ext_getElem
  · simp
  · intro j h1 h2
    rw [List.getElem_set]
    split
    · rename_i e; subst e; simp
    · rfl
theorem tabOf_set (n : Nat) (es : List En) (i : Nat) (x : En) (hi : i < es.length) (hx : x.h = es[i].h) : tabOf n (es.set i x) = tabOf n es := by
  unfold tabOf; rw [hsOf_set es i x hi hx, List.length_set]
theorem livN_set (es : List En) (i : Nat) (x : En) (hi : i < es.length) : (livN (es.set i x) : Int) = livN es - (if es[i].g then 0 else 1) + (if x.g then 0 else 1) := by
  induction es generalizing i with
  | nil => simp at hi
  | cons y r ih =>
    cases i with
    | zero =>
      obtain ⟨y1, y2, y3, y4⟩ := y
      obtain ⟨x1, x2, x3, x4⟩ := x
      simp only [livN, List.set_cons_zero, List.countP_cons, List.getElem_cons_zero]
      cases y4 <;> cases x4 <;> simp <;> omega
    | succ i =>
      have := ih i (by simpa using hi)
      obtain ⟨y1, y2, y3, y4⟩ := y
      simp only [livN, List.set_cons_succ, List.countP_cons, List.getElem_cons_succ] at this ⊢
      have hi' : i < r.length := by simpa using hi
      generalize (if (r[i]'hi').g = true then (0 : Int) else 1) = A at *
      generalize (if x.g = true then (0 : Int) else 1) = B at *
      cases y4 <;> simp <;> omega
theorem OkD.cut {d : Dt} (hok : OkD d) (h k : Int) (hh0 : 0 ≤ h) (hh1 : h < 18446744073709551616) : OkD (cutD d h k).1 := by
  have hv := fnd_val hok h k hh0 hh1
  unfold cutD
  split
  · exact hok
  · rename_i hn
    rcases hv with hv | ⟨h0, hlt, hg, hhh, hkk⟩
    · omega
    generalize (fnd d h k).1.toNat = i at *
    obtain ⟨o1, o2, o3, o4, o5, o6⟩ := hok
    refine ⟨o1, by simpa using o2, ?_, ?_, ?_, ?_⟩
    · intro e he hge
      rcases List.mem_or_eq_of_mem_set he with h | h
      · exact o3 e h hge
      · subst h; exact ⟨rfl, rfl⟩
    · have := livN_set d.e i ⟨h, 0, 0, true⟩ hlt
      simp only [hg] at this
      show d.l - 1 = (livN (d.e.set i ⟨h, 0, 0, true⟩) : Int)
      simp at this
      omega
    · show d.s = tabOf d.s.length (d.e.set i ⟨h, 0, 0, true⟩)
      rw [tabOf_set _ _ _ _ hlt hhh.symm]; exact o5
    · rw [lv_nodup] at o6 ⊢
      intro a b ha hb hab ga gb
      simp only [List.length_set] at ha hb
      simp only [List.getElem_set] at ga gb ⊢
      split at ga
      · cases ga
      · split at gb
        · cases gb
        · rename_i n1 n2
          rw [if_neg n1, if_neg n2]
          exact o6 a b ha hb hab ga gb
theorem fnd_new {d : Dt} (hok : OkD d) (ho : ∀ e ∈ d.e, shE.ok e) (h k : Int) (hn : (fnd d h k).1 < 0) : ∀ e ∈ d.e, e.g = false → ¬ (e.h = h ∧ e.k = k) := by
  obtain ⟨m, hm3, hm, ht, hl, hs, hroom⟩ := hok.tab
  have hF := (found_iff (m := m) (es := d.e) ho hl d.l).2 hok.2.2.2.2.2
  intro e he hg ⟨e1, e2⟩
  obtain ⟨i, hi, rfl⟩ := List.getElem_of_mem he
  have := hF i hi hg
  rw [← ht, e1, e2] at this
  have e3 : (⟨d.s, d.e, d.l⟩ : Dt) = d := rfl
  rw [e3] at this
  omega
theorem OkD.add {d : Dt} (hs : Sz d.s.length) (hl : d.e.length < d.s.length * 2 / 3) (h3 : ∀ e ∈ d.e, e.g = true → e.k = 0 ∧ e.v = 0) (h4 : d.l = livN d.e) (h6 : (lv d.e).Nodup) (h k v : Int) (hnew : ∀ e ∈ d.e, e.g = false → ¬ (e.h = h ∧ e.k = k)) : OkD (addD d ⟨h, k, v, false⟩) := by
  have hlen : (tabOf d.s.length (d.e ++ [⟨h, k, v, false⟩])).length = d.s.length := tabK_length _ _ _
  refine ⟨by simp only [addD, hlen]; exact hs, by simp only [addD, hlen, List.length_append, List.length_singleton]; omega, ?_, ?_, by simp only [addD, hlen], ?_⟩
  · intro e he hg
    simp only [addD] at he
    rcases List.mem_append.1 he with h | h
    · exact h3 e h hg
    · simp at h; subst h; cases hg
  · simp [addD, livN, List.countP_append, h4]
  · have e1 : lv (d.e ++ [⟨h, k, v, false⟩]) = lv d.e ++ [(h, k)] := by simp [lv]
    simp only [addD]
    rw [e1, List.nodup_append]
    refine ⟨h6, by simp, ?_⟩
    intro a ha b hb
    simp at hb
    subst hb
    intro e
    subst e
    simp only [lv, List.mem_map, List.mem_filter] at ha
    obtain ⟨y, ⟨hy1, hy2⟩, hy3⟩ := ha
    simp at hy3 hy2
    exact hnew y hy1 hy2 hy3
theorem liv_lv (es : List En) : lv (liv es) = lv es := by unfold lv liv; rw [List.filter_filter]; simp
theorem OkD.put {d : Dt} (hok : OkD d) (ho : ∀ e ∈ d.e, shE.ok e) (h k v : Int) (hh0 : 0 ≤ h) (hh1 : h < 18446744073709551616) : OkD (putD d h k v).1 := by
  have hv := fnd_val hok h k hh0 hh1
  obtain ⟨m, hm3, hm, ht, hl, hs, hroom⟩ := id hok.tab
  have hsz := sz_le hm
  have hll : livN d.e ≤ 43690 := Nat.le_trans (List.countP_le_length) (by omega)
  obtain ⟨o1, o2, o3, o4, o5, o6⟩ := id hok
  unfold putD
  split
  · rename_i hn
    rcases hv with hv | ⟨h0, hlt, hg, hhh, hkk⟩
    · omega
    generalize (fnd d h k).1.toNat = i at *
    refine ⟨o1, by simpa using o2, ?_, ?_, ?_, ?_⟩
    · intro e he hge
      rcases List.mem_or_eq_of_mem_set he with h | h
      · exact o3 e h hge
      · subst h; cases hge
    · have := livN_set d.e i ⟨h, k, v, false⟩ hlt
      simp only [hg] at this
      show d.l = (livN (d.e.set i ⟨h, k, v, false⟩) : Int)
      simp at this
      omega
    · show d.s = tabOf d.s.length (d.e.set i ⟨h, k, v, false⟩)
      rw [tabOf_set _ _ _ _ hlt hhh.symm]; exact o5
    · rw [lv_nodup] at o6 ⊢
      intro a b ha hb hab ga gb
      simp only [List.length_set] at ha hb
      have hx : ∀ c (hc : c < d.e.length), ((d.e.set i ⟨h, k, v, false⟩)[c]'(by simpa using hc)).h = d.e[c].h ∧ ((d.e.set i ⟨h, k, v, false⟩)[c]'(by simpa using hc)).k = d.e[c].k ∧ ((d.e.set i ⟨h, k, v, false⟩)[c]'(by simpa using hc)).g = d.e[c].g := by
        intro c hc
        rw [List.getElem_set]
        split
        · rename_i e; subst e; exact ⟨hhh.symm, hkk.symm, hg.symm⟩
        · exact ⟨rfl, rfl, rfl⟩
      obtain ⟨a1, a2, a3⟩ := hx a ha
      obtain ⟨b1, b2, b3⟩ := hx b hb
      rw [a3] at ga
      rw [b3] at gb
      rw [a1, a2, b1, b2]
      exact o6 a b ha hb hab ga gb
  · rename_i hn
    have hnew := fnd_new hok ho h k (by omega)
    split
    · rename_i hr
      exact OkD.add o1 hr o3 o4 o6 h k v hnew
    · split
      · obtain ⟨M, hM, hN⟩ := NM.ex _ hll
        rename_i h2
        simp only [rnD, nsm_eq hN] at h2 ⊢
        by_cases h16 : 16 < M
        · rw [if_pos h16] at h2; cases h2
        · rw [if_neg h16]
          have h8 : 2 ^ 3 ≤ 2 ^ M := Nat.pow_le_pow_right (by decide) hN.1
          have hlen : (tabOf (2 ^ M) (liv d.e)).length = 2 ^ M := tabK_length _ _ _
          have hmem : ∀ e ∈ liv d.e, e ∈ d.e ∧ e.g = false := fun e he => by simpa [liv] using he
          refine OkD.add (d := ⟨tabOf (2 ^ M) (liv d.e), liv d.e, d.l⟩) ?_ ?_ ?_ ?_ ?_ h k v ?_
          · simp only [hlen]; exact ⟨M, hN.1, by omega, rfl⟩
          · simp only [hlen, liv_len]; have := hN.2.1; omega
          · intro e he hg; have := (hmem e he).2; rw [this] at hg; cases hg
          · show d.l = _
            rw [o4]; simp [livN, liv, List.countP_filter]
          · show (lv (liv d.e)).Nodup
            rw [liv_lv]; exact o6
          · intro e he; exact hnew e (hmem e he).1
      · exact hok
theorem putD_ok {d : Dt} (ho : ∀ e ∈ d.e, shE.ok e) (h k v : Int) (hx : shE.ok ⟨h, k, v, false⟩) : ∀ e ∈ (putD d h k v).1.e, shE.ok e := by
  intro e he
  unfold putD at he
  split at he
  · rcases List.mem_or_eq_of_mem_set he with h | h
    · exact ho e h
    · subst h; exact hx
  · split at he
    · simp only [addD] at he
      rcases List.mem_append.1 he with h | h
      · exact ho e h
      · simp at h; subst h; exact hx
    · split at he
      · simp only [addD] at he
        rcases List.mem_append.1 he with h | h
        · unfold rnD at h
          split at h
          · exact ho e h
          · simp [liv] at h; exact ho e h.1
        · simp at h; subst h; exact hx
      · exact ho e he
end Go.Proofs.Ytnpjlmnhailipaa
