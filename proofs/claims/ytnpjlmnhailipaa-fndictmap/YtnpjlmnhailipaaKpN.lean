import Derived.Test.YtnpjlmnhailipaaKpQ
import Derived.Test.YtnpjlmnhailipaaRoL
namespace Go.Proofs.Ytnpjlmnhailipaa
open Go.RowKit Go.Maps
set_option linter.unusedVariables false
set_option linter.unusedSimpArgs false

theorem liv_append (xs ys : List En) : liv (xs ++ ys) = liv xs ++ liv ys := by unfold liv; exact List.filter_append ..
theorem liv_cons_live {e : En} (h : e.g = false) (r : List En) : liv (e :: r) = e :: liv r := by unfold liv; rw [List.filter_cons_of_pos (by simp [h])]
theorem liv_cons_gone {e : En} (h : e.g = true) (r : List En) : liv (e :: r) = liv r := by unfold liv; rw [List.filter_cons_of_neg (by simp [h])]
/-- A live entry's place among the live ones, and what a change of it changes there. -/
theorem liv_split (es : List En) (i : Nat) (hi : i < es.length) (hg : es[i].g = false) : ∃ (p : Nat) (hp : p < (liv es).length), (liv es)[p] = es[i] ∧ (∀ x : En, x.g = false → liv (es.set i x) = (liv es).set p x) ∧ (∀ x : En, x.g = true → liv (es.set i x) = (liv es).eraseIdx p) := by
  have hs := get_split es i hi
  have hL : liv es = liv (es.take i) ++ es[i] :: liv (es.drop (i + 1)) := by
    calc liv es = liv (es.take i ++ es[i] :: es.drop (i + 1)) := by rw [← hs]
      _ = _ := by rw [liv_append, liv_cons_live hg]
  refine ⟨(liv (es.take i)).length, ?_, ?_, fun x hx => ?_, fun x hx => ?_⟩
  · rw [hL]; simp
  · simp only [hL]
    rw [List.getElem_append_right (Nat.le_refl _)]
    simp
  · rw [set_split es i x hi, liv_append, liv_cons_live hx, hL, List.set_append_right _ _ (Nat.le_refl _), Nat.sub_self, List.set_cons_zero]
  · rw [set_split es i x hi, liv_append, liv_cons_gone hx, hL, List.eraseIdx_append_of_length_le (Nat.le_refl _), Nat.sub_self, List.eraseIdx_cons_zero]

/-- A plain list of operations is what a dict has. -/
structure Sim (d : Dt) (L : List Op) : Prop where
  len : L.length = (liv d.e).length
  get : ∀ p (h : p < L.length) (h' : p < (liv d.e).length), L[p].h = (liv d.e)[p].h ∧ L[p].k = (liv d.e)[p].k ∧ L[p].v = (liv d.e)[p].v

theorem lv_liv (es : List En) : lv es = (liv es).map fun e => (e.h, e.k) := rfl
/-- No two of the plain list are called alike. -/
theorem Sim.one {d : Dt} {L : List Op} (hS : Sim d L) (hok : OkD d) {p q : Nat} (hp : p < L.length) (hq : q < L.length) (hh : L[p].h = L[q].h) (hk : L[p].k = L[q].k) : p = q := by
  have hn := hok.2.2.2.2.2
  rw [lv_liv] at hn
  have hp' : p < (liv d.e).length := by rw [← hS.len]; exact hp
  have hq' : q < (liv d.e).length := by rw [← hS.len]; exact hq
  obtain ⟨a1, a2, _⟩ := hS.get p hp hp'
  obtain ⟨b1, b2, _⟩ := hS.get q hq hq'
  have e : ((liv d.e).map fun e => (e.h, e.k))[p]'(by simpa using hp') = ((liv d.e).map fun e => (e.h, e.k))[q]'(by simpa using hq') := by
    simp only [List.getElem_map, Prod.mk.injEq]
    exact ⟨by rw [← a1, ← b1, hh], by rw [← a2, ← b2, hk]⟩
  rcases Nat.lt_trichotomy p q with h | h | h
  · exact absurd e (List.pairwise_iff_getElem.mp hn p q (by simpa using hp') (by simpa using hq') h)
  · exact h
  · exact absurd e.symm (List.pairwise_iff_getElem.mp hn q p (by simpa using hq') (by simpa using hp') h)

/-- What a search tells of the plain list. -/
theorem Sim.find {d : Dt} {L : List Op} (hS : Sim d L) (hok : OkD d) (ho : ∀ e ∈ d.e, shE.ok e) (h k : Int) (hh0 : 0 ≤ h) (hh1 : h < 18446744073709551616) :
    ((fnd d h k).1 = -1 ∧ ∀ p (hp : p < L.length), ¬ (L[p].h = h ∧ L[p].k = k)) ∨
    (0 ≤ (fnd d h k).1 ∧ ∃ (hl : (fnd d h k).1.toNat < d.e.length) (p : Nat) (hp : p < L.length), d.e[(fnd d h k).1.toNat].g = false ∧ L[p].h = h ∧ L[p].k = k ∧ L[p].v = d.e[(fnd d h k).1.toNat].v ∧
      (∀ x : En, x.g = false → liv (d.e.set (fnd d h k).1.toNat x) = (liv d.e).set p x) ∧ (∀ x : En, x.g = true → liv (d.e.set (fnd d h k).1.toNat x) = (liv d.e).eraseIdx p)) := by
  rcases fnd_val hok h k hh0 hh1 with h1 | ⟨h1, hl, hg, hh, hk⟩
  · refine .inl ⟨h1, fun p hp hc => ?_⟩
    have hp' : p < (liv d.e).length := by rw [← hS.len]; exact hp
    obtain ⟨a1, a2, _⟩ := hS.get p hp hp'
    have hm : (liv d.e)[p] ∈ liv d.e := List.getElem_mem hp'
    have hm2 : (liv d.e)[p] ∈ d.e ∧ (liv d.e)[p].g = false := by
      have := List.mem_filter.mp hm
      exact ⟨this.1, by simpa using this.2⟩
    exact fnd_new hok ho h k (by omega) _ hm2.1 hm2.2 ⟨by rw [← a1]; exact hc.1, by rw [← a2]; exact hc.2⟩
  · obtain ⟨p, hp, e, s1, s2⟩ := liv_split d.e _ hl hg
    have hp' : p < L.length := by rw [hS.len]; exact hp
    obtain ⟨a1, a2, a3⟩ := hS.get p hp' hp
    rw [e] at a1 a2 a3
    exact .inr ⟨h1, hl, p, hp', hg, by rw [a1, hh], by rw [a2, hk], a3, s1, s2⟩

theorem Sim.new : Sim d0D [] := ⟨by simp [d0D, liv], fun p h => by simp at h⟩
theorem Sim.cutNone {d : Dt} {L : List Op} (hS : Sim d L) {h k : Int} (hf : (fnd d h k).1 = -1) : Sim (cutD d h k).1 L ∧ (cutD d h k).2 = false := by
  unfold cutD; rw [if_pos (by omega)]; exact ⟨hS, rfl⟩
theorem Sim.cutOne {d : Dt} {L : List Op} (hS : Sim d L) {h k : Int} (hf : 0 ≤ (fnd d h k).1) {p : Nat} (hp : p < L.length) (hs : ∀ x : En, x.g = true → liv (d.e.set (fnd d h k).1.toNat x) = (liv d.e).eraseIdx p) : Sim (cutD d h k).1 (L.eraseIdx p) ∧ (cutD d h k).2 = true := by
  unfold cutD
  rw [if_neg (by omega)]
  have hl := hS.len
  have he := hs ⟨h, 0, 0, true⟩ rfl
  refine ⟨⟨?_, fun q hq hq' => ?_⟩, rfl⟩
  · simp only [he, List.length_eraseIdx, hl]
  · simp only [he] at hq' ⊢
    rw [List.getElem_eraseIdx, List.getElem_eraseIdx]
    split
    · exact hS.get q (by omega) (by omega)
    · exact hS.get (q + 1) (by rw [List.length_eraseIdx] at hq; split at hq <;> omega) (by rw [List.length_eraseIdx] at hq'; split at hq' <;> omega)
theorem Sim.putOne {d : Dt} {L : List Op} (hS : Sim d L) {h k : Int} (v : Int) (hf : 0 ≤ (fnd d h k).1) {p : Nat} (hp : p < L.length) (hh : L[p].h = h) (hk : L[p].k = k) (hs : ∀ x : En, x.g = false → liv (d.e.set (fnd d h k).1.toNat x) = (liv d.e).set p x) (c : Int) : Sim (putD d h k v).1 (L.set p ⟨c, h, k, v⟩) ∧ (putD d h k v).2 = true := by
  unfold putD
  rw [if_pos hf]
  have he := hs ⟨h, k, v, false⟩ rfl
  refine ⟨⟨by simp only [he, List.length_set]; exact hS.len, fun q hq hq' => ?_⟩, rfl⟩
  simp only [he] at hq' ⊢
  rw [List.getElem_set, List.getElem_set]
  split
  · exact ⟨rfl, rfl, rfl⟩
  · exact hS.get q (by simpa using hq) (by simpa using hq')
theorem Sim.snoc {d : Dt} {L : List Op} (hS : Sim d L) (o : Op) {d' : Dt} (he : liv d'.e = liv d.e ++ [⟨o.h, o.k, o.v, false⟩]) : Sim d' (L ++ [o]) := by
  refine ⟨by simp [he, hS.len], fun q hq hq' => ?_⟩
  simp only [he]
  by_cases hl : q < L.length
  · rw [List.getElem_append_left hl, List.getElem_append_left (by rw [← hS.len]; exact hl)]
    exact hS.get q hl _
  · have e : q = L.length := by simp at hq; omega
    subst e
    have e2 : L.length = (liv d.e).length := hS.len
    rw [List.getElem_append_right (Nat.le_refl _), List.getElem_append_right (by omega)]
    simp [e2]
theorem liv_liv (es : List En) : liv (liv es) = liv es := by unfold liv; rw [List.filter_filter]; simp
theorem Sim.putNew {d : Dt} {L : List Op} (hS : Sim d L) (hl : livN d.e ≤ 21000) (o : Op) (hf : (fnd d o.h o.k).1 = -1) : Sim (putD d o.h o.k o.v).1 (L ++ [o]) ∧ (putD d o.h o.k o.v).2 = true := by
  unfold putD
  rw [if_neg (by omega)]
  split
  · exact ⟨hS.snoc o (by simp only [addD]; rw [liv_append]; rfl), rfl⟩
  · have hr : (rnD d).2 = true ∧ (rnD d).1.e = liv d.e := by
      obtain ⟨m, hm17, hNM⟩ := NM.ex (livN d.e) (by omega)
      have hm : m ≤ 16 := by
        by_cases h9 : m ≤ 16
        · exact h9
        · exfalso
          have h8 := hNM.2.2 16 (by omega) (by omega)
          omega
      unfold rnD
      rw [nsm_eq hNM, if_neg (by omega)]
      exact ⟨rfl, rfl⟩
    rw [if_pos hr.1]
    refine ⟨hS.snoc o ?_, rfl⟩
    simp only [addD, hr.2]
    rw [liv_append, liv_liv]
    rfl
end Go.Proofs.Ytnpjlmnhailipaa
