import Derived.Test.YtnpjlmnhailipaaKpP
namespace Go.Proofs.Ytnpjlmnhailipaa
open Go.RowKit Go.Maps
set_option linter.unusedVariables false
set_option linter.unusedSimpArgs false

/-- The live entries of another name. -/
def oth (es : List En) (h k : Int) : List En := es.filter fun e => !e.g && !(e.h == h && e.k == k)
theorem set_split (es : List En) (i : Nat) (x : En) (hi : i < es.length) : es.set i x = es.take i ++ x :: es.drop (i + 1) := by
  rw [List.set_eq_take_append_cons_drop, if_pos hi]
theorem get_split (es : List En) (i : Nat) (hi : i < es.length) : es = es.take i ++ es[i] :: es.drop (i + 1) := by
  rw [← List.drop_eq_getElem_cons hi, List.take_append_drop]
/-- A live entry goes: the others are left, in their order. -/
theorem liv_set_gone (es : List En) (i : Nat) (hi : i < es.length) (h k : Int) (x : En) (hx : x.g = true) (hn : es[i].h = h ∧ es[i].k = k) (hu : ∀ j (hj : j < es.length), j ≠ i → es[j].g = false → ¬ (es[j].h = h ∧ es[j].k = k)) : liv (es.set i x) = oth es h k := by
  have e1 := get_split es i hi
  unfold oth
  rw [set_split es i x hi]
  conv => rhs; rw [e1]
  unfold liv
  rw [List.filter_append, List.filter_append, List.filter_cons, List.filter_cons]
  have hA : (es.take i).filter (fun e => !e.g) = (es.take i).filter (fun e => !e.g && !(e.h == h && e.k == k)) := by
    apply List.filter_congr
    intro y hy
    obtain ⟨j, hj, rfl⟩ := List.getElem_of_mem hy
    simp only [List.getElem_take]
    have hj' : j < i := by simp at hj; omega
    cases hg : es[j].g
    · have := hu j (by omega) (by omega) hg
      simp only [Bool.not_false, Bool.true_and]
      simp
      exact Classical.not_and_iff_not_or_not.1 this
    · simp
  have hB : (es.drop (i + 1)).filter (fun e => !e.g) = (es.drop (i + 1)).filter (fun e => !e.g && !(e.h == h && e.k == k)) := by
    apply List.filter_congr
    intro y hy
    obtain ⟨j, hj, rfl⟩ := List.getElem_of_mem hy
    simp only [List.getElem_drop]
    have hj' : i + 1 + j < es.length := by simp at hj; omega
    cases hg : es[i + 1 + j].g
    · have := hu (i + 1 + j) hj' (by omega) hg
      simp only [Bool.not_false, Bool.true_and]
      simp
      exact Classical.not_and_iff_not_or_not.1 this
    · simp
  rw [hA, hB]
  simp [hx, hn.1, hn.2]
theorem liv_oth {es : List En} {h k : Int} (hn : ∀ e ∈ es, e.g = false → ¬ (e.h = h ∧ e.k = k)) : liv es = oth es h k := by
  unfold liv oth
  apply List.filter_congr
  intro y hy
  cases hg : y.g
  · have := hn y hy hg
    simp only [Bool.not_false, Bool.true_and]
    simp
    exact Classical.not_and_iff_not_or_not.1 this
  · simp
theorem oth_liv (es : List En) (h k : Int) : oth (liv es) h k = oth es h k := by
  unfold oth liv
  rw [List.filter_filter]
  apply List.filter_congr
  intro y _
  cases y.g <;> simp
/-- Put and cut: the other entries are as they were. -/
theorem put_cut_oth {d : Dt} (hok : OkD d) (ho : ∀ e ∈ d.e, shE.ok e) (h k v : Int) (hx : shE.ok ⟨h, k, v, false⟩) (hp : (putD d h k v).2 = true) :
    (cutD (putD d h k v).1 h k).2 = true ∧ liv (cutD (putD d h k v).1 h k).1.e = oth d.e h k := by
  obtain ⟨i, hi, hf, he⟩ := put_found hok ho h k v hx hp
  have hc : cutD (putD d h k v).1 h k = (⟨(putD d h k v).1.s, (putD d h k v).1.e.set i ⟨h, 0, 0, true⟩, (putD d h k v).1.l - 1⟩, true) := by
    unfold cutD; rw [hf, if_neg (by omega)]; simp
  rw [hc]
  refine ⟨rfl, ?_⟩
  have hok' := hok.put ho h k v hx.1.1 hx.1.2
  have ho' := putD_ok ho h k v hx
  have hu : ∀ j (hj : j < (putD d h k v).1.e.length), j ≠ i → (putD d h k v).1.e[j].g = false → ¬ ((putD d h k v).1.e[j].h = h ∧ (putD d h k v).1.e[j].k = k) := fun j hj hne hg ⟨a, b⟩ => by
    have := fnd_at hok' ho' j hj hg
    rw [a, b, hf] at this
    omega
  show liv ((putD d h k v).1.e.set i ⟨h, 0, 0, true⟩) = _
  rw [liv_set_gone _ i hi h k ⟨h, 0, 0, true⟩ rfl (by rw [he]; exact ⟨rfl, rfl⟩) hu]
  have hv := fnd_val hok h k hx.1.1 hx.1.2
  by_cases h0 : 0 ≤ (fnd d h k).1
  · rcases hv with hv | ⟨_, hlt, hg, hhh, hkk⟩
    · omega
    · have e : (putD d h k v).1.e = d.e.set (fnd d h k).1.toNat ⟨h, k, v, false⟩ := by simp [putD, h0]
      rw [e]
      generalize (fnd d h k).1.toNat = p at *
      unfold oth
      rw [set_split d.e p _ hlt]
      conv => rhs; rw [get_split d.e p hlt]
      rw [List.filter_append, List.filter_append, List.filter_cons, List.filter_cons]
      simp [hhh, hkk]
  · by_cases hr : d.e.length < d.s.length * 2 / 3
    · have e : (putD d h k v).1.e = d.e ++ [⟨h, k, v, false⟩] := by simp [putD, h0, hr, addD]
      rw [e]
      simp [oth, List.filter_append]
    · by_cases hn : (rnD d).2 = true
      · have e : (putD d h k v).1.e = (rnD d).1.e ++ [⟨h, k, v, false⟩] := by simp [putD, h0, hr, hn, addD]
        have e2 : (rnD d).1.e = liv d.e := by
          unfold rnD at hn ⊢
          split at hn
          · cases hn
          · rename_i h16; rw [if_neg h16]
        rw [e, e2, ← oth_liv d.e h k]
        simp [oth, List.filter_append]
      · simp [putD, h0, hr, hn] at hp
end Go.Proofs.Ytnpjlmnhailipaa
