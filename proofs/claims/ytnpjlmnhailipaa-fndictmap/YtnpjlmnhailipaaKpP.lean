import Derived.Test.YtnpjlmnhailipaaRunP
namespace Go.Proofs.Ytnpjlmnhailipaa
open Go.RowKit Go.Maps
set_option linter.unusedVariables false
set_option linter.unusedSimpArgs false

/-- In a dict that is well formed each live entry is found at its place. -/
theorem fnd_at {d : Dt} (hok : OkD d) (ho : ∀ e ∈ d.e, shE.ok e) (i : Nat) (hi : i < d.e.length) (hg : d.e[i].g = false) : (fnd d d.e[i].h d.e[i].k).1 = i := by
  obtain ⟨m, hm3, hm, ht, hl, hs, hroom⟩ := hok.tab
  have hF := (found_iff (m := m) (es := d.e) ho hl d.l).2 hok.2.2.2.2.2 i hi hg
  rw [← ht] at hF
  exact hF
/-- What was put is there. -/
theorem put_has {d : Dt} (hok : OkD d) (h k v : Int) (hh0 : 0 ≤ h) (hh1 : h < 18446744073709551616) (hp : (putD d h k v).2 = true) : ∃ (i : Nat) (hi : i < (putD d h k v).1.e.length), (putD d h k v).1.e[i] = ⟨h, k, v, false⟩ := by
  have hv := fnd_val hok h k hh0 hh1
  by_cases h0 : 0 ≤ (fnd d h k).1
  · rcases hv with hv | ⟨_, hlt, _⟩
    · omega
    · have e : (putD d h k v).1.e = d.e.set (fnd d h k).1.toNat ⟨h, k, v, false⟩ := by simp [putD, h0]
      exact ⟨(fnd d h k).1.toNat, by rw [e]; simpa using hlt, by simp only [e, List.getElem_set_self]⟩
  · by_cases hr : d.e.length < d.s.length * 2 / 3
    · have e : (putD d h k v).1.e = d.e ++ [⟨h, k, v, false⟩] := by simp [putD, h0, hr, addD]
      exact ⟨d.e.length, by rw [e]; simp, by simp only [e]; simp⟩
    · by_cases hn : (rnD d).2 = true
      · have e : (putD d h k v).1.e = (rnD d).1.e ++ [⟨h, k, v, false⟩] := by simp [putD, h0, hr, hn, addD]
        exact ⟨(rnD d).1.e.length, by rw [e]; simp, by simp only [e]; simp⟩
      · simp [putD, h0, hr, hn] at hp
/-- What was put is found, with its value. -/
theorem put_found {d : Dt} (hok : OkD d) (ho : ∀ e ∈ d.e, shE.ok e) (h k v : Int) (hx : shE.ok ⟨h, k, v, false⟩) (hp : (putD d h k v).2 = true) :
    ∃ (i : Nat) (hi : i < (putD d h k v).1.e.length), (fnd (putD d h k v).1 h k).1 = i ∧ (putD d h k v).1.e[i] = ⟨h, k, v, false⟩ := by
  obtain ⟨i, hi, he⟩ := put_has hok h k v hx.1.1 hx.1.2 hp
  have hok' := hok.put ho h k v hx.1.1 hx.1.2
  have hf := fnd_at hok' (putD_ok ho h k v hx) i hi (by rw [he])
  rw [he] at hf
  exact ⟨i, hi, hf, he⟩
/-- Behind a cut the name is not found. -/
theorem cut_gone {d : Dt} (hok : OkD d) (ho : ∀ e ∈ d.e, shE.ok e) (h k : Int) (hh0 : 0 ≤ h) (hh1 : h < 18446744073709551616) (hc : (cutD d h k).2 = true) : (fnd (cutD d h k).1 h k).1 = -1 := by
  have hok' := hok.cut h k hh0 hh1
  rcases fnd_val hok' h k hh0 hh1 with h1 | ⟨_, hlt, hg, hhh, hkk⟩
  · exact h1
  · exfalso
    have h0 : ¬ (fnd d h k).1 < 0 := fun h0 => by simp [cutD, h0] at hc
    rcases fnd_val hok h k hh0 hh1 with hv | ⟨_, hl2, hg2, hh2, hk2⟩
    · omega
    have e : (cutD d h k).1.e = d.e.set (fnd d h k).1.toNat ⟨h, 0, 0, true⟩ := by simp [cutD, h0]
    generalize (fnd (cutD d h k).1 h k).1.toNat = j at *
    simp only [e, List.length_set] at hlt
    simp only [e, List.getElem_set] at hg hhh hkk
    split at hg
    · cases hg
    · rename_i hne
      rw [if_neg hne] at hhh hkk
      have f1 := fnd_at hok ho j hlt hg
      rw [hhh, hkk] at f1
      exact hne (by omega)
end Go.Proofs.Ytnpjlmnhailipaa
