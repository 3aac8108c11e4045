import Derived.Test.YtnpjlmnhailipaaDP
namespace Go.Proofs.Ytnpjlmnhailipaa
open Go.RowKit
set_option linter.unusedVariables false
set_option linter.unusedSimpArgs false

/-- Whether the place z is that of a live entry with this hash and key. -/
def hit (es : List En) (h k : Int) (z : Int) : Bool := match es[z.toNat]? with
  | some e => !e.g && (e.h == h && e.k == k)
  | none => false
def FD (n : Nat) (L : List Int) (es : List En) (h k : Int) (p : Nat × Nat) (j : Nat) : Prop :=
  (L.getD (it n p j).1 0 = -1 ∨ hit es h k (L.getD (it n p j).1 0) = true) ∧ ∀ i, i < j → ¬ (L.getD (it n p i).1 0 = -1 ∨ hit es h k (L.getD (it n p i).1 0) = true)
theorem FD.uniq {n : Nat} {L : List Int} {es : List En} {h k : Int} {p : Nat × Nat} {i j : Nat} (a : FD n L es h k p i) (b : FD n L es h k p j) : i = j := by
  rcases Nat.lt_trichotomy i j with hl | hl | hl
  · exact absurd a.1 (b.2 i hl)
  · exact hl
  · exact absurd b.1 (a.2 j hl)
theorem FD.of_ff {n : Nat} {L : List Int} {es : List En} {h k : Int} {p : Nat × Nat} {j : Nat} (f : FF n L p j) : ∃ i, i ≤ j ∧ FD n L es h k p i := by
  obtain ⟨i, hi, h1, h2⟩ := least (P := fun j => L.getD (it n p j).1 0 = -1 ∨ hit es h k (L.getD (it n p j).1 0) = true) j (.inl f.1)
  exact ⟨i, hi, h1, h2⟩
open Classical in
noncomputable def fdj (n : Nat) (L : List Int) (es : List En) (h k : Int) (p : Nat × Nat) : Nat := if hx : ∃ j, FD n L es h k p j then Classical.choose hx else 0
theorem fdj_eq {n : Nat} {L : List Int} {es : List En} {h k : Int} {p : Nat × Nat} {j : Nat} (f : FD n L es h k p j) : fdj n L es h k p = j := by
  have hex : ∃ j, FD n L es h k p j := ⟨j, f⟩
  unfold fdj
  rw [dif_pos hex]
  exact (Classical.choose_spec hex).uniq f
/-- What a search answers: the place and how many slots were looked at. -/
noncomputable def fnd (d : Dt) (h k : Int) : Int × Int :=
  (d.s.getD (it d.s.length (r0 d.s.length h.toNat) (fdj d.s.length d.s d.e h k (r0 d.s.length h.toNat))).1 0, fdj d.s.length d.s d.e h k (r0 d.s.length h.toNat) + 1)

def hsOf (es : List En) : List Nat := es.map fun e => e.h.toNat
def lv (es : List En) : List (Int × Int) := (es.filter fun e => !e.g).map fun e => (e.h, e.k)
noncomputable def tabOf (n : Nat) (es : List En) : List Int := tabK n (hsOf es) es.length
theorem hsOf_getD (es : List En) (i : Nat) (hi : i < es.length) : (hsOf es).getD i 0 = es[i].h.toNat := by simp [hsOf, List.getD, hi]
theorem hsOf_lt {es : List En} (ho : ∀ e ∈ es, shE.ok e) : ∀ h ∈ hsOf es, h < 2 ^ 64 := by
  intro h hh
  simp only [hsOf, List.mem_map] at hh
  obtain ⟨e, he, rfl⟩ := hh
  have := (ho e he).1
  omega
theorem lv_nodup (es : List En) : (lv es).Nodup ↔ ∀ i j (hi : i < es.length) (hj : j < es.length), i < j → es[i].g = false → es[j].g = false → ¬ (es[i].h = es[j].h ∧ es[i].k = es[j].k) := by
  unfold lv List.Nodup
  rw [List.pairwise_map, List.pairwise_filter, List.pairwise_iff_getElem]
  simp

/-- In a table no two live entries are alike just where each one is found. -/
theorem found_iff {m : Nat} {es : List En} (ho : ∀ e ∈ es, shE.ok e) (hl : es.length < 2 ^ m) (l : Int) :
    (∀ i (hi : i < es.length), es[i].g = false → (fnd ⟨tabOf (2 ^ m) es, es, l⟩ es[i].h es[i].k).1 = i) ↔ (lv es).Nodup := by
  have hA := tab_at (m := m) (hsOf_lt ho) es.length (by simp [hsOf]) hl
  have hlen : (tabOf (2 ^ m) es).length = 2 ^ m := tabK_length _ _ _
  have hat : ∀ i (hi : i < es.length), hit es es[i].h es[i].k i = !es[i].g := by
    intro i hi; simp [hit, hi]
  rw [lv_nodup]
  constructor
  · intro H i j hi hj hij gi gj ⟨e1, e2⟩
    obtain ⟨a, ha, a1, a2⟩ := hA i hi
    obtain ⟨b, hb, b1, b2⟩ := hA j hj
    rw [hsOf_getD es i hi] at a1 a2
    rw [hsOf_getD es j hj] at b1 b2
    rw [← e1] at b1 b2
    have hab : a < b := by
      rcases Nat.lt_trichotomy a b with h | h | h
      · exact h
      · subst h; rw [a1] at b1; omega
      · have := a2 b h; rw [b1] at this; omega
    obtain ⟨c, hc, c1, c2⟩ := least (P := fun q => (tabOf (2 ^ m) es).getD (it (2 ^ m) (r0 (2 ^ m) es[i].h.toNat) q).1 0 = -1 ∨ hit es es[i].h es[i].k ((tabOf (2 ^ m) es).getD (it (2 ^ m) (r0 (2 ^ m) es[i].h.toNat) q).1 0) = true) a (.inr (by
      rw [show (tabOf (2 ^ m) es).getD (it (2 ^ m) (r0 (2 ^ m) es[i].h.toNat) a).1 0 = i from a1, hat i hi, gi]; rfl))
    have hF : FD (2 ^ m) (tabOf (2 ^ m) es) es es[i].h es[i].k (r0 (2 ^ m) es[i].h.toNat) c := ⟨c1, c2⟩
    have hj2 := H j hj gj
    simp only [fnd, hlen, ← e1, ← e2, fdj_eq hF] at hj2
    have := b2 c (by omega)
    rw [show (tabK (2 ^ m) (hsOf es) es.length) = tabOf (2 ^ m) es from rfl, hj2] at this
    omega
  · intro H i hi gi
    obtain ⟨a, ha, a1, a2⟩ := hA i hi
    rw [hsOf_getD es i hi] at a1 a2
    have hF : FD (2 ^ m) (tabOf (2 ^ m) es) es es[i].h es[i].k (r0 (2 ^ m) es[i].h.toNat) a := by
      refine ⟨.inr (by rw [show (tabOf (2 ^ m) es).getD (it (2 ^ m) (r0 (2 ^ m) es[i].h.toNat) a).1 0 = i from a1, hat i hi, gi]; rfl), fun q hq hx => ?_⟩
      have hv := a2 q hq
      rw [show (tabK (2 ^ m) (hsOf es) es.length) = tabOf (2 ^ m) es from rfl] at hv
      generalize (tabOf (2 ^ m) es).getD (it (2 ^ m) (r0 (2 ^ m) es[i].h.toNat) q).1 0 = z at hv hx
      rcases hx with rfl | hx
      · omega
      · have hz : z.toNat < es.length := by omega
        simp [hit, hz] at hx
        exact H z.toNat i hz hi (by omega) hx.1 gi ⟨hx.2.1, hx.2.2⟩
    simp only [fnd, hlen, fdj_eq hF]
    exact a1

/-- A search in a table comes to its end. -/
theorem tab_fd {m : Nat} {es : List En} (hl : es.length < 2 ^ m) (h k : Int) (hh : h.toNat < 2 ^ 64) : ∃ j, j < 13 + 2 ^ m ∧ FD (2 ^ m) (tabOf (2 ^ m) es) es h k (r0 (2 ^ m) h.toNat) j := by
  obtain ⟨j, hj, hf⟩ := tab_ff (m := m) (hs := hsOf es) (k := es.length) hl (p := r0 (2 ^ m) h.toNat) (Nat.mod_lt _ (Nat.two_pow_pos m)) hh
  obtain ⟨i, hi, h2⟩ := FD.of_ff (es := es) (h := h) (k := k) hf
  exact ⟨i, by omega, h2⟩
theorem tabOf_val {m : Nat} {es : List En} (s : Nat) (hs : s < 2 ^ m) : (tabOf (2 ^ m) es).getD s 0 = -1 ∨ (0 ≤ (tabOf (2 ^ m) es).getD s 0 ∧ (tabOf (2 ^ m) es).getD s 0 < es.length) := tabK_val _ _ (Nat.two_pow_pos m) _ s hs

/-- The sizes that a table may have. -/
def Sz (n : Nat) : Prop := ∃ m, 3 ≤ m ∧ m ≤ 16 ∧ n = 2 ^ m
def livN (es : List En) : Nat := es.countP fun e => !e.g
/-- A dict that is well formed. -/
def OkD (d : Dt) : Prop := Sz d.s.length ∧ d.e.length ≤ d.s.length * 2 / 3 ∧ (∀ e ∈ d.e, e.g = true → e.k = 0 ∧ e.v = 0) ∧ d.l = livN d.e ∧ d.s = tabOf d.s.length d.e ∧ (lv d.e).Nodup
open Classical in
noncomputable def okD (d : Dt) : Bool := decide (OkD d)
theorem okD_true {d : Dt} (h : OkD d) : okD d = true := by simp [okD, h]
theorem okD_false {d : Dt} (h : ¬ OkD d) : okD d = false := by simp [okD, h]
end Go.Proofs.Ytnpjlmnhailipaa
