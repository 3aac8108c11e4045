import Derived.Test.YtnpjlmnhailipaaHelD
namespace Go.Proofs.Ytnpjlmnhailipaa
open Go.RowKit
set_option linter.unusedVariables false
set_option linter.unusedSimpArgs false

/-! ### the row of slots of a hash -/
def nx (n : Nat) (p : Nat × Nat) : Nat × Nat := ((5 * p.1 + 1 + p.2 / 32) % n, p.2 / 32)
def it (n : Nat) (p : Nat × Nat) : Nat → Nat × Nat
  | 0 => p
  | j + 1 => nx n (it n p j)
def r0 (n h : Nat) : Nat × Nat := (h % n, h)

theorem it_add (n : Nat) (p : Nat × Nat) (i : Nat) : ∀ j, it n (it n p i) j = it n p (i + j)
  | 0 => rfl
  | j + 1 => by show nx n (it n (it n p i) j) = nx n (it n p (i + j)); rw [it_add n p i j]
theorem it_rest (n : Nat) (p : Nat × Nat) : ∀ j, (it n p j).2 = p.2 / 32 ^ j
  | 0 => by simp [it]
  | j + 1 => by show (it n p j).2 / 32 = _; rw [it_rest n p j, Nat.div_div_eq_div_mul, Nat.pow_succ]
theorem it_lt {n : Nat} (hn : 0 < n) {p : Nat × Nat} (hp : p.1 < n) : ∀ j, (it n p j).1 < n
  | 0 => hp
  | j + 1 => Nat.mod_lt _ hn

/-- 1 + 5 + .. : j of them. -/
def T5 : Nat → Nat
  | 0 => 0
  | j + 1 => 5 * T5 j + 1
theorem T5_pow : ∀ j, 5 ^ j = 4 * T5 j + 1
  | 0 => rfl
  | j + 1 => by rw [Nat.pow_succ, T5_pow j]; show _ = 4 * (5 * T5 j + 1) + 1; omega
theorem T5_add (i : Nat) : ∀ j, T5 (i + j) = T5 i + T5 j + 4 * (T5 i * T5 j)
  | 0 => by simp [T5]
  | j + 1 => by
    show 5 * T5 (i + j) + 1 = T5 i + (5 * T5 j + 1) + 4 * (T5 i * (5 * T5 j + 1))
    rw [T5_add i j]; generalize T5 i = a; generalize T5 j = b; grind
/-- T5 (2 ^ k) is 2 ^ k times an odd number. -/
theorem T5_two : ∀ k, ∃ q, T5 (2 ^ k) = 2 ^ k * (2 * q + 1)
  | 0 => ⟨0, by decide⟩
  | k + 1 => by
    obtain ⟨q, hq⟩ := T5_two k
    refine ⟨q + 2 ^ k * (2 * q + 1) * (2 * q + 1), ?_⟩
    rw [Nat.pow_succ, Nat.mul_two, T5_add, hq]
    generalize 2 ^ k = u
    grind
/-- The plain row: 5 x + 1, j times. -/
def F5 (x : Nat) (j : Nat) : Nat := x + T5 j * (4 * x + 1)
theorem F5_zero (x : Nat) : F5 x 0 = x := by simp [F5, T5]
theorem F5_succ (x j : Nat) : F5 x (j + 1) = 5 * F5 x j + 1 := by
  simp only [F5, T5, Nat.add_mul, Nat.mul_add, Nat.mul_assoc]; omega
theorem F5_add (x i j : Nat) : F5 x (i + j) = F5 (F5 x i) j := by
  induction j with
  | zero => simp [F5_zero]
  | succ j ih => rw [← Nat.add_assoc, F5_succ, ih, F5_succ]

theorem F5_hit : ∀ (k x t : Nat), ∃ j, j < 2 ^ k ∧ F5 x j % 2 ^ k = t % 2 ^ k
  | 0, x, t => ⟨0, by decide, by simp [Nat.mod_one]⟩
  | k + 1, x, t => by
    obtain ⟨j, hj, he⟩ := F5_hit k x t
    have hu : 0 < 2 ^ k := Nat.two_pow_pos k
    rw [Nat.pow_succ]
    by_cases hc : F5 x j % (2 ^ k * 2) = t % (2 ^ k * 2)
    · exact ⟨j, by omega, hc⟩
    · refine ⟨j + 2 ^ k, by omega, ?_⟩
      rw [F5_add]
      obtain ⟨q, hq⟩ := T5_two k
      generalize F5 x j = y at *
      have e : F5 y (2 ^ k) = y + 2 ^ k * (2 * (q * (4 * y + 1) + 2 * y) + 1) := by
        rw [F5, hq]; generalize 2 ^ k = u; grind
      rw [e]
      generalize q * (4 * y + 1) + 2 * y = c
      rw [Nat.mod_mul, Nat.mod_mul] at hc
      rw [Nat.mod_mul, Nat.mod_mul, Nat.add_mul_mod_self_left, Nat.add_mul_div_left _ _ hu, he]
      have h2 : y / 2 ^ k % 2 ≠ t / 2 ^ k % 2 := fun h => hc (by rw [he, h])
      have h3 : (y / 2 ^ k + (2 * c + 1)) % 2 = t / 2 ^ k % 2 := by omega
      rw [h3]

theorem it_plain (n : Nat) (p : Nat × Nat) (h0 : p.2 = 0) (hp : p.1 < n) : ∀ j, (it n p j).1 = F5 p.1 j % n
  | 0 => by simp [it, F5_zero, Nat.mod_eq_of_lt hp]
  | j + 1 => by
    have h2 : (it n p j).2 = 0 := by rw [it_rest, h0]; simp
    show (5 * (it n p j).1 + 1 + (it n p j).2 / 32) % n = _
    rw [h2, it_plain n p h0 hp j, F5_succ]
    simp [Nat.add_mod, Nat.mul_mod]

/-- Every slot is come to. -/
theorem it_hit {m : Nat} {p : Nat × Nat} (hp : p.1 < 2 ^ m) (hr : p.2 < 2 ^ 64) (t : Nat) (ht : t < 2 ^ m) : ∃ j, j < 13 + 2 ^ m ∧ (it (2 ^ m) p j).1 = t := by
  have h2 : (it (2 ^ m) p 13).2 = 0 := by rw [it_rest]; exact Nat.div_eq_of_lt (by omega)
  obtain ⟨j, hj, he⟩ := F5_hit m (it (2 ^ m) p 13).1 t
  refine ⟨13 + j, by omega, ?_⟩
  rw [← it_add, it_plain _ _ h2 (it_lt (Nat.two_pow_pos m) hp 13), he, Nat.mod_eq_of_lt ht]

/-! ### the first free slot -/
def FF (n : Nat) (L : List Int) (p : Nat × Nat) (j : Nat) : Prop := L.getD (it n p j).1 0 = -1 ∧ ∀ i, i < j → L.getD (it n p i).1 0 ≠ -1
theorem least {P : Nat → Prop} : ∀ j, P j → ∃ k, k ≤ j ∧ P k ∧ ∀ i, i < k → ¬ P i := by
  intro j
  induction j using Nat.strongRecOn with
  | _ j ih =>
    intro h
    by_cases h1 : ∃ i, i < j ∧ P i
    · obtain ⟨i, hi, hp⟩ := h1
      obtain ⟨k, hk, r⟩ := ih i hi hp
      exact ⟨k, by omega, r⟩
    · exact ⟨j, Nat.le_refl _, h, fun i hi hp => h1 ⟨i, hi, hp⟩⟩
theorem FF.uniq {n : Nat} {L : List Int} {p : Nat × Nat} {i j : Nat} (h : FF n L p i) (h' : FF n L p j) : i = j := by
  rcases Nat.lt_trichotomy i j with hl | hl | hl
  · exact absurd h.1 (h'.2 i hl)
  · exact hl
  · exact absurd h'.1 (h.2 j hl)
theorem FF.ex {m : Nat} {L : List Int} {p : Nat × Nat} (hp : p.1 < 2 ^ m) (hr : p.2 < 2 ^ 64) {t : Nat} (ht : t < 2 ^ m) (hf : L.getD t 0 = -1) : ∃ j, j < 13 + 2 ^ m ∧ FF (2 ^ m) L p j := by
  obtain ⟨j, hj, he⟩ := it_hit hp hr t ht
  obtain ⟨k, hk, h1, h2⟩ := least (P := fun j => L.getD (it (2 ^ m) p j).1 0 = -1) j (by rw [he]; exact hf)
  exact ⟨k, by omega, h1, h2⟩
theorem FF.from {n : Nat} {L : List Int} {p : Nat × Nat} {i j : Nat} (h : FF n L (it n p i) j) (ho : ∀ k, k < i → L.getD (it n p k).1 0 ≠ -1) : FF n L p (i + j) := by
  refine ⟨by rw [← it_add]; exact h.1, fun k hk => ?_⟩
  rcases Nat.lt_or_ge k i with hl | hl
  · exact ho k hl
  · have := h.2 (k - i) (by omega)
    rw [it_add] at this
    rwa [show i + (k - i) = k by omega] at this

open Classical in
noncomputable def ffj (n : Nat) (L : List Int) (p : Nat × Nat) : Nat := if h : ∃ j, FF n L p j then Classical.choose h else 0
theorem ffj_eq {n : Nat} {L : List Int} {p : Nat × Nat} {j : Nat} (h : FF n L p j) : ffj n L p = j := by
  have hex : ∃ j, FF n L p j := ⟨j, h⟩
  unfold ffj
  rw [dif_pos hex]
  exact (Classical.choose_spec hex).uniq h

noncomputable def slotOf (n : Nat) (L : List Int) (h : Nat) : Nat := (it n (r0 n h) (ffj n L (r0 n h))).1
/-- The table of the first k hashes. -/
noncomputable def tabK (n : Nat) (hs : List Nat) : Nat → List Int
  | 0 => List.replicate n (-1)
  | k + 1 => (tabK n hs k).set (slotOf n (tabK n hs k) (hs.getD k 0)) k

theorem tabK_length (n : Nat) (hs : List Nat) : ∀ k, (tabK n hs k).length = n
  | 0 => by simp [tabK]
  | k + 1 => by simp [tabK, tabK_length n hs k]
theorem getD_set (L : List Int) (i j : Nat) (z : Int) (hi : i < L.length) : (L.set i z).getD j 0 = if i = j then z else L.getD j 0 := by
  simp only [List.getD, List.getElem?_set]
  split
  · rename_i h; subst h; simp [hi]
  · rfl
theorem tabK_val (n : Nat) (hs : List Nat) (hn : 0 < n) : ∀ k s, s < n → (tabK n hs k).getD s 0 = -1 ∨ (0 ≤ (tabK n hs k).getD s 0 ∧ (tabK n hs k).getD s 0 < k)
  | 0, s, h => by left; simp [tabK, List.getD, List.getElem?_replicate, h]
  | k + 1, s, h => by
    have hl : slotOf n (tabK n hs k) (hs.getD k 0) < (tabK n hs k).length := by rw [tabK_length]; exact it_lt hn (Nat.mod_lt _ hn) _
    simp only [tabK]
    rw [getD_set _ _ _ _ hl]
    split
    · right; omega
    · rcases tabK_val n hs hn k s h with h | h
      · exact .inl h
      · right; omega
def busy (L : List Int) : Nat := L.countP (· != -1)
theorem busy_set : ∀ (L : List Int) (i : Nat) (z : Int), busy (L.set i z) ≤ busy L + 1
  | [], i, z => by simp [busy]
  | x :: r, 0, z => by simp only [busy, List.set_cons_zero, List.countP_cons]; split <;> split <;> omega
  | x :: r, i + 1, z => by
    have := busy_set r i z
    simp only [busy, List.set_cons_succ, List.countP_cons] at this ⊢
    omega
theorem tabK_busy (n : Nat) (hs : List Nat) : ∀ k, busy (tabK n hs k) ≤ k
  | 0 => by simp [busy, tabK, List.countP_replicate]
  | k + 1 => by
    have h1 := tabK_busy n hs k
    have h2 := busy_set (tabK n hs k) (slotOf n (tabK n hs k) (hs.getD k 0)) k
    simp only [tabK]; omega
theorem free_of_busy (L : List Int) (h : busy L < L.length) : ∃ t, t < L.length ∧ L.getD t 0 = -1 := by
  rcases Classical.em (∃ t, t < L.length ∧ L.getD t 0 = -1) with h1 | h1
  · exact h1
  · exfalso
    have : busy L = L.length := by
      rw [busy, List.countP_eq_length]
      intro x hx
      obtain ⟨t, ht, rfl⟩ := List.getElem_of_mem hx
      have : L.getD t 0 ≠ -1 := fun e => h1 ⟨t, ht, e⟩
      simpa [List.getD, ht] using this
    omega

section
variable {m : Nat} {hs : List Nat}
theorem tab_ff {k : Nat} (hk : k < 2 ^ m) {p : Nat × Nat} (hp : p.1 < 2 ^ m) (hr : p.2 < 2 ^ 64) : ∃ j, j < 13 + 2 ^ m ∧ FF (2 ^ m) (tabK (2 ^ m) hs k) p j := by
  obtain ⟨t, ht, hf⟩ := free_of_busy (tabK (2 ^ m) hs k) (by have := tabK_busy (2 ^ m) hs k; rw [tabK_length]; omega)
  rw [tabK_length] at ht
  exact FF.ex hp hr ht hf

/-- Where each hash stands: all that its row comes by ahead of it are earlier ones. -/
theorem tab_at (hh : ∀ h ∈ hs, h < 2 ^ 64) : ∀ k, k ≤ hs.length → k < 2 ^ m → ∀ i, i < k →
    ∃ j, j < 13 + 2 ^ m ∧ (tabK (2 ^ m) hs k).getD (it (2 ^ m) (r0 (2 ^ m) (hs.getD i 0)) j).1 0 = i ∧ ∀ j', j' < j → 0 ≤ (tabK (2 ^ m) hs k).getD (it (2 ^ m) (r0 (2 ^ m) (hs.getD i 0)) j').1 0 ∧ (tabK (2 ^ m) hs k).getD (it (2 ^ m) (r0 (2 ^ m) (hs.getD i 0)) j').1 0 < i := by
  intro k
  induction k with
  | zero => intro _ _ i hi; omega
  | succ k ih =>
    intro hk hkm i hi
    have hn : 0 < 2 ^ m := Nat.two_pow_pos m
    have hgk : hs.getD k 0 < 2 ^ 64 := by
      have : hs.getD k 0 = hs[k] := by simp [List.getD, show k < hs.length by omega]
      rw [this]; exact hh _ (List.getElem_mem _)
    obtain ⟨jk, hjk, hF⟩ := tab_ff (hs := hs) (k := k) (by omega) (p := r0 (2 ^ m) (hs.getD k 0)) (Nat.mod_lt _ hn) hgk
    have hsl : slotOf (2 ^ m) (tabK (2 ^ m) hs k) (hs.getD k 0) = (it (2 ^ m) (r0 (2 ^ m) (hs.getD k 0)) jk).1 := by unfold slotOf; rw [ffj_eq hF]
    have hlt : slotOf (2 ^ m) (tabK (2 ^ m) hs k) (hs.getD k 0) < (tabK (2 ^ m) hs k).length := by rw [tabK_length, hsl]; exact it_lt hn (Nat.mod_lt _ hn) _
    simp only [tabK]
    rcases Nat.lt_or_ge i k with hl | hl
    · obtain ⟨j, hj, h1, h2⟩ := ih (by omega) (by omega) i hl
      refine ⟨j, hj, ?_, fun j' hj' => ?_⟩
      · rw [getD_set _ _ _ _ hlt, if_neg (fun e => by rw [← e, hsl, hF.1] at h1; omega)]; exact h1
      · rw [getD_set _ _ _ _ hlt, if_neg (fun e => by have := (h2 j' hj').1; rw [← e, hsl, hF.1] at this; omega)]; exact h2 j' hj'
    · obtain rfl : i = k := by omega
      refine ⟨jk, hjk, ?_, fun j' hj' => ?_⟩
      · rw [getD_set _ _ _ _ hlt, if_pos hsl]
      · have hb := hF.2 j' hj'
        rw [getD_set _ _ _ _ hlt, if_neg (fun e => hb (by rw [← e, hsl, hF.1]))]
        rcases tabK_val (2 ^ m) hs hn i _ (it_lt (p := r0 (2 ^ m) (hs.getD i 0)) hn (Nat.mod_lt _ hn) j') with h | h
        · exact absurd h hb
        · exact h
end
end Go.Proofs.Ytnpjlmnhailipaa
