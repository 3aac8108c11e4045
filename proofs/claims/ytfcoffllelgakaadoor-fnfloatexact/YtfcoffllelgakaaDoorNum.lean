import Derived.Test.YtfcoffllelgakaaDoorBase
namespace Go.Proofs.YtfcoffllelgakaaDoor
set_option linter.unusedVariables false
set_option linter.unusedSimpArgs false

/-- The number that limbs stand for, the lowest first. -/
def val : List Int → Nat
  | [] => 0
  | z :: r => z.toNat + 4294967296 * val r

/-- The limbs of a number, none of them a zero on top. -/
def lim (n : Nat) : List Int := if h : n = 0 then [] else ((n % 4294967296 : Nat) : Int) :: lim (n / 4294967296)

theorem lim_zero : lim 0 = [] := by unfold lim; simp
theorem lim_pos {n : Nat} (h : ¬ n = 0) : lim n = ((n % 4294967296 : Nat) : Int) :: lim (n / 4294967296) := by rw [lim]; simp [h]

theorem val_lim (n : Nat) : val (lim n) = n := by
  induction n using Nat.strongRecOn with
  | _ n ih =>
    by_cases h : n = 0
    · subst h; rw [lim_zero]; rfl
    · rw [lim_pos h]
      simp only [val]
      rw [ih (n / 4294967296) (by omega)]
      omega

theorem lim_limbs (n : Nat) : Limbs (lim n) := by
  induction n using Nat.strongRecOn with
  | _ n ih =>
    by_cases h : n = 0
    · subst h; rw [lim_zero]; exact Limbs.nil
    · rw [lim_pos h]
      intro z hz
      rcases List.mem_cons.mp hz with rfl | hz
      · omega
      · exact ih _ (by omega) z hz

theorem lim_eq_nil {n : Nat} : lim n = [] ↔ n = 0 := by
  constructor
  · intro h; by_cases e : n = 0
    · exact e
    · rw [lim_pos e] at h; cases h
  · rintro rfl; exact lim_zero

/-- No zero on top. -/
def Norm (zs : List Int) : Prop := zs.length = 0 ∨ zs.getD (zs.length - 1) 0 ≠ 0

theorem Norm.tail {z : Int} {r : List Int} (h : Norm (z :: r)) : Norm r := by
  rcases h with h | h
  · simp at h
  · cases r with
    | nil => exact .inl rfl
    | cons y s => right; simpa [List.getD] using h

theorem lim_val {zs : List Int} (hz : Limbs zs) (hn : Norm zs) : lim (val zs) = zs := by
  induction zs with
  | nil => simp [val, lim_zero]
  | cons z r ih =>
    have hz' : Limbs r := fun y hy => hz y (List.mem_cons_of_mem _ hy)
    have h1 := hz z (List.mem_cons_self)
    have e := ih hz' hn.tail
    have hne : ¬ val (z :: r) = 0 := by
      intro h0
      simp only [val] at h0
      have hr : val r = 0 := by omega
      rw [hr, lim_zero] at e
      subst e
      rcases hn with h | h
      · simp at h
      · simp [List.getD] at h; omega
    rw [lim_pos hne]
    simp only [val]
    have e1 : (z.toNat + 4294967296 * val r) % 4294967296 = z.toNat := by omega
    have e2 : (z.toNat + 4294967296 * val r) / 4294967296 = val r := by omega
    rw [e1, e2, e]
    congr 1
    omega

theorem lim_norm (n : Nat) : Norm (lim n) := by
  induction n using Nat.strongRecOn with
  | _ n ih =>
    by_cases h : n = 0
    · subst h; rw [lim_zero]; exact .inl rfl
    · rw [lim_pos h]
      right
      by_cases h2 : n / 4294967296 = 0
      · rw [h2, lim_zero]; simp [List.getD]; omega
      · have i := ih (n / 4294967296) (by omega)
        rcases i with i | i
        · have := lim_eq_nil.mp (List.length_eq_zero_iff.mp i); omega
        · have hl : (lim (n / 4294967296)).length ≠ 0 := fun e => h2 (lim_eq_nil.mp (List.length_eq_zero_iff.mp e))
          obtain ⟨m, hm⟩ : ∃ m, (lim (n / 4294967296)).length = m + 1 := ⟨_, (Nat.succ_pred_eq_of_ne_zero hl).symm⟩
          rw [List.length_cons, hm]
          rw [hm] at i
          simpa [List.getD] using i

theorem val_zero_of {zs : List Int} (h : ∀ j, zs.getD j 0 = 0) : val zs = 0 := by
  induction zs with
  | nil => rfl
  | cons z r ih =>
    have h0 : z = 0 := by simpa [List.getD] using h 0
    have := ih (fun j => by simpa [List.getD] using h (j + 1))
    simp [val, this, h0]

theorem val_take {zs : List Int} (k : Nat) (h : ∀ j, k ≤ j → zs.getD j 0 = 0) : val (zs.take k) = val zs := by
  induction zs generalizing k with
  | nil => simp
  | cons z r ih =>
    cases k with
    | zero => simp [val]; have := val_zero_of (zs := z :: r) (fun j => h j (Nat.zero_le _)); simp [val] at this; omega
    | succ k =>
      simp only [List.take_succ_cons, val]
      rw [ih k (fun j hj => by simpa [List.getD] using h (j + 1) (by omega))]

theorem take_lim {zs : List Int} (hz : Limbs zs) (k : Nat) (hk : k ≤ zs.length) (h : ∀ j, k ≤ j → zs.getD j 0 = 0) (h1 : k = 0 ∨ zs.getD (k - 1) 0 ≠ 0) : zs.take k = lim (val zs) := by
  rw [← val_take k h, lim_val (hz.take k)]
  have hl : (zs.take k).length = k := by simp; omega
  rcases h1 with h1 | h1
  · left; omega
  · by_cases h0 : k = 0
    · left; omega
    · right
      rw [hl]
      have : (zs.take k).getD (k - 1) 0 = zs.getD (k - 1) 0 := by simp only [List.getD, List.getElem?_take]; rw [if_pos (by omega)]
      rw [this]; exact h1

theorem val_append (xs ys : List Int) : val (xs ++ ys) = val xs + 4294967296 ^ xs.length * val ys := by
  induction xs with
  | nil => simp [val]
  | cons x r ih =>
    simp only [List.cons_append, val, ih, List.length_cons, Nat.pow_succ]
    rw [Nat.mul_add, Nat.add_assoc, ← Nat.mul_assoc, Nat.mul_comm (4294967296 ^ r.length) 4294967296]

theorem val_lt {zs : List Int} (h : Limbs zs) : val zs < 4294967296 ^ zs.length := by
  induction zs with
  | nil => simp [val]
  | cons z r ih =>
    have h1 := h z (List.mem_cons_self)
    have i := ih (fun y hy => h y (List.mem_cons_of_mem _ hy))
    simp only [val, List.length_cons, Nat.pow_succ]
    have : z.toNat < 4294967296 := by omega
    calc z.toNat + 4294967296 * val r < 4294967296 + 4294967296 * val r := by omega
      _ = 4294967296 * (val r + 1) := by rw [Nat.mul_add, Nat.mul_one, Nat.add_comm]
      _ ≤ 4294967296 * 4294967296 ^ r.length := Nat.mul_le_mul_left _ i
      _ = 4294967296 ^ r.length * 4294967296 := Nat.mul_comm _ _

theorem le_val {zs : List Int} (h : Limbs zs) (hn : Norm zs) (h0 : 0 < zs.length) : 4294967296 ^ (zs.length - 1) ≤ val zs := by
  induction zs with
  | nil => simp at h0
  | cons z r ih =>
    have h1 := h z (List.mem_cons_self)
    cases r with
    | nil =>
      simp only [val, List.length_cons, List.length_nil]
      rcases hn with hn | hn
      · simp at hn
      · simp [List.getD] at hn; simp; omega
    | cons y s =>
      have i := ih (fun x hx => h x (List.mem_cons_of_mem _ hx)) hn.tail (by simp)
      simp only [val, List.length_cons, Nat.add_sub_cancel] at i ⊢
      rw [Nat.pow_succ, Nat.mul_comm]
      have := Nat.mul_le_mul_left 4294967296 i
      omega

/-- How many limbs a number has. -/
theorem lim_length_le {n k : Nat} (h : n < 4294967296 ^ k) : (lim n).length ≤ k := by
  rcases Nat.lt_or_ge k (lim n).length with hlt | hge
  · have h1 := le_val (lim_limbs n) (lim_norm n) (by omega)
    rw [val_lim] at h1
    have : 4294967296 ^ k ≤ 4294967296 ^ ((lim n).length - 1) := Nat.pow_le_pow_right (by omega) (by omega)
    omega
  · exact hge

theorem lim_length_gt {n k : Nat} (h : 4294967296 ^ k ≤ n) : k < (lim n).length := by
  rcases Nat.lt_or_ge k (lim n).length with hlt | hge
  · exact hlt
  · have h1 := val_lt (lim_limbs n)
    rw [val_lim] at h1
    have : 4294967296 ^ (lim n).length ≤ 4294967296 ^ k := Nat.pow_le_pow_right (by omega) hge
    omega

theorem lim_inj {n m : Nat} : lim n = lim m ↔ n = m := ⟨fun h => by rw [← val_lim n, h, val_lim], fun h => by rw [h]⟩

end Go.Proofs.YtfcoffllelgakaaDoor
