import Derived.Lib.Strings
namespace Go.Proofs.YtgbkniliojpejaaDoor
set_option linter.unusedVariables false
set_option linter.unusedSimpArgs false

/-- The digits of n in base b, the lowest first. -/
def le (b n : Nat) : List Nat := if h : b < 2 ∨ n = 0 then [] else n % b :: le b (n / b)
termination_by n
decreasing_by exact Nat.div_lt_self (by omega) (by omega)
theorem le_zero (b : Nat) : le b 0 = [] := by rw [le, dif_pos (.inr rfl)]
theorem le_pos {b n : Nat} (hb : 2 ≤ b) (hn : n ≠ 0) : le b n = n % b :: le b (n / b) := by rw [le, dif_neg (by omega)]
/-- The lowest w digits. -/
def pd (b : Nat) : Nat → Nat → List Nat
  | 0, _ => []
  | w + 1, n => n % b :: pd b w (n / b)
theorem pd_zero (b w : Nat) : pd b w 0 = List.replicate w 0 := by
  induction w with
  | zero => rfl
  | succ w ih => rw [pd, Nat.zero_mod, Nat.zero_div, ih, List.replicate_succ]
theorem pd_length (b w n : Nat) : (pd b w n).length = w := by
  induction w generalizing n with
  | zero => rfl
  | succ w ih => rw [pd, List.length_cons, ih]
theorem pd_le {b : Nat} (hb : 2 ≤ b) (w n : Nat) (h : n / b ^ w ≠ 0) : pd b w n ++ le b (n / b ^ w) = le b n := by
  induction w generalizing n with
  | zero => rw [pd, Nat.pow_zero, Nat.div_one, List.nil_append]
  | succ w ih =>
    have e : n / b ^ (w + 1) = n / b / b ^ w := by rw [Nat.pow_succ, Nat.mul_comm, Nat.div_div_eq_div_mul]
    rw [e] at h ⊢
    have hn : n ≠ 0 := fun e => h (by rw [e, Nat.zero_div, Nat.zero_div])
    rw [pd, le_pos hb hn, List.cons_append, ih _ h]
theorem pd_end {b : Nat} (hb : 2 ≤ b) (w n : Nat) (h : n / b ^ w = 0) : ∃ j, pd b w n = le b n ++ List.replicate j 0 := by
  induction w generalizing n with
  | zero =>
    rw [Nat.pow_zero, Nat.div_one] at h
    exact ⟨0, by rw [h, le_zero]; rfl⟩
  | succ w ih =>
    by_cases hn : n = 0
    · exact ⟨w + 1, by rw [hn, pd_zero, le_zero, List.nil_append]⟩
    · have e : n / b ^ (w + 1) = n / b / b ^ w := by rw [Nat.pow_succ, Nat.mul_comm, Nat.div_div_eq_div_mul]
      rw [e] at h
      obtain ⟨j, hj⟩ := ih _ h
      exact ⟨j, by rw [pd, hj, le_pos hb hn, List.cons_append]⟩
theorem pd_mod {b : Nat} (w n : Nat) : pd b w (n % b ^ w) = pd b w n := by
  induction w generalizing n with
  | zero => rfl
  | succ w ih =>
    rw [pd, pd, Nat.pow_succ, Nat.mul_comm (b ^ w) b, Nat.mod_mul_right_div_self, ih]
    rw [Nat.mod_mod_of_dvd _ (Nat.dvd_mul_right b (b ^ w))]
/-- One step of the chunks: the digits that are written, and those that are left. -/
def Chunk (b n m : Nat) (out : List Nat) : Prop := ∃ k, out ++ le b m = le b n ++ List.replicate k 0 ∧ (m ≠ 0 → k = 0)
theorem Chunk.start (b n : Nat) : Chunk b n n [] := ⟨0, by simp, fun _ => rfl⟩
theorem Chunk.step {b n m w : Nat} {out : List Nat} (hb : 2 ≤ b) (hm : m ≠ 0) (h : Chunk b n m out) : Chunk b n (m / b ^ w) (out ++ pd b w (m % b ^ w)) := by
  obtain ⟨k, hk, h0⟩ := h
  rw [h0 hm] at hk
  simp only [List.replicate_zero, List.append_nil] at hk
  rw [pd_mod]
  by_cases hq : m / b ^ w = 0
  · obtain ⟨j, hj⟩ := pd_end hb w m hq
    refine ⟨j, ?_, fun h => absurd hq h⟩
    rw [hq, le_zero, List.append_nil, hj, ← List.append_assoc, hk]
  · refine ⟨0, ?_, fun _ => rfl⟩
    rw [List.append_assoc, pd_le hb w m hq, hk]; simp
theorem Chunk.done {b n : Nat} {out : List Nat} (h : Chunk b n 0 out) : ∃ k, out = le b n ++ List.replicate k 0 := by
  obtain ⟨k, hk, _⟩ := h
  rw [le_zero, List.append_nil] at hk
  exact ⟨k, hk⟩
theorem le_last {b : Nat} (hb : 2 ≤ b) (n : Nat) (hn : n ≠ 0) : ∃ l d, le b n = l ++ [d] ∧ d ≠ 0 := by
  induction n using Nat.strongRecOn with
  | _ n ih =>
    rw [le_pos hb hn]
    by_cases hq : n / b = 0
    · refine ⟨[], n % b, by rw [hq, le_zero]; rfl, ?_⟩
      have := Nat.div_add_mod n b
      rw [hq] at this
      omega
    · obtain ⟨l, d, e, hd⟩ := ih (n / b) (Nat.div_lt_self (by omega) (by omega)) hq
      exact ⟨n % b :: l, d, by rw [e]; rfl, hd⟩
theorem le_lt {b : Nat} (hb : 2 ≤ b) (n : Nat) : ∀ d ∈ le b n, d < b := by
  induction n using Nat.strongRecOn with
  | _ n ih =>
    by_cases hn : n = 0
    · rw [hn, le_zero]; simp
    · rw [le_pos hb hn]
      intro d hd
      rcases List.mem_cons.1 hd with rfl | hd
      · exact Nat.mod_lt _ (by omega)
      · exact ih _ (Nat.div_lt_self (by omega) (by omega)) d hd
theorem le_len {b : Nat} (hb : 2 ≤ b) (n k : Nat) (h : n < 2 ^ k) : (le b n).length ≤ k := by
  induction k generalizing n with
  | zero =>
    have : n = 0 := by rw [Nat.pow_zero] at h; omega
    rw [this, le_zero]; simp
  | succ k ih =>
    by_cases hn : n = 0
    · rw [hn, le_zero]; simp
    · rw [le_pos hb hn, List.length_cons]
      have h1 : n / b < 2 ^ k := by
        rw [Nat.div_lt_iff_lt_mul (by omega)]
        rw [Nat.pow_succ] at h
        have : 2 ^ k * 2 ≤ 2 ^ k * b := Nat.mul_le_mul_left _ hb
        omega
      have := ih _ h1
      omega
/-- A digit's sign. -/
def ch (d : Nat) : UInt8 := if d < 10 then (48 + d).toUInt8 else (87 + d).toUInt8
/-- A number's digits as they are written. -/
def txt (b n : Nat) : List UInt8 := if n = 0 then [48] else ((le b n).map ch).reverse
theorem ch_zero : ch 0 = 48 := by decide
theorem ch_ne (d : Nat) (h : d < 36) (h0 : d ≠ 0) : ch d ≠ 48 := by
  have : ∀ d, d < 36 → d ≠ 0 → ch d ≠ 48 := by decide
  exact this d h h0
end Go.Proofs.YtgbkniliojpejaaDoor
