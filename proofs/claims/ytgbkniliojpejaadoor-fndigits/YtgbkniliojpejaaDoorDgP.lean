import Derived.Test.YtgbkniliojpejaaDoorTxtK
import Derived.Test.YtgbkniliojpejaaDoorBrdI
namespace Go.Proofs.YtgbkniliojpejaaDoor
open Go.RowKit
set_option linter.unusedVariables false
set_option linter.unusedSimpArgs false

theorem dig_ch (d : Nat) (h : d < 36) : digN (ch d) = d := by
  have : ∀ d, d < 36 → digN (ch d) = d := by decide
  exact this d h
theorem ch_minus (d : Nat) (h : d < 36) : ch d ≠ 45 := by
  have : ∀ d, d < 36 → ch d ≠ 45 := by decide
  exact this d h
theorem dval_le {b : Nat} (hb : 2 ≤ b) (hb2 : b ≤ 36) (n : Nat) : dval b ((le b n).map ch).reverse = n := by
  induction n using Nat.strongRecOn with
  | ind n ih =>
    by_cases hn : n = 0
    · rw [hn, le_zero]; rfl
    · rw [le_pos hb hn, List.map_cons, List.reverse_cons, dval_snoc, ih (n / b) (Nat.div_lt_self (by omega) (by omega)), dig_ch _ (by have := Nat.mod_lt n (show 0 < b by omega); omega)]
      have := Nat.div_add_mod n b
      rw [Nat.mul_comm] at this
      exact this
theorem good_map {b : Nat} (hb2 : b ≤ 36) (l : List Nat) (h : ∀ d ∈ l, d < b) : goodD b ((l.map ch).reverse) = true := by
  unfold goodD
  rw [List.all_eq_true]
  intro c hc
  rw [List.mem_reverse, List.mem_map] at hc
  obtain ⟨d, hd, rfl⟩ := hc
  have := h d hd
  rw [dig_ch d (by omega)]
  simpa using this
theorem dval_txt {b : Nat} (hb : 2 ≤ b) (hb2 : b ≤ 36) (n : Nat) : dval b (txt b n) = n := by
  unfold txt
  split
  · subst n; have h0 : digN 48 = 0 := by decide
    simp [dval, h0]
  · exact dval_le hb hb2 n
theorem good_txt {b : Nat} (hb : 2 ≤ b) (hb2 : b ≤ 36) (n : Nat) : goodD b (txt b n) = true := by
  unfold txt
  split
  · show ([48] : List UInt8).all _ = true
    have : digN 48 = 0 := by decide
    simp [this]; omega
  · exact good_map hb2 _ (le_lt hb n)
theorem txt_head {b : Nat} (hb : 2 ≤ b) (hb2 : b ≤ 36) (n : Nat) : (txt b n).head? ≠ some 45 := by
  intro h
  have hm := List.mem_of_mem_head? h
  unfold txt at hm
  split at hm
  · simp at hm
  · rw [List.mem_reverse, List.mem_map] at hm
    obtain ⟨d, hd, e⟩ := hm
    have := le_lt hb n d hd
    exact ch_minus d (by omega) e
theorem okB_nd {p : Bool} {xs : List Int} (h : okB p xs = true) : Norm xs ∧ xs.length ≤ 128 := by
  unfold okB at h
  split at h
  · rename_i h0; exact ⟨.inl h0, by omega⟩
  · simp at h; exact ⟨.inr (by simpa using h.2), h.1⟩
theorem val_pos {p : Bool} {xs : List Int} (hz : Limbs xs) (h : okB p xs = true) : nz p (val xs) = p := by
  have hn := (okB_nd h).1
  unfold okB at h
  split at h
  · rename_i h0
    cases p
    · rfl
    · simp at h
  · rename_i h0
    have := le_val hz hn (by omega)
    have h1 : 0 < 4294967296 ^ (xs.length - 1) := Nat.pow_pos (by decide)
    unfold nz
    rw [decide_eq_true (by omega)]
    simp
/-- What is written is read. -/
theorem read_text {p : Bool} {xs : List Int} (hz : Limbs xs) (h : okB p xs = true) (b : Nat) (hb : 2 ≤ b) (hb2 : b ≤ 36) :
    readAns ⟨(btA p xs (b : Int)).toArray⟩ (b : Int) = some (p, val xs) ∧ 0 < (btA p xs (b : Int)).length ∧ (btA p xs (b : Int)).length ≤ 4097 := by
  obtain ⟨hn, hl⟩ := okB_nd h
  have hT : btA p xs (b : Int) = if p = true then 45 :: txt b (val xs) else txt b (val xs) := by unfold btA; rw [if_pos ⟨h, by omega, by omega⟩]; rfl
  have htl := txt_len (b := b) hb hz hl
  have hne := txt_ne (b := b) (n := val xs) hb
  have hpos : 0 < (txt b (val xs)).length := List.length_pos_iff.mpr hne
  have hlen : 0 < (btA p xs (b : Int)).length ∧ (btA p xs (b : Int)).length ≤ 4097 := by
    rw [hT]; split
    · simp; omega
    · omega
  have hrd : rdD b (txt b (val xs)) = some (val xs) := by
    unfold rdD
    rw [if_neg hne, if_pos (good_txt hb hb2 _), dval_txt hb hb2, if_pos (by rw [lim_val hz hn]; exact hl)]
  refine ⟨?_, hlen⟩
  have hsz : (⟨(btA p xs (b : Int)).toArray⟩ : ByteArray).size = (btA p xs (b : Int)).length := by simp [ByteArray.size]
  unfold readAns
  rw [if_neg (by rw [hsz]; omega)]
  simp only [hT]
  cases p
  · simp only [Bool.false_eq_true, if_false, Int.toNat_natCast]
    rw [if_neg (txt_head hb hb2 _), hrd]
    rfl
  · simp only [if_true, List.head?_cons, Int.toNat_natCast, List.drop_succ_cons, List.drop_zero]
    rw [hrd]
    rfl
theorem read_none {p : Bool} {xs : List Int} (h : okB p xs = false) (b : Int) : btA p xs b = [] ∧ readAns ⟨#[]⟩ b = none := by
  refine ⟨by unfold btA; rw [if_neg (fun e => by rw [h] at e; cases e.1)], ?_⟩
  unfold readAns
  split
  · rfl
  · rfl
end Go.Proofs.YtgbkniliojpejaaDoor
