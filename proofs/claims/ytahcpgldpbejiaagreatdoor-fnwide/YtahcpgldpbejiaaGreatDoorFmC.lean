import Derived.Test.YtahcpgldpbejiaaGreatDoorFmP
import Derived.Test.YtahcpgldpbejiaaGreatDoorBaseI
import Derived.Test.YtahcpgldpbejiaaGreatDoorLaidFm
import Derived.Test.YtahcpgldpbejiaaGreatDoorTOkA
import Derived.Lib.AtoiTie
import Derived.Lib.AtoiErrMem
import Derived.BigQuiet
namespace Go.Proofs.YtahcpgldpbejiaaGreatDoor
open Go.RowKit Go.Lib Go.Shelf
set_option linter.unusedVariables false
set_option linter.unusedSimpArgs false

/-- The text of code points. -/
def tx (l : List Nat) : ByteArray := ⟨(encs l).toArray⟩
theorem tx_data (l : List Nat) : (tx l).data.toList = encs l := by simp [tx]
theorem tx_of {s : ByteArray} {l : List Nat} (h : s.data.toList = encs l) : s = tx l := by
  rw [← Lib.mk_data s, h]; rfl
theorem tx_size (l : List Nat) : (tx l).size = (encs l).length := by rw [size_eq, tx_data]
theorem enc1 (c : Nat) (h : c < 128) : encodeRune (c : Int) = [c.toUInt8] := by
  rcases enc_cases c (.inl (by omega)) with ⟨a, e⟩ | ⟨a, b, e⟩ | ⟨a, b, e⟩ | ⟨a, b, e⟩
  · exact e
  all_goals omega
theorem enc_hi (c : Nat) (hs : Scalar c) (h : ¬ c < 128) : ∃ b tl, encodeRune (c : Int) = b :: tl ∧ 192 ≤ b.toNat := by
  rcases enc_cases c hs with ⟨a, e⟩ | ⟨a, b, e⟩ | ⟨a, b, e⟩ | ⟨a, b, e⟩
  · omega
  all_goals exact ⟨_, _, e, by rw [byte_nat (by omega)]; omega⟩
theorem tx_empty (l : List Nat) (hs : ∀ r ∈ l, Scalar r) : (tx l).toList.isEmpty = l.isEmpty := by
  rw [Lib.toList_data, tx_data]
  cases l with
  | nil => rfl
  | cons c t =>
    obtain ⟨b, tl, e, _, _⟩ := enc_shape c (hs c (by simp))
    rw [encs_cons, e]; rfl
theorem tx_first {c : Nat} {t : List Nat} (hs : Scalar c) : ∃ (b : UInt8) (h0 : 0 < (tx (c :: t)).size), (tx (c :: t))[0]'h0 = b ∧ ((c < 128 ∧ b = c.toUInt8) ∨ (¬ c < 128 ∧ 192 ≤ b.toNat)) := by
  obtain ⟨b, tl, e, _, _⟩ := enc_shape c hs
  have h0 : 0 < (tx (c :: t)).size := by rw [tx_size, encs_cons, e, List.cons_append, List.length_cons]; omega
  refine ⟨b, h0, ?_, ?_⟩
  · have h1 := Lib.data_getElem? (tx (c :: t)) 0 h0
    rw [tx_data, encs_cons, e] at h1
    simpa using h1.symm
  · by_cases h : c < 128
    · left
      rw [enc1 c h] at e
      injection e with e1 _
      exact ⟨h, e1.symm⟩
    · right
      obtain ⟨b2, tl2, e2, h2⟩ := enc_hi c hs h
      rw [e2] at e
      injection e with e1 _
      exact ⟨h, by rw [← e1]; exact h2⟩
theorem tx_cut (l : List Nat) (k : Nat) : (tx l).extract 0 (encs (l.take k)).length = tx (l.take k) ∧ (tx l).extract (encs (l.take k)).length (tx l).size = tx (l.drop k) := by
  constructor
  · apply tx_of
    rw [Lib.extract_data, List.drop_zero, Nat.sub_zero, tx_data]
    exact encs_take l k
  · apply tx_of
    rw [Lib.extract_to_end, tx_data]
    exact encs_drop l k
theorem indexByte_mem (l : List UInt8) (c : UInt8) : (indexByte l c < 0) = (l.contains c = false) := by
  induction l with
  | nil => simp [indexByte]
  | cons b l ih =>
    rw [indexByte]
    by_cases h : b == c
    · rw [if_pos h]
      have : (b :: l).contains c = true := by
        rw [List.contains_cons]
        simp only [beq_iff_eq] at h
        simp [h]
      rw [this]; simp
    · rw [if_neg h]
      have e : (b :: l).contains c = l.contains c := by
        rw [List.contains_cons]
        have : (c == b) = false := by
          rw [beq_eq_false_iff_ne]
          intro e; apply h; simp [e]
        rw [this, Bool.false_or]
      rw [e, ← ih]
      have hge : -1 ≤ indexByte l c := by
        clear ih h e
        induction l with
        | nil => simp [indexByte]
        | cons b l ih =>
          rw [indexByte]
          split
          · omega
          · split
            · omega
            · omega
      by_cases h2 : indexByte l c == -1
      · rw [if_pos h2]
        simp only [beq_iff_eq] at h2
        rw [h2]
      · rw [if_neg h2]
        simp only [beq_iff_eq] at h2
        simp only [eq_iff_iff]
        constructor <;> intro h3 <;> omega
/-- The one sign that was cut, or none. -/
def cutL (p : Nat → Bool) : List Nat → List Nat
  | [] => []
  | x :: _ => if p x then [x] else []
/-- These bytes are just these signs. -/
def Signs (ch : ByteArray) (p : Nat → Bool) : Prop := (∀ x, x < 128 → ch.data.toList.contains x.toUInt8 = p x) ∧ (∀ b : UInt8, 128 ≤ b.toNat → ch.data.toList.contains b = false) ∧ (∀ x, ¬ x < 128 → p x = false)
theorem signs_of (l : List Nat) (h : ∀ x ∈ l, x < 128) (p : Nat → Bool) (hp : ∀ x, p x = l.contains x) : Signs ⟨(l.map Nat.toUInt8).toArray⟩ p := by
  have key : ∀ b : UInt8, (l.map Nat.toUInt8).contains b = l.contains b.toNat := by
    intro b
    rw [Bool.eq_iff_iff, List.contains_iff_mem, List.contains_iff_mem, List.mem_map]
    constructor
    · rintro ⟨x, hx, rfl⟩
      rw [byte_nat (by have := h x hx; omega)]; exact hx
    · intro hx
      exact ⟨b.toNat, hx, by simp⟩
  refine ⟨fun x hx => ?_, fun b hb => ?_, fun x hx => ?_⟩
  · show (l.map Nat.toUInt8).contains x.toUInt8 = p x
    rw [key, byte_nat (by omega), hp]
  · show (l.map Nat.toUInt8).contains b = false
    rw [key, ← Bool.not_eq_true, List.contains_iff_mem]
    intro hm
    have := h _ hm
    omega
  · rw [hp, ← Bool.not_eq_true, List.contains_iff_mem]
    intro hm
    exact hx (h _ hm)
set_option maxHeartbeats 1000000 in
set_option maxRecDepth 100000 in
theorem cutOneOf_any (c : List Nat) (ch : ByteArray) (p : Nat → Bool) (w : World) (hs : ∀ r ∈ c, Scalar r) (hp : Signs ch p) :
    Calls Tryz.prog 72 #[.string (tx c), .string ch] w fun e w' => e = .returned (.tuple #[.string (tx (cutL p c)), .string (tx (cutO p c).2)]) ∧ Below w.heap.size w w' := by
  have hemp := tx_empty c hs
  cases c with
  | nil =>
    rw [show cutL p [] = [] from rfl, show (cutO p []).2 = [] from rfl]
    rw [show ([] : List Nat).isEmpty = true from rfl] at hemp
    have ht : tx [] = ⟨#[]⟩ := rfl
    rw [ht] at hemp ⊢
    go_enter Tryz.func72, Tryz.ntmps72
    go_wp2
    go_ret2
    exact ⟨rfl, Below.refl _ _⟩
  | cons x t =>
    rw [show (x :: t).isEmpty = false from rfl] at hemp
    obtain ⟨b, h0, hb0, hb⟩ := tx_first (t := t) (hs x (by simp))
    obtain ⟨h1, h2, h3⟩ := hp
    have hpx : ch.data.toList.contains b = p x := by
      rcases hb with ⟨hx, rfl⟩ | ⟨hx, hb⟩
      · exact h1 x hx
      · rw [h2 b (by omega), h3 x hx]
    have hIB := fun W => Any.strings_IndexByte Tryz.laysIB ch (b.toNat : Int) W
    rw [show ((b.toNat : Int)).toNat.toUInt8 = b by simp] at hIB
    have hneg := indexByte_mem ch.data.toList b
    rw [hpx] at hneg
    obtain ⟨X, hX⟩ : ∃ X : Int, (b.toNat : Int) = X := ⟨_, rfl⟩
    rw [hX] at hIB
    cases hpp : p x with
    | false =>
      rw [show cutL p (x :: t) = [] by unfold cutL; simp [hpp], show (cutO p (x :: t)).2 = x :: t by unfold cutO; simp [hpp]]
      have ht : tx [] = ⟨#[]⟩ := rfl
      rw [ht]
      have hlt : indexByte ch.data.toList b < 0 := by rw [hneg]; exact hpp
      generalize indexByte ch.data.toList b = I at hIB hlt
      generalize tx (x :: t) = T at *
      clear hneg hpp hpx hb h1 h2 h3
      go_enter Tryz.func72, Tryz.ntmps72
      go_wp2_with (go_at_call 92; refine (hIB _).mono ?_; rintro e w' ⟨rfl, rfl⟩)
      go_ret2
      exact ⟨rfl, Below.refl _ _⟩
    | true =>
      have hx : x < 128 := by
        by_cases hx : x < 128
        · exact hx
        · rw [h3 x hx] at hpp; cases hpp
      rw [show cutL p (x :: t) = [x] by unfold cutL; simp [hpp], show (cutO p (x :: t)).2 = t by unfold cutO; simp [hpp]]
      have hlt : ¬ indexByte ch.data.toList b < 0 := by rw [hneg, hpp]; decide
      obtain ⟨k1, k2⟩ := tx_cut (x :: t) 1
      have hl1 : (encs ((x :: t).take 1)).length = 1 := by
        rw [List.take_succ_cons, List.take_zero, encs_cons, encs_nil, List.append_nil, enc1 x hx]; rfl
      rw [hl1] at k1 k2
      rw [show (x :: t).take 1 = [x] from rfl] at k1
      rw [show (x :: t).drop 1 = t from rfl] at k2
      have hsz : (1 : Int) ≤ ((tx (x :: t)).size : Int) := by omega
      generalize indexByte ch.data.toList b = I at hIB hlt
      generalize tx (x :: t) = T at *
      clear hneg hpp hpx hb h1 h2 h3 hl1
      go_enter Tryz.func72, Tryz.ntmps72
      go_wp2_with (go_at_call 92; refine (hIB _).mono ?_; rintro e w' ⟨rfl, rfl⟩)
      go_quiet (fail)
      go_wp2
      go_ret2
      exact ⟨rfl, ⟨rfl, rfl, rfl, Nat.le_refl _, fun _ _ => rfl⟩⟩
end Go.Proofs.YtahcpgldpbejiaaGreatDoor
