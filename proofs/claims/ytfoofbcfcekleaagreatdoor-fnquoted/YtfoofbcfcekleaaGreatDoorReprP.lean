import Derived.Test.YtfoofbcfcekleaaGreatDoorEncP
import Derived.Test.YtfoofbcfcekleaaGreatDoorRTok
import Derived.Lib.IndexLaws
namespace Go.Proofs.YtfoofbcfcekleaaGreatDoor
open Go.RowKit Go.Lib
set_option linter.unusedVariables false
set_option linter.unusedSimpArgs false

/-- A digit's sign. -/
def hexN (d : Nat) : Nat := if d < 10 then 48 + d else 87 + d
/-- A byte, as a repr with quote q has it: numbers. -/
def reprN (q b : Nat) : List Nat :=
  if b = 92 ∨ b = q then [92, b] else if b = 10 then [92, 110] else if b = 9 then [92, 116] else if b = 13 then [92, 114] else if b < 32 ∨ b = 127 then [92, 120, hexN (b / 16), hexN (b % 16)] else [b]
theorem reprN_byte {q b : Nat} (hb : b < 256) : ∀ x ∈ reprN q b, x < 256 := by
  intro x hx
  unfold reprN at hx
  have h1 : hexN (b / 16) < 256 := by unfold hexN; split <;> omega
  have h2 : hexN (b % 16) < 256 := by unfold hexN; split <;> omega
  split at hx
  · simp at hx; omega
  · split at hx
    · simp at hx; omega
    · split at hx
      · simp at hx; omega
      · split at hx
        · simp at hx; omega
        · split at hx
          · simp at hx; omega
          · simp at hx; omega
theorem reprN_len (q b : Nat) : (reprN q b).length ≤ 4 := by
  unfold reprN
  split
  · simp
  · split
    · simp
    · split
      · simp
      · split
        · simp
        · split <;> simp
def toB (l : List Nat) : List UInt8 := l.map fun n => n.toUInt8
def reprB (q : Nat) (b : UInt8) : List UInt8 := toB (reprN q b.toNat)
/-- A code point, as a repr has it. -/
def reprR (q r : Nat) : List UInt8 := if r < 128 then toB (reprN q r) else encodeRune (r : Int)
theorem reprB_high (q : Nat) (hq : q < 128) (b : UInt8) (h : 128 ≤ b.toNat) : reprB q b = [b] := by
  unfold reprB reprN
  rw [if_neg (by omega), if_neg (by omega), if_neg (by omega), if_neg (by omega), if_neg (by omega)]
  simp [toB]
theorem repr_enc (q r : Nat) (hq : q < 128) (hr : Scalar r) : (encodeRune (r : Int)).flatMap (reprB q) = reprR q r := by
  unfold reprR
  by_cases h : r < 128
  · rw [if_pos h]
    rcases enc_cases r hr with ⟨_, e⟩ | ⟨a, _⟩ | ⟨a, _⟩ | ⟨a, _⟩
    · rw [e]; simp only [List.flatMap_cons, List.flatMap_nil, List.append_nil]
      unfold reprB; rw [byte_nat (by omega)]
    all_goals omega
  · rw [if_neg h]
    have hs := hr
    unfold Scalar at hs
    have hh := enc_high (r := (r : Int)) (by omega) (by omega)
    have : ∀ l : List UInt8, (∀ b ∈ l, 128 ≤ b.toNat) → l.flatMap (reprB q) = l := by
      intro l
      induction l with
      | nil => intro _; rfl
      | cons a l ih => intro hl; rw [List.flatMap_cons, ih (fun b hb => hl b (.tail _ hb)), reprB_high q hq a (hl a (.head _))]; rfl
    exact this _ hh
theorem repr_encs (q : Nat) (hq : q < 128) (rs : List Nat) (hs : ∀ r ∈ rs, Scalar r) : (encs rs).flatMap (reprB q) = rs.flatMap (reprR q) := by
  induction rs with
  | nil => rfl
  | cons r rs ih => rw [encs_cons, List.flatMap_append, ih (fun x hx => hs x (.tail _ hx)), repr_enc q r hq (hs r (.head _)), List.flatMap_cons]
/-- The quote of a repr. -/
def quoteOf (s : ByteArray) : Nat := if s.data.toList.contains 39 = true ∧ s.data.toList.contains 34 = false then 34 else 39
/-- What TextRepr answers. -/
def reprAns (s : ByteArray) : List UInt8 := if (textOf s).isSome = true then [(quoteOf s).toUInt8] ++ s.data.toList.flatMap (reprB (quoteOf s)) ++ [(quoteOf s).toUInt8] else []
theorem quote_lt (s : ByteArray) : quoteOf s < 128 := by unfold quoteOf; split <;> omega
theorem contains_index (l : List UInt8) (c : UInt8) : decide (0 ≤ indexByte l c) = l.contains c := by
  by_cases h : 0 ≤ indexByte l c
  · obtain ⟨o, ho⟩ : ∃ o : Nat, indexByte l c = o := ⟨(indexByte l c).toNat, by omega⟩
    have := (indexByte_some ho).1
    have hm := List.mem_of_getElem? this
    rw [decide_eq_true h]
    exact (List.contains_iff_mem.2 hm).symm
  · have h1 := indexByte_ge l c
    have hn : indexByte l c = -1 := by omega
    have := indexByte_none hn
    rw [decide_eq_false h]
    symm
    rw [Bool.eq_false_iff]
    intro hc
    obtain ⟨k, hk⟩ := List.getElem?_of_mem (List.contains_iff_mem.1 hc)
    exact this k hk
end Go.Proofs.YtfoofbcfcekleaaGreatDoor
