import Derived.Test.YthgpacajeaphhaaSum
import Derived.Test.YthgpacajeaphhaaAdd
import Derived.Test.YthgpacajeaphhaaMulS
namespace Go.Proofs.Ythgpacajeaphhaa
open Go.RowKit
set_option linter.unusedVariables false
set_option linter.unusedSimpArgs false

theorem wrap_idR {a : Int} (h0 : 0 ≤ a) (h1 : a < 9223372036854775808) : IntKind.i64.wrap a = a := by
  unfold IntKind.wrap; simp [IntKind.signed, IntKind.bits]; omega
/-- A sign's worth as a digit; 99 for what is no digit. -/
def digN (c : UInt8) : Nat := if 48 ≤ c.toNat ∧ c.toNat ≤ 57 then c.toNat - 48 else if 97 ≤ c.toNat ∧ c.toNat ≤ 122 then c.toNat - 87 else 99
def dval (b : Nat) (L : List UInt8) : Nat := L.foldl (fun m c => m * b + digN c) 0
theorem dval_nil (b : Nat) : dval b [] = 0 := rfl
theorem dval_snoc (b : Nat) (L : List UInt8) (c : UInt8) : dval b (L ++ [c]) = dval b L * b + digN c := by simp [dval]
theorem dval_mono (b : Nat) (hb : 1 ≤ b) (L : List UInt8) (k : Nat) : dval b (L.take k) ≤ dval b L := by
  induction hn : L.length - k generalizing k with
  | zero => rw [List.take_of_length_le (by omega)]; exact Nat.le_refl _
  | succ n ih =>
    have hk : k < L.length := by omega
    have h1 := ih (k + 1) (by omega)
    rw [List.take_succ_eq_append_getElem hk, dval_snoc] at h1
    have h2 : dval b (L.take k) * 1 ≤ dval b (L.take k) * b := Nat.mul_le_mul_left _ hb
    omega
def goodD (b : Nat) (L : List UInt8) : Bool := L.all (fun c => decide (digN c < b))
theorem goodD_nil (b : Nat) : goodD b [] = true := rfl
theorem goodD_snoc (b : Nat) (L : List UInt8) (c : UInt8) : goodD b (L ++ [c]) = (goodD b L && decide (digN c < b)) := by simp [goodD]
theorem goodD_bad {b : Nat} {L : List UInt8} {k : Nat} (hk : k < L.length) (h : b ≤ digN L[k]) : goodD b L = false := by
  unfold goodD
  rw [List.all_eq_false]
  exact ⟨L[k], List.getElem_mem hk, by simp; omega⟩
def rdD (b : Nat) (D : List UInt8) : Option Nat := if D = [] then none else if goodD b D = true then (if (lim (dval b D)).length ≤ 128 then some (dval b D) else none) else none
/-- What BigRead answers: the sign and the size, or none. -/
def readAns (s : ByteArray) (base : Int) : Option (Bool × Nat) :=
  if base < 2 ∨ 36 < base ∨ 5000 < s.size then none
  else if s.data.toList.head? = some 45 then (rdD base.toNat (s.data.toList.drop 1)).map (true, ·) else (rdD base.toNat s.data.toList).map (false, ·)
def rdS : Option (Bool × Nat) → Bool
  | none => false
  | some (g, n) => nz g n
def rdL : Option (Bool × Nat) → List Int
  | none => []
  | some (_, n) => lim n
theorem rdD_nil (b : Nat) : rdD b [] = none := rfl
theorem rdD_bad {b : Nat} {D : List UInt8} (h : goodD b D = false) : rdD b D = none := by
  unfold rdD; split
  · rfl
  · rw [if_neg (by simp [h])]
theorem lim_pow (n : Nat) (h : 128 < (lim n).length) : 4294967296 ^ 128 ≤ n := by
  rcases Nat.lt_or_ge n (4294967296 ^ 128) with h1 | h1
  · have := lim_length_le h1; omega
  · exact h1
theorem rdD_big {b : Nat} {D : List UInt8} (k : Nat) (hb : 1 ≤ b) (h : 128 < (lim (dval b (D.take k))).length) : rdD b D = none := by
  have h1 := lim_length_gt (Nat.le_trans (lim_pow _ h) (dval_mono b hb D k))
  unfold rdD
  split
  · rfl
  · split
    · rw [if_neg (by omega)]
    · rfl
end Go.Proofs.Ythgpacajeaphhaa
