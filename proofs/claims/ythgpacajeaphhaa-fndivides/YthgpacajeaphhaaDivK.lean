import Derived.Test.YthgpacajeaphhaaDivB
import Derived.Test.YthgpacajeaphhaaDivG
namespace Go.Proofs.Ythgpacajeaphhaa
open Go.RowKit
set_option linter.unusedVariables false
set_option linter.unusedSimpArgs false

/-- A part of what reads as limbs. -/
theorem Rd.tail {w : World} {b off n cap : Nat} {zs : List Int} (h : Rd w (.slice (some ⟨b, off, none⟩) n cap) zs) (k : Nat) (hk : k ≤ zs.length) (c : Nat) (hc : zs.length - k ≤ c) : Rd w (.slice (some ⟨b, off + k, none⟩) (zs.drop k).length c) (zs.drop k) := by
  obtain ⟨a', cap', hv, hl, hz, hn, hcell⟩ := h
  simp at hv
  obtain ⟨rfl, rfl, rfl⟩ := hv
  refine ⟨_, c, rfl, by simp; omega, hz.drop k, ⟨by simpa using hc, fun h => by cases h⟩, fun h0 => ?_⟩
  obtain ⟨b', off', he, hb, hce⟩ := hcell (by simp at h0; omega)
  simp at he
  obtain ⟨rfl, rfl⟩ := he
  refine ⟨b, off + k, rfl, hb, fun j hj => ?_⟩
  simp at hj
  have := hce (k + j) (by omega)
  rw [Nat.add_assoc, this]
  simp [List.getD, List.getElem?_drop]
/-- A window of a row. -/
theorem Own.win {w : World} {B g N : Nat} {Lo A Hi : List Int} (h : Own w B (.slice (some ⟨g, 0, none⟩) N N) (Lo ++ (A ++ Hi))) (c : Nat) (hc : A.length ≤ c) : Rd w (.slice (some ⟨g, Lo.length, none⟩) A.length c) A := by
  have hN := h.len
  have hr := h.rd
  obtain ⟨a', cap', hv, hl, hz, hn, hcell⟩ := hr
  simp only [Value.slice.injEq] at hv
  obtain ⟨rfl, _, rfl⟩ := hv
  refine ⟨_, c, rfl, by simp at hl; omega, fun z hz' => hz z (by simp [hz']), ⟨hc, fun h => by cases h⟩, fun h0 => ?_⟩
  obtain ⟨b', off', he, hb, hce⟩ := hcell (by simp; omega)
  simp at he
  obtain ⟨rfl, rfl⟩ := he
  refine ⟨_, _, rfl, hb, fun j hj => ?_⟩
  have := hce (Lo.length + j) (by simp; omega)
  rw [Nat.zero_add] at this
  rw [this]
  simp [List.getD, List.getElem?_append_right, List.getElem?_append_left hj]

theorem take_two (Y : List Int) (hz : Limbs Y) (n : Nat) (hn : Y.length = n + 2) : ∃ nx tp : Nat, Y.drop n = [(nx : Int), (tp : Int)] ∧ val Y = val (Y.take n) + 4294967296 ^ n * (tp * 4294967296 + nx) := by
  have h0 := hz.get n
  have h1 := hz.get (n + 1)
  have e : Y.drop n = [Y.getD n 0, Y.getD (n + 1) 0] := by
    rw [List.drop_eq_getElem_cons (by omega), List.drop_eq_getElem_cons (by omega : n + 1 < Y.length), List.drop_of_length_le (by omega)]
    simp [List.getD, (by omega : n < Y.length), (by omega : n + 1 < Y.length)]
  refine ⟨(Y.getD n 0).toNat, (Y.getD (n + 1) 0).toNat, ?_, ?_⟩
  · rw [e]; congr 1; · omega
    congr 1; omega
  · have := val_append (Y.take n) (Y.drop n)
    rw [List.take_append_drop, List.length_take, Nat.min_eq_left (by omega), e] at this
    rw [this]; simp only [val]; rw [Nat.mul_comm (Y.getD (n + 1) 0).toNat, Nat.mul_zero, Nat.add_zero, Nat.add_comm (4294967296 * _)]
theorem take_three (A : List Int) (hz : Limbs A) (n : Nat) (hn : A.length = n + 3) : ∃ m0 m1 m2 : Nat, A.drop n = [(m0 : Int), (m1 : Int), (m2 : Int)] ∧ val A = val (A.take n) + 4294967296 ^ n * ((m1 + 4294967296 * m2) * 4294967296 + m0) := by
  have h0 := hz.get n
  have h1 := hz.get (n + 1)
  have h2 := hz.get (n + 2)
  have e : A.drop n = [A.getD n 0, A.getD (n + 1) 0, A.getD (n + 2) 0] := by
    rw [List.drop_eq_getElem_cons (by omega), List.drop_eq_getElem_cons (by omega : n + 1 < A.length), List.drop_eq_getElem_cons (by omega : n + 1 + 1 < A.length), List.drop_of_length_le (by omega)]
    simp [List.getD, (by omega : n < A.length), (by omega : n + 1 < A.length), (by omega : n + 2 < A.length)]
  refine ⟨(A.getD n 0).toNat, (A.getD (n + 1) 0).toNat, (A.getD (n + 2) 0).toNat, ?_, ?_⟩
  · rw [e]; congr 1; · omega
    congr 1; · omega
    congr 1; omega
  · have := val_append (A.take n) (A.drop n)
    rw [List.take_append_drop, List.length_take, Nat.min_eq_left (by omega), e] at this
    rw [this]; simp only [val]
    congr 2; omega
end Go.Proofs.Ythgpacajeaphhaa
