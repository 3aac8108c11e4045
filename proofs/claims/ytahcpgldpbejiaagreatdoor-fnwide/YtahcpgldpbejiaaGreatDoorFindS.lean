import Derived.Test.YtahcpgldpbejiaaGreatDoorFndS
import Derived.Test.YtahcpgldpbejiaaGreatDoorEncP
import Derived.Test.YtahcpgldpbejiaaGreatDoorBaseI
import Derived.Test.YtahcpgldpbejiaaGreatDoorRuneB
import Derived.Laws.IdiomStrings
import Derived.Lib.IndexMore
namespace Go.Proofs.YtahcpgldpbejiaaGreatDoor
open Go.RowKit Go.Lib
set_option linter.unusedVariables false
set_option linter.unusedSimpArgs false

theorem heads_snoc (s : ByteArray) (k : Nat) (h : k < s.size) : heads (s.data.toList.take (k + 1)) = heads (s.data.toList.take k) + (if tailB (s.get! k) then 0 else 1) := by
  have hk : k < s.data.toList.length := by rw [← size_eq]; exact h
  unfold heads
  rw [List.take_succ_eq_append_getElem hk, List.countP_append]
  congr 1
  have e : s.data.toList[k] = s.get! k := by rw [← get_at s k h]; rfl
  rw [e]
  by_cases ht : tailB (s.get! k)
  · simp [ht]
  · simp [ht]
theorem heads_le (s : ByteArray) (k : Nat) : heads (s.data.toList.take k) ≤ k := by
  unfold heads
  exact Nat.le_trans List.countP_le_length (by simp; omega)
set_option maxRecDepth 100000 in
theorem l3Len_any (s : ByteArray) (w : World) (hs : s.size ≤ 16777216) :
    Calls Tryz.prog 46 #[.string s] w fun e w' => e = .returned (.int .i64 (heads s.data.toList)) ∧ w' = w := by
  go_enter Tryz.func46, Tryz.ntmps46
  go_wp2
  go_loopw [3, 4] (fun n i wr => ∃ (k m : Nat), k ≤ s.size ∧ i = .int .i64 k ∧ n = .int .i64 m ∧ m = heads (s.data.toList.take k) ∧ wr = w) (fun _ i _ => s.size - (intOf i).toNat)
  case atStart => exact ⟨0, 0, by omega, rfl, rfl, rfl, rfl⟩
  case round =>
    obtain ⟨k, m, hk, rfl, rfl, hm, rfl⟩ := hrel
    have hml : m ≤ k := by rw [hm]; exact heads_le s k
    have HM : Hid (m = heads (s.data.toList.take k)) := hm
    clear hm
    by_cases hi : k < s.size
    · have hiz : (k : Int) < (s.size : Int) := by omega
      obtain ⟨x0, hx0⟩ : ∃ x0, s.get! k = x0 := ⟨_, rfl⟩
      have hs0 : s[k]'(by omega) = x0 := (get_at s k (by omega)).trans hx0
      have hl0 : x0.toNat < 256 := x0.toNat_lt
      obtain ⟨X, hX⟩ : ∃ X : Int, (x0.toNat : Int) = X := ⟨_, rfl⟩
      have hwk := wrap_id' (a := (k : Int) + 1) (by omega) (by omega)
      have hwm := wrap_id' (a := (m : Int) + 1) (by omega) (by omega)
      have HS := heads_snoc s k hi
      rw [hx0] at HS
      by_cases b1 : X < 128
      · have HN : Hid (m + 1 = heads (s.data.toList.take (k + 1))) := by
          show _ = _
          rw [HS, if_neg (by unfold tailB; omega), HM.out]
        clear HS hx0 hl0
        go_wp2
        go_roundw
        case rel => exact ⟨k + 1, m + 1, by omega, by go_num, by go_num, HN.out, trivial⟩
        case measure => first | (simp [intOf]; done) | (simp [intOf]; omega)
      · by_cases b2 : 192 ≤ X
        · have HN : Hid (m + 1 = heads (s.data.toList.take (k + 1))) := by
            show _ = _
            rw [HS, if_neg (by unfold tailB; omega), HM.out]
          clear HS hx0 hl0
          go_wp2
          go_roundw
          case rel => exact ⟨k + 1, m + 1, by omega, by go_num, by go_num, HN.out, trivial⟩
          case measure => first | (simp [intOf]; done) | (simp [intOf]; omega)
        · have HN : Hid (m = heads (s.data.toList.take (k + 1))) := by
            show _ = _
            rw [HS, if_pos (by unfold tailB; omega), HM.out]; rfl
          clear HS hx0 hl0
          go_wp2
          go_roundw
          case rel => exact ⟨k + 1, m, by omega, by go_num, rfl, HN.out, trivial⟩
          case measure => first | (simp [intOf]; done) | (simp [intOf]; omega)
    · have hiz : ¬ (k : Int) < (s.size : Int) := by omega
      have hfin : m = heads s.data.toList := by
        have := HM.out
        rw [List.take_of_length_le (by rw [← size_eq]; omega)] at this
        exact this
      clear HM
      go_wp2
      go_ret
      exact ⟨rfl, rfl⟩
end Go.Proofs.YtahcpgldpbejiaaGreatDoor
