import Derived.Test.YtdamddfhflhfbaaDoorEncP
import Derived.Test.YtdamddfhflhfbaaDoorBaseI
import Derived.Test.YtdamddfhflhfbaaDoorRuneB
import Derived.Laws.IdiomStrings
import Derived.Lib.IndexMore
namespace Go.Proofs.YtdamddfhflhfbaaDoor
open Go.RowKit Go.Lib
set_option linter.unusedVariables false
set_option linter.unusedSimpArgs false

theorem wrap_id' {a : Int} (h0 : 0 ≤ a) (h1 : a < 9223372036854775808) : IntKind.i64.wrap a = a := by
  simp [IntKind.wrap, IntKind.bits, IntKind.signed]; omega
theorem heads_snoc (s : ByteArray) (k : Nat) (h : k < s.size) : heads (s.data.toList.take (k + 1)) = heads (s.data.toList.take k) + (if tailB (s.get! k) then 0 else 1) := by
  have hk : k < s.data.toList.length := by rw [← size_eq]; exact h
  unfold heads
  rw [List.take_succ_eq_append_getElem hk, List.countP_append]
  congr 1
  have e : s.data.toList[k] = s.get! k := by rw [← get_at s k h]; rfl
  rw [e]
  by_cases ht : tailB (s.get! k)
  · simp [ht]
  · simp [ht]
theorem heads_le (s : ByteArray) (k : Nat) : heads (s.data.toList.take k) ≤ k := by
  unfold heads
  exact Nat.le_trans List.countP_le_length (by simp; omega)
set_option maxRecDepth 100000 in
theorem l3Len_any (s : ByteArray) (w : World) (hs : s.size ≤ 16777216) :
    Calls Tryd.prog 44 #[.string s] w fun e w' => e = .returned (.int .i64 (heads s.data.toList)) ∧ w' = w := by
  go_enter Tryd.func44, Tryd.ntmps44
  go_wp2
  go_loopw [3, 4] (fun n i wr => ∃ (k m : Nat), k ≤ s.size ∧ i = .int .i64 k ∧ n = .int .i64 m ∧ m = heads (s.data.toList.take k) ∧ wr = w) (fun _ i _ => s.size - (intOf i).toNat)
  case atStart => exact ⟨0, 0, by omega, rfl, rfl, rfl, rfl⟩
  case round =>
    obtain ⟨k, m, hk, rfl, rfl, hm, rfl⟩ := hrel
    have hml : m ≤ k := by rw [hm]; exact heads_le s k
    have HM : Hid (m = heads (s.data.toList.take k)) := hm
    clear hm
    by_cases hi : k < s.size
    · have hiz : (k : Int) < (s.size : Int) := by omega
      obtain ⟨x0, hx0⟩ : ∃ x0, s.get! k = x0 := ⟨_, rfl⟩
      have hs0 : s[k]'(by omega) = x0 := (get_at s k (by omega)).trans hx0
      have hl0 : x0.toNat < 256 := x0.toNat_lt
      obtain ⟨X, hX⟩ : ∃ X : Int, (x0.toNat : Int) = X := ⟨_, rfl⟩
      have hwk := wrap_id' (a := (k : Int) + 1) (by omega) (by omega)
      have hwm := wrap_id' (a := (m : Int) + 1) (by omega) (by omega)
      have HS := heads_snoc s k hi
      rw [hx0] at HS
      by_cases b1 : X < 128
      · have HN : Hid (m + 1 = heads (s.data.toList.take (k + 1))) := by
          show _ = _
          rw [HS, if_neg (by unfold tailB; omega), HM.out]
        clear HS hx0 hl0
        go_wp2
        go_roundw
        case rel => exact ⟨k + 1, m + 1, by omega, by go_num, by go_num, HN.out, trivial⟩
        case measure => first | (simp [intOf]; done) | (simp [intOf]; omega)
      · by_cases b2 : 192 ≤ X
        · have HN : Hid (m + 1 = heads (s.data.toList.take (k + 1))) := by
            show _ = _
            rw [HS, if_neg (by unfold tailB; omega), HM.out]
          clear HS hx0 hl0
          go_wp2
          go_roundw
          case rel => exact ⟨k + 1, m + 1, by omega, by go_num, by go_num, HN.out, trivial⟩
          case measure => first | (simp [intOf]; done) | (simp [intOf]; omega)
        · have HN : Hid (m = heads (s.data.toList.take (k + 1))) := by
            show _ = _
            rw [HS, if_pos (by unfold tailB; omega), HM.out]; rfl
          clear HS hx0 hl0
          go_wp2
          go_roundw
          case rel => exact ⟨k + 1, m, by omega, by go_num, rfl, HN.out, trivial⟩
          case measure => first | (simp [intOf]; done) | (simp [intOf]; omega)
    · have hiz : ¬ (k : Int) < (s.size : Int) := by omega
      have hfin : m = heads s.data.toList := by
        have := HM.out
        rw [List.take_of_length_le (by rw [← size_eq]; omega)] at this
        exact this
      clear HM
      go_wp2
      go_ret
      exact ⟨rfl, rfl⟩
/-- Where sub stands in s, not below p. -/
def findFrom (s sub : ByteArray) (p : Nat) : Int := if index (s.data.toList.drop p) sub.data.toList < 0 then -1 else index (s.data.toList.drop p) sub.data.toList + p
theorem extract_eq_iff (s t : ByteArray) (k : Nat) (h : k + t.size ≤ s.size) : s.extract k (k + t.size) = t ↔ occAt s.data.toList t.data.toList k = true := by
  have e : (s.extract k (k + t.size)).data.toList = (s.data.toList.drop k).take t.data.toList.length := by
    rw [ByteArray.data_extract, Array.toList_extract, ← size_eq]
    simp [List.extract_eq_take_drop]
  unfold occAt
  rw [List.isPrefixOf_iff_prefix, List.prefix_iff_eq_take, ← e]
  constructor
  · intro h1; rw [h1]
  · intro h1
    apply ByteArray.ext
    exact Array.toList_inj.1 h1.symm
theorem findFrom_here (s t : ByteArray) (p k : Nat) (hp : p ≤ k) (hk : k ≤ s.size) (hn : ∀ j, p ≤ j → j < k → occAt s.data.toList t.data.toList j = false) (ho : occAt s.data.toList t.data.toList k = true) : findFrom s t p = (k : Int) := by
  have hl : s.data.toList.length = s.size := (size_eq s).symm
  have hi : index (s.data.toList.drop p) t.data.toList = ((k - p : Nat) : Int) := by
    refine index_hit (fun j hj => ?_) (by simp; omega) ?_
    · have := hn (p + j) (by omega) (by omega)
      unfold occAt at this ⊢
      rw [List.drop_drop]; exact this
    · unfold occAt at ho ⊢
      rw [List.drop_drop, show p + (k - p) = k by omega]; exact ho
  unfold findFrom
  rw [hi, if_neg (by omega)]; omega
theorem occAt_room {s t : List UInt8} {k : Nat} (h : occAt s t k = true) : t.length + k ≤ s.length ∨ t.length = 0 := by
  unfold occAt at h
  rw [List.isPrefixOf_iff_prefix] at h
  have := h.length_le
  rw [List.length_drop] at this
  omega
theorem findFrom_none (s t : ByteArray) (p k : Nat) (hk : ¬ k + t.size ≤ s.size) (hp : p ≤ s.size) (hpk : p ≤ k) (hn : ∀ j, p ≤ j → j < k → occAt s.data.toList t.data.toList j = false) : findFrom s t p = -1 := by
  have hl : s.data.toList.length = s.size := (size_eq s).symm
  have ht : t.data.toList.length = t.size := (size_eq t).symm
  have hi : index (s.data.toList.drop p) t.data.toList = -1 := by
    refine index_none (fun j hj => ?_)
    rw [List.length_drop] at hj
    have : occAt (s.data.toList.drop p) t.data.toList j = occAt s.data.toList t.data.toList (p + j) := by unfold occAt; rw [List.drop_drop]
    rw [this]
    by_cases h : p + j < k
    · exact hn _ (by omega) h
    · cases ho : occAt s.data.toList t.data.toList (p + j) with
      | false => rfl
      | true =>
        exfalso
        rcases occAt_room ho with h1 | h1
        · omega
        · omega
  unfold findFrom
  rw [hi]; rfl
set_option maxRecDepth 100000 in
theorem l3Find_any (s t : ByteArray) (p : Nat) (w : World) (hs : s.size ≤ 16777216) (ht : t.size ≤ 16777216) (hp : p ≤ s.size) :
    Calls Tryd.prog 42 #[.string s, .string t, .int .i64 p] w fun e w' => e = .returned (.int .i64 (findFrom s t p)) ∧ w' = w := by
  go_enter Tryd.func42, Tryd.ntmps42
  go_wp2
  go_loopw [7] (fun i wr => ∃ (k : Nat), p ≤ k ∧ k ≤ s.size + 1 ∧ i = .int .i64 k ∧ (∀ j, p ≤ j → j < k → occAt s.data.toList t.data.toList j = false) ∧ wr = w) (fun i _ => s.size + 1 - (intOf i).toNat)
  case atStart => exact ⟨p, Nat.le_refl _, by omega, rfl, fun j h1 h2 => by omega, rfl⟩
  case round =>
    obtain ⟨k, hpk, hk, rfl, hn, rfl⟩ := hrel
    have HN : Hid (∀ j, p ≤ j → j < k → occAt s.data.toList t.data.toList j = false) := hn
    clear hn
    have hwk := wrap_id' (a := (k : Int) + 1) (by omega) (by omega)
    have hwt := wrap_id' (a := (k : Int) + (t.size : Int)) (by omega) (by omega)
    by_cases hi : k + t.size ≤ s.size
    · have hiz : (k : Int) + (t.size : Int) ≤ (s.size : Int) := by omega
      cases ho : occAt s.data.toList t.data.toList k with
      | true =>
        have he : s.extract k (k + t.size) = t := (extract_eq_iff s t k hi).2 ho
        have hfin : findFrom s t p = (k : Int) := findFrom_here s t p k hpk (by omega) HN.out ho
        clear HN ho
        go_wp2
        go_ret
        first | exact ⟨rfl, rfl⟩ | exact ⟨by rw [hfin]; rfl, rfl⟩
      | false =>
        have he : ¬ s.extract k (k + t.size) = t := fun h => by
          have := (extract_eq_iff s t k hi).1 h
          rw [ho] at this; cases this
        have hb : ((s.extract k (k + t.size)).toList == t.toList) = false := by
          rw [beq_eq_false_iff_ne]
          intro h
          rw [Lib.toList_data, Lib.toList_data] at h
          exact he (ByteArray.ext (Array.toList_inj.1 h))
        have HN2 : Hid (∀ j, p ≤ j → j < k + 1 → occAt s.data.toList t.data.toList j = false) := fun j h1 h2 => by
          by_cases hj : j = k
          · rw [hj]; exact ho
          · exact HN.out j h1 (by omega)
        clear HN ho he
        go_wp2
        go_roundw
        case rel => exact ⟨k + 1, by omega, by omega, by go_num, HN2.out, trivial⟩
        case measure => first | (simp [intOf]; done) | (simp [intOf]; omega)
    · have hiz : ¬ (k : Int) + (t.size : Int) ≤ (s.size : Int) := by omega
      have hfin : findFrom s t p = -1 := findFrom_none s t p k hi hp hpk HN.out
      clear HN
      go_wp2
      go_ret
      exact ⟨rfl, rfl⟩
end Go.Proofs.YtdamddfhflhfbaaDoor
