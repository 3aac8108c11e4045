import Derived.Test.YtakbmjndhejfpaaDoorEncP
import Derived.Test.YtakbmjndhejfpaaDoorBaseI
import Derived.Test.YtakbmjndhejfpaaDoorRuneB
import Derived.Laws.IdiomStrings
import Derived.Lib.IndexMore
namespace Go.Proofs.YtakbmjndhejfpaaDoor
open Go.RowKit Go.Lib
set_option linter.unusedVariables false
set_option linter.unusedSimpArgs false

theorem wrap_id' {a : Int} (h0 : 0 ≤ a) (h1 : a < 9223372036854775808) : IntKind.i64.wrap a = a := by
  simp [IntKind.wrap, IntKind.bits, IntKind.signed]; omega
/-- Where sub stands in s, not below p. -/
def findFrom (s sub : ByteArray) (p : Nat) : Int := if index (s.data.toList.drop p) sub.data.toList < 0 then -1 else index (s.data.toList.drop p) sub.data.toList + p
theorem extract_eq_iff (s t : ByteArray) (k : Nat) (h : k + t.size ≤ s.size) : s.extract k (k + t.size) = t ↔ occAt s.data.toList t.data.toList k = true := by
  have e : (s.extract k (k + t.size)).data.toList = (s.data.toList.drop k).take t.data.toList.length := by
    rw [ByteArray.data_extract, Array.toList_extract, ← size_eq]
    simp [List.extract_eq_take_drop]
  unfold occAt
  rw [List.isPrefixOf_iff_prefix, List.prefix_iff_eq_take, ← e]
  constructor
  · intro h1; rw [h1]
  · intro h1
    apply ByteArray.ext
    exact Array.toList_inj.1 h1.symm
theorem findFrom_here (s t : ByteArray) (p k : Nat) (hp : p ≤ k) (hk : k ≤ s.size) (hn : ∀ j, p ≤ j → j < k → occAt s.data.toList t.data.toList j = false) (ho : occAt s.data.toList t.data.toList k = true) : findFrom s t p = (k : Int) := by
  have hl : s.data.toList.length = s.size := (size_eq s).symm
  have hi : index (s.data.toList.drop p) t.data.toList = ((k - p : Nat) : Int) := by
    refine index_hit (fun j hj => ?_) (by simp; omega) ?_
    · have := hn (p + j) (by omega) (by omega)
      unfold occAt at this ⊢
      rw [List.drop_drop]; exact this
    · unfold occAt at ho ⊢
      rw [List.drop_drop, show p + (k - p) = k by omega]; exact ho
  unfold findFrom
  rw [hi, if_neg (by omega)]; omega
theorem occAt_room {s t : List UInt8} {k : Nat} (h : occAt s t k = true) : t.length + k ≤ s.length ∨ t.length = 0 := by
  unfold occAt at h
  rw [List.isPrefixOf_iff_prefix] at h
  have := h.length_le
  rw [List.length_drop] at this
  omega
theorem findFrom_none (s t : ByteArray) (p k : Nat) (hk : ¬ k + t.size ≤ s.size) (hp : p ≤ s.size) (hpk : p ≤ k) (hn : ∀ j, p ≤ j → j < k → occAt s.data.toList t.data.toList j = false) : findFrom s t p = -1 := by
  have hl : s.data.toList.length = s.size := (size_eq s).symm
  have ht : t.data.toList.length = t.size := (size_eq t).symm
  have hi : index (s.data.toList.drop p) t.data.toList = -1 := by
    refine index_none (fun j hj => ?_)
    rw [List.length_drop] at hj
    have : occAt (s.data.toList.drop p) t.data.toList j = occAt s.data.toList t.data.toList (p + j) := by unfold occAt; rw [List.drop_drop]
    rw [this]
    by_cases h : p + j < k
    · exact hn _ (by omega) h
    · cases ho : occAt s.data.toList t.data.toList (p + j) with
      | false => rfl
      | true =>
        exfalso
        rcases occAt_room ho with h1 | h1
        · omega
        · omega
  unfold findFrom
  rw [hi]; rfl
set_option maxRecDepth 100000 in
theorem l3Find_any (s t : ByteArray) (p : Nat) (w : World) (hs : s.size ≤ 16777216) (ht : t.size ≤ 16777216) (hp : p ≤ s.size) :
    Calls Tryd.prog 63 #[.string s, .string t, .int .i64 p] w fun e w' => e = .returned (.int .i64 (findFrom s t p)) ∧ w' = w := by
  go_enter Tryd.func63, Tryd.ntmps63
  go_wp2
  go_loopw [7] (fun i wr => ∃ (k : Nat), p ≤ k ∧ k ≤ s.size + 1 ∧ i = .int .i64 k ∧ (∀ j, p ≤ j → j < k → occAt s.data.toList t.data.toList j = false) ∧ wr = w) (fun i _ => s.size + 1 - (intOf i).toNat)
  case atStart => exact ⟨p, Nat.le_refl _, by omega, rfl, fun j h1 h2 => by omega, rfl⟩
  case round =>
    obtain ⟨k, hpk, hk, rfl, hn, rfl⟩ := hrel
    have HN : Hid (∀ j, p ≤ j → j < k → occAt s.data.toList t.data.toList j = false) := hn
    clear hn
    have hwk := wrap_id' (a := (k : Int) + 1) (by omega) (by omega)
    have hwt := wrap_id' (a := (k : Int) + (t.size : Int)) (by omega) (by omega)
    by_cases hi : k + t.size ≤ s.size
    · have hiz : (k : Int) + (t.size : Int) ≤ (s.size : Int) := by omega
      cases ho : occAt s.data.toList t.data.toList k with
      | true =>
        have he : s.extract k (k + t.size) = t := (extract_eq_iff s t k hi).2 ho
        have hfin : findFrom s t p = (k : Int) := findFrom_here s t p k hpk (by omega) HN.out ho
        clear HN ho
        go_wp2
        go_ret
        first | exact ⟨rfl, rfl⟩ | exact ⟨by rw [hfin]; rfl, rfl⟩
      | false =>
        have he : ¬ s.extract k (k + t.size) = t := fun h => by
          have := (extract_eq_iff s t k hi).1 h
          rw [ho] at this; cases this
        have hb : ((s.extract k (k + t.size)).toList == t.toList) = false := by
          rw [beq_eq_false_iff_ne]
          intro h
          rw [Lib.toList_data, Lib.toList_data] at h
          exact he (ByteArray.ext (Array.toList_inj.1 h))
        have HN2 : Hid (∀ j, p ≤ j → j < k + 1 → occAt s.data.toList t.data.toList j = false) := fun j h1 h2 => by
          by_cases hj : j = k
          · rw [hj]; exact ho
          · exact HN.out j h1 (by omega)
        clear HN ho he
        go_wp2
        go_roundw
        case rel => exact ⟨k + 1, by omega, by omega, by go_num, HN2.out, trivial⟩
        case measure => first | (simp [intOf]; done) | (simp [intOf]; omega)
    · have hiz : ¬ (k : Int) + (t.size : Int) ≤ (s.size : Int) := by omega
      have hfin : findFrom s t p = -1 := findFrom_none s t p k hi hp hpk HN.out
      clear HN
      go_wp2
      go_ret
      exact ⟨rfl, rfl⟩
end Go.Proofs.YtakbmjndhejfpaaDoor
