import Derived.Test.YtakbmjndhejfpaaDoorBaseS
import Derived.Test.YtakbmjndhejfpaaDoorFndS
import Derived.Test.YtakbmjndhejfpaaDoorRTok
import Derived.Lib.SplitLaws
import Derived.Lib.CountLaws
namespace Go.Proofs.YtakbmjndhejfpaaDoor
open Go.RowKit Go.Lib
set_option linter.unusedVariables false
set_option linter.unusedSimpArgs false

/-- The pieces of a split. -/
def splitAll (s sep : ByteArray) : List ByteArray := splitB sep 0 (countB s sep) s
theorem indexB_eq (s sep : ByteArray) : indexB s sep = index s.data.toList sep.data.toList := rfl
theorem ext_ext (s : ByteArray) (a b : Nat) (h : a + b ≤ s.size) : (s.extract a s.size).extract b (s.extract a s.size).size = s.extract (a + b) s.size := by
  apply ByteArray.ext
  apply Array.toList_inj.1
  rw [Lib.extract_to_end, Lib.extract_to_end, Lib.extract_to_end, List.drop_drop]
theorem ext_pre (s : ByteArray) (a b : Nat) (h : a + b ≤ s.size) : (s.extract a s.size).extract 0 b = s.extract a (a + b) := by
  apply ByteArray.ext
  apply Array.toList_inj.1
  rw [ByteArray.data_extract, Array.toList_extract, Lib.extract_to_end, ByteArray.data_extract, Array.toList_extract]
  simp [List.extract_eq_take_drop]
theorem split_miss (s sep : ByteArray) (p : Nat) (hp : p ≤ s.size) (h : findFrom s sep p = -1) : splitAll (s.extract p s.size) sep = [s.extract p s.size] := by
  unfold splitAll
  refine splitB_miss _ _ _ _ ?_
  rw [indexB_eq, Lib.extract_to_end]
  unfold findFrom at h
  have := index_ge (s.data.toList.drop p) sep.data.toList
  split at h
  · omega
  · omega
theorem split_hit (s sep : ByteArray) (p i : Nat) (hp : p ≤ s.size) (h1 : 1 ≤ sep.size) (h : index (s.data.toList.drop p) sep.data.toList = (i : Int)) (hr : p + i + sep.size ≤ s.size) : splitAll (s.extract p s.size) sep = s.extract p (p + i) :: splitAll (s.extract (p + i + sep.size) s.size) sep := by
  unfold splitAll
  have hi : indexB (s.extract p s.size) sep = (i : Int) := by rw [indexB_eq, Lib.extract_to_end]; exact h
  rw [countB_hit _ _ i h1 hi, Nat.add_comm 1, splitB_hit _ _ _ _ i hi, Nat.add_zero, ext_pre s p i (by omega)]
  rw [show p + i + sep.size = p + (i + sep.size) by omega, ← ext_ext s p (i + sep.size) (by omega)]
theorem find_spec (s t : ByteArray) (p : Nat) (hp : p ≤ s.size) : findFrom s t p = -1 ∨ ∃ i : Nat, index (s.data.toList.drop p) t.data.toList = (i : Int) ∧ findFrom s t p = ((p + i : Nat) : Int) ∧ p + i + t.size ≤ s.size := by
  have hl : s.data.toList.length = s.size := (size_eq s).symm
  have ht : t.data.toList.length = t.size := (size_eq t).symm
  rcases index_spec (s.data.toList.drop p) t.data.toList with ⟨h, _⟩ | ⟨i, h, hi, ho, _⟩
  · left; unfold findFrom; rw [h]; rfl
  · right
    have hro := index_room (s.data.toList.drop p) t.data.toList (by rw [h]; omega)
    rw [h, List.length_drop] at hro
    refine ⟨i, h, ?_, by omega⟩
    unfold findFrom; rw [h, if_neg (by omega)]; omega
set_option maxHeartbeats 1000000 in
set_option maxRecDepth 100000 in
theorem l3Split_any (s sep : ByteArray) (w : World) (hs : s.size ≤ 16384) (h1 : 1 ≤ sep.size) (h2 : sep.size ≤ 16384) :
    Calls Tryd.prog 35 #[.string s, .string sep] w fun e w' => ∃ a c, e = .returned (.slice a (splitAll s sep).length c) ∧ Str.Own w' w.heap.size (.slice a (splitAll s sep).length c) (splitAll s sep) ∧ Below w.heap.size w w' := by
  obtain ⟨A, hA⟩ : ∃ A, splitAll s sep = A := ⟨_, rfl⟩
  have HA : Hid ([] ++ splitAll (s.extract 0 s.size) sep = A) := by
    show _ = _
    rw [List.nil_append, show s.extract 0 s.size = s from by apply ByteArray.ext; simp, hA]
  rw [hA]
  clear hA
  go_enter Tryd.func35, Tryd.ntmps35
  go_wp2
  go_loopw [5, 6] (fun o i wr => ∃ (p : Nat) (X : List ByteArray) (ao : Option Addr) (co : Nat), p ≤ s.size ∧ X.length ≤ p ∧ X ++ splitAll (s.extract p s.size) sep = A ∧ i = .int .i64 p ∧ o = .slice ao X.length co ∧ Str.Own wr w.heap.size (.slice ao X.length co) X ∧ Below w.heap.size w wr) (fun _ i _ => s.size + 1 - (RowKit.intOf i).toNat)
  case atStart => exact ⟨0, [], _, _, by omega, by simp, HA.out, rfl, rfl, Str.Own.empty w, (Below.refl _ _).alloc (Nat.le_refl _) _⟩
  case round =>
    obtain ⟨p, X, ao, co, hp, hXl, hX, rfl, rfl, hOw, hBr⟩ := hrel
    have HX : Hid (X ++ splitAll (s.extract p s.size) sep = A) := hX
    clear hX
    have hF := fun W => l3Find_any s sep p W (by omega) (by omega) hp
    have hpz : (p : Int) ≤ (s.size : Int) := by omega
    rcases find_spec s sep p hp with hm | ⟨i, hi, hq, hr⟩
    · rw [hm] at hF
      have HN : Hid (X ++ [s.extract p s.size] = A) := by
        show _ = _
        rw [← split_miss s sep p hp hm]; exact HX.out
      clear hm HX
      go_wp2_with fail
      refine (hF _).mono ?_
      rintro e wr ⟨rfl, rfl⟩
      go_wp2_with ((at_builtin; (refine Str.wpList_append_rd rfl _ _ 22 rfl Tryd.underlying22 w.heap.size _ X (s.extract p s.size) rfl (hOw.alloc _) ⟨wr.heap.size, 0, none⟩ 1 rfl (by rw [show (⟨wr.heap.size, 0, none⟩ : Addr).add 0 = ⟨wr.heap.size, 0, none⟩ from rfl, World.cell?_alloc_at _ _ wr.heap.size 0 rfl]; rfl) (by omega) (by have := hBr.size; simp; omega) ?_; intro a1 c1 w1 hO1 hB1)))
      go_ret
      rw [HN.out] at hO1
      have hal : A.length = X.length + 1 := by rw [← HN.out]; simp
      exact ⟨a1, c1, by rw [hal]; rfl, hO1, (hBr.alloc hBr.size _).trans hB1⟩
    · rw [hq] at hF
      obtain ⟨q, hqe⟩ : ∃ q, p + i = q := ⟨_, rfl⟩
      rw [hqe] at hF hr
      have HN : Hid ((X ++ [s.extract p q]) ++ splitAll (s.extract (q + sep.size) s.size) sep = A) := by
        show _ = _
        rw [List.append_assoc, List.singleton_append, ← hqe, ← split_hit s sep p i hp h1 hi (by omega)]; exact HX.out
      have hqz : (q : Int) ≤ (s.size : Int) := by omega
      have hpq : (p : Int) ≤ (q : Int) := by omega
      have hq0 : ¬ (q : Int) < 0 := by omega
      have hwq := wrap_id' (a := (q : Int) + (sep.size : Int)) (by omega) (by omega)
      have hpq2 : p ≤ q := by omega
      clear hi hq hqe HX
      go_wp2_with fail
      refine (hF _).mono ?_
      rintro e wr ⟨rfl, rfl⟩
      go_wp2_with ((at_builtin; (refine Str.wpList_append_rd rfl _ _ 22 rfl Tryd.underlying22 w.heap.size _ X (s.extract p q) rfl (hOw.alloc _) ⟨wr.heap.size, 0, none⟩ 1 rfl (by rw [show (⟨wr.heap.size, 0, none⟩ : Addr).add 0 = ⟨wr.heap.size, 0, none⟩ from rfl, World.cell?_alloc_at _ _ wr.heap.size 0 rfl]; rfl) (by omega) (by have := hBr.size; simp; omega) ?_; intro a1 c1 w1 hO1 hB1)))
      have hB2 := (hBr.alloc hBr.size (Obj.cells #[.string (s.extract p q)] 9)).trans hB1
      go_roundw
      case rel => exact ⟨q + sep.size, X ++ [s.extract p q], a1, c1, by omega, by simp; omega, HN.out, by go_num, by simp, hO1, hB2⟩
      case measure => first | (simp [RowKit.intOf]; omega) | (simp [RowKit.intOf]; done)
end Go.Proofs.YtakbmjndhejfpaaDoor
