import Derived.Test.YtiihfaohdgkhaaaDoorJoinH
import Derived.Test.YtiihfaohdgkhaaaDoorJoinP
import Derived.Test.YtiihfaohdgkhaaaDoorTimesS
import Derived.Laws.BytesArg
namespace Go.Proofs.YtiihfaohdgkhaaaDoor
open Go.RowKit Go.Lib
set_option linter.unusedVariables false
set_option linter.unusedSimpArgs false

theorem bytes_backO (w : World) (B : Nat) (a : Option Addr) (co : Nat) (L : List UInt8) (n : Nat) (hn : n = L.length) (h : U8.Own w B (.slice a n co) (bz L)) :
    (convert 22 9 (.slice a n co)).run Tryd.prog w = .ok (.string ⟨L.toArray⟩) w := by
  rcases h.shape with ⟨hv, h0⟩ | ⟨g, cap, hv, _⟩
  · have hL : L = [] := by cases L with
      | nil => rfl
      | cons x r => simp [bz] at h0
    subst hL
    simp only [Value.slice.injEq] at hv
    obtain ⟨rfl, _, _⟩ := hv
    exact run_convert_bytes_nil (P := Tryd.prog) (w := w) 22 5 Tryd.underlying22 Tryd.underlying5 n co 9 Tryd.underlying9
  · simp only [Value.slice.injEq] at hv
    obtain ⟨rfl, _, _⟩ := hv
    exact bytes_back w B g co L n hn h
/-- The texts joined. -/
def jn (sep : ByteArray) (xs : List ByteArray) : List UInt8 := Lib.join (xs.map fun x => x.data.toList) sep.data.toList
theorem jn_take (sep : ByteArray) (xs : List ByteArray) (k : Nat) : (jn sep (xs.take k)).length ≤ (jn sep xs).length := by
  unfold jn; rw [List.map_take]; exact join_take_len _ _ _
theorem jn_first (sep : ByteArray) (xs : List ByteArray) (h : 0 < xs.length) : jn sep (xs.take 1) = (xs.getD 0 Str.Z).data.toList := by
  cases xs with
  | nil => simp at h
  | cons x r => simp [jn, join_one, List.getD]
theorem jn_next (sep : ByteArray) (xs : List ByteArray) (k : Nat) (hk : 0 < k) (h : k < xs.length) : jn sep (xs.take (k + 1)) = jn sep (xs.take k) ++ sep.data.toList ++ (xs.getD k Str.Z).data.toList := by
  unfold jn
  rw [List.take_add_one, List.getElem?_eq_getElem h, List.map_append]
  simp only [Option.toList, List.map_cons, List.map_nil]
  rw [join_snoc _ _ _ (by cases xs with | nil => simp at h | cons x r => cases k with | zero => omega | succ k => simp)]
  simp [List.getD, h]
/-- What the two joins answer. -/
def joinAns (sep : ByteArray) (xs : List ByteArray) : List UInt8 × Int :=
  if (textOf sep).isSome = true ∧ (xs.all fun x => (textOf x).isSome) = true then (if 16384 < (jn sep xs).length then ([], 3) else (jn sep xs, 0)) else ([], 1)
/-- Joined and brought to its size. -/
def fitJoin (sep : ByteArray) (xs : List ByteArray) : List UInt8 × Int := if 16384 < (jn sep xs).length then ([], 3) else (jn sep xs, 0)
theorem fit_of {sep : ByteArray} {xs : List ByteArray} {T : List UInt8} (h1 : (jn sep xs).length ≤ 16384 → T = jn sep xs) (h2 : 16384 < (jn sep xs).length → 16384 < T.length) : (if 16384 < T.length then [] else T) = (fitJoin sep xs).1 ∧ (if 16384 < T.length then 3 else 0) = (fitJoin sep xs).2 := by
  unfold fitJoin
  by_cases h : 16384 < (jn sep xs).length
  · rw [if_pos (h2 h), if_pos (h2 h), if_pos h]; exact ⟨rfl, rfl⟩
  · have := h1 (by omega)
    subst this
    rw [if_neg h, if_neg h, if_neg h]; exact ⟨rfl, rfl⟩
end Go.Proofs.YtiihfaohdgkhaaaDoor
