import Derived.Test.YtfoofbcfcekleaaGreatDoorRTok
import Derived.Test.YtfoofbcfcekleaaGreatDoorBzU
import Derived.Lib.Repeat
namespace Go.Proofs.YtfoofbcfcekleaaGreatDoor
open Go.RowKit Go.Lib
set_option linter.unusedVariables false
set_option linter.unusedSimpArgs false

/-- '[]byte(s)': what it reads as, and what it leaves alone. -/
theorem bytes_of (s : ByteArray) (w : World) (hs : s.size ≤ 16777216) : ∃ cap w', (convert 9 22 (.string s)).run Tryz.prog w = .ok (.slice (some ⟨w.heap.size, 0, none⟩) s.size cap) w' ∧
    U8.Rd w' (.slice (some ⟨w.heap.size, 0, none⟩) s.size cap) (bz s.data.toList) ∧ Below w.heap.size w w' ∧ ∀ B v xs, U8.Own w B v xs → U8.Own w' B v xs := by
  have hl : s.data.toList.length = s.size := (size_eq s).symm
  have hbl : (bz s.data.toList).length = s.size := by simp [bz]
  refine ⟨_, _, run_bytes_of_string w 9 22 5 s Tryz.underlying9 Tryz.underlying22 Tryz.underlying5, ?_, ((Below.refl _ _).drew).alloc (Nat.le_refl _) _, fun B v xs h => (h.drew).alloc _⟩
  refine ⟨some ⟨w.heap.size, 0, none⟩, grownCap w s.size 0 5, by rw [hbl], by omega, bz_limbs _, ⟨?_, fun h => by cases h⟩, fun h0 => ⟨w.heap.size, 0, rfl, by simp, fun k hk => ?_⟩⟩
  · rw [hbl]; exact grownCap_ge w s.size 0 5
  · rw [Nat.zero_add]
    have hk2 : k < s.data.size := by rw [hbl] at hk; exact hk
    have := World.cell?_alloc_mark w.drew (bytesRow s (grownCap w s.size 0 5)) 5 ((bytesRow s (grownCap w s.size 0 5)).size, (bytesRow s (grownCap w s.size 0 5)).size + 1) k
    rw [show w.drew.heap.size = w.heap.size from rfl] at this
    rw [this, bytesRow_at s _ k hk2, bz_getD _ k (by simpa using hk2)]
    rfl
/-- What TextTimes answers. -/
def timesAns (s : ByteArray) (n : Int) : List UInt8 × Int :=
  if (textOf s).isSome = true then (if s.size = 0 ∨ n < 1 then ([], 0) else if 16384 < n.toNat * s.size then ([], 3) else (repeatL s.data.toList n.toNat, 0)) else ([], 1)
theorem repeat_snoc (l : List UInt8) (k : Nat) : repeatL l k ++ l = repeatL l (k + 1) := by
  rw [repeatL_add l k 1, repeatL_one]
theorem repeat_len (s : ByteArray) (k : Nat) : (repeatL s.data.toList k).length = k * s.size := by rw [repeatL_length, ← size_eq]
theorem bz_append (a b : List UInt8) : bz (a ++ b) = bz a ++ bz b := by unfold bz; rw [List.map_append]
theorem bz_len (a : List UInt8) : (bz a).length = a.length := by simp [bz]
theorem text_fits' {s : ByteArray} (h : (textOf s).isSome = true) : s.size ≤ 16384 := by
  unfold textOf at h
  by_cases hs : s.size ≤ 16384
  · exact hs
  · rw [if_neg hs] at h; cases h
end Go.Proofs.YtfoofbcfcekleaaGreatDoor
