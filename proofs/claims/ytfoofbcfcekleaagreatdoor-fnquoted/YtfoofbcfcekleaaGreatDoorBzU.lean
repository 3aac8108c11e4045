import Derived.Test.YtfoofbcfcekleaaGreatDoorBaseU
import Derived.Test.YtfoofbcfcekleaaGreatDoorRuneB
import Derived.Laws.IdiomStrings
namespace Go.Proofs.YtfoofbcfcekleaaGreatDoor
open Go.RowKit Go.Lib
set_option linter.unusedVariables false
set_option linter.unusedSimpArgs false

theorem wrap64_id {a : Int} (h0 : 0 ≤ a) (h1 : a < 9223372036854775808) : IntKind.i64.wrap a = a := by
  simp [IntKind.wrap, IntKind.bits, IntKind.signed]; omega
/-- The bytes as numbers. -/
def bz (l : List UInt8) : List Int := l.map fun b => (b.toNat : Int)
theorem bz_limbs (l : List UInt8) : U8.Limbs (bz l) := fun z hz => by
  obtain ⟨b, _, rfl⟩ := List.mem_map.1 hz
  have := b.toNat_lt
  omega
theorem bz_getD (l : List UInt8) (k : Nat) (h : k < l.length) : (bz l).getD k 0 = (l[k].toNat : Int) := by
  simp [bz, List.getD, h]
theorem bz_snoc (l : List UInt8) (k : Nat) (h : k < l.length) (Y : Int) (hY : ((l.getD k 0).toNat : Int) = Y) : bz (l.take k) ++ [Y] = bz (l.take (k + 1)) := by
  have e : l.getD k 0 = l[k] := by simp [List.getD, h]
  rw [e] at hY
  rw [List.take_add_one, List.getElem?_eq_getElem h, ← hY]
  unfold bz
  rw [List.map_append]; rfl
theorem add_at (g j : Nat) : (⟨g, 0, none⟩ : Addr).add j = ⟨g, j, none⟩ := by
  unfold Addr.add
  by_cases h : j = 0
  · simp [h]
  · simp [h]
theorem bytes_back (w : World) (B g co : Nat) (L : List UInt8) (n : Nat) (hn : n = L.length) (h : U8.Own w B (.slice (some ⟨g, 0, none⟩) n co) (bz L)) :
    (convert 22 9 (.slice (some ⟨g, 0, none⟩) n co)).run Tryz.prog w = .ok (.string ⟨L.toArray⟩) w := by
  subst hn
  refine run_convert_bytes_back w 22 9 5 ⟨g, 0, none⟩ co L Tryz.underlying22 Tryz.underlying5 Tryz.underlying9 (fun j hj => ?_)
  rw [add_at]
  have := h.cell j (by simp [bz]; exact hj)
  rw [bz_getD L j hj] at this
  exact this
end Go.Proofs.YtfoofbcfcekleaaGreatDoor
