import Derived.Test.YthgpacajeaphhaaDgD
import Derived.BigQuiet
namespace Go.Proofs.Ythgpacajeaphhaa
open Go.RowKit
set_option linter.unusedVariables false
set_option linter.unusedSimpArgs false

theorem below_dD {B : Nat} {a w : World} (h : Below B a w) (n : Nat) : Below B a (w.drewN n) := h.trans ⟨rfl, rfl, rfl, Nat.le_refl _, fun _ _ => rfl⟩
theorem bigD_any (w : World) (a : Option Addr) (n c : Nat) :
    Calls Try.prog 7 #[.slice a n c] w fun e w' => e = .returned (.bool (decide ((1048576 : Int) < (n : Int)))) ∧ w' = w := by
  go_enter Try.func7, Try.ntmps7
  go_wp2
  go_ret
  exact ⟨by simp, rfl⟩

set_option maxRecDepth 100000 in
set_option maxHeartbeats 1000000 in
theorem sameBig_any (p : Bool) (v u : Value) (xs : List Int) (w : World) (hx : Rd w v xs) (hy : Rd w u xs) :
    Calls Try.prog 11 #[.agg #[.bool p, v], .agg #[.bool p, u]] w fun e w' => e = .returned (.bool true) ∧ Below w.heap.size w w' := by
  obtain ⟨a1, c1, rfl, hl1, hz1, hn1, hc1⟩ := hx
  obtain ⟨a2, c2, rfl, hl2, hz2, hn2, hc2⟩ := hy
  go_enter Try.func11, Try.ntmps11
  go_wp2_with fail
  have bA := Box.new w (.bool p) (.slice a1 xs.length c1) 26
  have bW : Below w.heap.size w ((w.alloc (Obj.cells #[.bool p, .slice a1 xs.length c1] 26)).alloc (Obj.cells #[.bool p, .slice a2 xs.length c2] 26)) := ((Below.refl _ w).alloc (Nat.le_refl _) _).alloc (by simp) _
  have bB := Box.new (w.alloc (Obj.cells #[.bool p, .slice a1 xs.length c1] 26)) (.bool p) (.slice a2 xs.length c2) 26
  have bA2 := bA.alloc (Obj.cells #[.bool p, .slice a2 xs.length c2] 26)
  simp only [World.size_alloc] at bB
  generalize ((w.alloc (Obj.cells #[.bool p, .slice a1 xs.length c1] 26)).alloc (Obj.cells #[.bool p, .slice a2 xs.length c2] 26)) = W0 at *
  go_loopw [5] (fun i wr => ∃ k : Nat, k ≤ xs.length ∧ i = .int .i64 k ∧ Below W0.heap.size W0 wr) (fun i _ => xs.length - (RowKit.intOf i).toNat)
  case atStart => exact ⟨0, Nat.zero_le _, rfl, Below.refl _ _⟩
  case round =>
    obtain ⟨k, hk, rfl, hB⟩ := hrel
    obtain ⟨l1, q0, q1⟩ := bA2.keep hB
    obtain ⟨l2, r0, r1⟩ := bB.keep hB
    by_cases hlt : k < xs.length
    · obtain ⟨b1, o1, rfl, hb1, hd1⟩ := hc1 (by omega)
      obtain ⟨b2, o2, rfl, hb2, hd2⟩ := hc2 (by omega)
      have x1 := (hB.cell (p := ⟨b1, o1 + k, none⟩) (by have := bW.size; show b1 < _; omega)).trans ((bW.cell (p := ⟨b1, o1 + k, none⟩) hb1).trans (hd1 k hlt))
      have x2 := (hB.cell (p := ⟨b2, o2 + k, none⟩) (by have := bW.size; show b2 < _; omega)).trans ((bW.cell (p := ⟨b2, o2 + k, none⟩) hb2).trans (hd2 k hlt))
      generalize xs.getD k 0 = z at x1 x2
      clear hd1 hd2 hc1 hc2
      go_wp2_with fail
      go_quiet (fail)
      go_wp2_with fail
      go_roundw
      case rel => exact ⟨k + 1, by omega, by go_num, below_dD hB _⟩
      case measure => simp [RowKit.intOf]; omega
    · obtain rfl : k = xs.length := by omega
      go_wp2
      go_ret
      exact ⟨rfl, bW.trans (hB.mono bW.size)⟩


end Go.Proofs.Ythgpacajeaphhaa
