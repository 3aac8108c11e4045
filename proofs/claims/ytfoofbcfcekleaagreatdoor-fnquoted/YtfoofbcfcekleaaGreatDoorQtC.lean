import Derived.Test.YtfoofbcfcekleaaGreatDoorQtB
import Derived.Test.YtfoofbcfcekleaaGreatDoorBaseH
import Derived.Deep.RegionHeld3
namespace Go.Proofs.YtfoofbcfcekleaaGreatDoor
open Go.RowKit Go.Lib
set_option linter.unusedVariables false
set_option linter.unusedSimpArgs false

theorem cell_obj {w : World} {b o : Nat} {c : Array Value} {t : TypeId} {v : Value} (h : w.heap[b]? = some (.cells c t (0, 0))) (hv : c[o]? = some v) : w.cell? ⟨b, o, none⟩ = some v := by
  unfold World.cell?
  simp [h, hv]
theorem frozen_obj {w : World} {b o : Nat} {c : Array Value} {t : TypeId} (h : w.heap[b]? = some (.cells c t (0, 0))) : w.frozen? ⟨b, o, none⟩ = false := by
  unfold World.frozen?
  simp [h]
theorem below_dq {B : Nat} {a w : World} (h : Below B a w) (n : Nat) : Below B a (w.drewN n) := h.trans ⟨rfl, rfl, rfl, Nat.le_refl _, fun _ _ => rfl⟩
/-- The scanner, in its first line, with no bracket and no indentation. -/
def Sc (w : World) (sb : Nat) (src : ByteArray) (at' : Nat) (tv : Value) : Prop :=
  ∃ arr : Array Value, w.heap[sb]? = some (.cells arr 58 (0, 0)) ∧ arr.size = 167 ∧ arr[0]? = some (.string src) ∧ arr[1]? = some (.int .i64 (at' : Nat)) ∧ arr[2]? = some (.int .i64 1) ∧ arr[3]? = some tv ∧ arr[124]? = some (.int .i64 0) ∧ arr[125]? = some (.int .i64 0) ∧ arr[166]? = some (.int .i64 0)
section
variable {w w' : World} {sb at' : Nat} {src : ByteArray} {tv : Value}
theorem Sc.lt (h : Sc w sb src at' tv) : sb < w.heap.size := by
  obtain ⟨arr, h1, _⟩ := h
  rcases Nat.lt_or_ge sb w.heap.size with k | k
  · exact k
  · rw [Array.getElem?_eq_none k] at h1; cases h1
theorem Sc.same (h : Sc w sb src at' tv) (hs : w'.heap[sb]? = w.heap[sb]?) : Sc w' sb src at' tv := by
  obtain ⟨arr, h1, r⟩ := h
  exact ⟨arr, hs.trans h1, r⟩
theorem Sc.keep (h : Sc w sb src at' tv) (hb : Below w.heap.size w w') : Sc w' sb src at' tv := h.same (hb.block sb h.lt)
theorem Sc.cells (h : Sc w sb src at' tv) : w.cell? ⟨sb, 0, none⟩ = some (.string src) ∧ w.cell? ⟨sb, 1, none⟩ = some (.int .i64 (at' : Nat)) ∧ w.cell? ⟨sb, 2, none⟩ = some (.int .i64 1) ∧ w.cell? ⟨sb, 3, none⟩ = some tv ∧ w.cell? ⟨sb, 124, none⟩ = some (.int .i64 0) ∧ w.cell? ⟨sb, 125, none⟩ = some (.int .i64 0) ∧ w.cell? ⟨sb, 166, none⟩ = some (.int .i64 0) ∧ ∀ o, w.frozen? ⟨sb, o, none⟩ = false := by
  obtain ⟨arr, h1, h2, a0, a1, a2, a3, a4, a5, a6⟩ := h
  exact ⟨cell_obj h1 a0, cell_obj h1 a1, cell_obj h1 a2, cell_obj h1 a3, cell_obj h1 a4, cell_obj h1 a5, cell_obj h1 a6, fun o => frozen_obj h1⟩
end
set_option maxRecDepth 100000 in
theorem endLine_any (sb : Nat) (src : ByteArray) (tv : Value) (w : World) (h : Sc w sb src src.size tv) :
    Calls Tryz.prog 29 #[.pointer (some ⟨sb, 0, none⟩)] w fun e w' => e = .returned (.tuple #[]) ∧ Below w.heap.size w w' := by
  obtain ⟨c0, c1, c2, c3, c4, c5, c6, cf⟩ := h.cells
  have hni : ¬ ((src.size : Int) < (src.size : Int)) := by omega
  clear h
  go_enter Tryz.func29, Tryz.ntmps29
  go_wp2
  go_region
  go_wp2
  go_end0
  exact ⟨rfl, (Below.refl _ _).drew⟩
set_option maxRecDepth 100000 in
theorem gapEnd_any (sb : Nat) (src : ByteArray) (tv : Value) (w : World) (h : Sc w sb src src.size tv) :
    Calls Tryz.prog 30 #[.pointer (some ⟨sb, 0, none⟩)] w fun e w' => e = .returned (.tuple #[.int .i64 0, .int .i64 0]) ∧ Below w.heap.size w w' := by
  obtain ⟨c0, c1, c2, c3, c4, c5, c6, cf⟩ := h.cells
  have hni : ¬ ((src.size : Int) < (src.size : Int)) := by omega
  clear h
  go_enter Tryz.func30, Tryz.ntmps30
  go_wp2
  go_step3
  go_wp2
  go_step3
  go_wp2
  refine wp_loop_rounds 1 ?_
  rw [rounds_succ]
  go_wp2
  go_region
  go_wp2
  simp only [Exit.noGoto]
  go_ret2
  exact ⟨rfl, (Below.refl _ _).drew⟩
set_option maxRecDepth 100000 in
theorem atEnd_any (sb : Nat) (src : ByteArray) (tv : Value) (w : World) (h : Sc w sb src src.size tv) :
    Calls Tryz.prog 31 #[.pointer (some ⟨sb, 0, none⟩)] w fun e w' => e = .returned (.bool true) ∧ Below w.heap.size w w' := by
  obtain ⟨c0, c1, c2, c3, c4, c5, c6, cf⟩ := h.cells
  clear h
  go_enter Tryz.func31, Tryz.ntmps31
  go_wp2
  go_quiet (fail)
  go_wp2
  go_ret
  exact ⟨rfl, below_dq (Below.refl _ _) _⟩
/-- A text that begins with a quote. -/
structure Qs (src : ByteArray) (Q : Int) : Prop where
  h0 : 0 < src.size
  at0 : ∃ b : UInt8, src[0]'h0 = b ∧ (b.toNat : Int) = Q
  q : Q = 39 ∨ Q = 34
  np : Lib.hasPrefix src.data.toList [92, 10] = false
  sz : src.size ≤ 16384
theorem ext_all (s : ByteArray) : s.extract 0 s.size = s := by
  have h := Lib.extract_to_end s 0
  rw [← Lib.mk_data (s.extract 0 s.size), h, List.drop_zero, Lib.mk_data]
set_option maxRecDepth 100000 in
theorem gapAt_any (sb : Nat) (src : ByteArray) (Q : Int) (tv : Value) (w : World) (h : Sc w sb src 0 tv) (hQ : Qs src Q) (hHP : HPc) :
    Calls Tryz.prog 30 #[.pointer (some ⟨sb, 0, none⟩)] w fun e w' => e = .returned (.tuple #[.int .i64 0, .int .i64 0]) ∧ Below w.heap.size w w' := by
  obtain ⟨c0, c1, c2, c3, c4, c5, c6, cf⟩ := h.cells
  obtain ⟨h0, ⟨b, hb0, hb1⟩, hq, hnp, hsz⟩ := hQ
  have hP := fun W => hHP src ⟨#[92, 10]⟩ W
  rw [show (⟨#[92, 10]⟩ : ByteArray).data.toList = [92, 10] from rfl, hnp] at hP
  have hE := ext_all src
  have hsi : (0 : Int) < (src.size : Int) := by omega
  have hn0 : ¬ ((src.size : Int) < 0) := by omega
  have k1 : (Q == 32) = false := by rw [beq_eq_false_iff_ne]; omega
  have k2 : (Q == 9) = false := by rw [beq_eq_false_iff_ne]; omega
  have k3 : (Q == 35) = false := by rw [beq_eq_false_iff_ne]; omega
  have k4 : (Q == 10) = false := by rw [beq_eq_false_iff_ne]; omega
  clear h hnp
  go_enter Tryz.func30, Tryz.ntmps30
  go_wp2
  go_step3
  go_wp2
  go_step3
  go_wp2
  refine wp_loop_rounds 1 ?_
  rw [rounds_succ]
  go_wp2
  go_region
  go_wp2
  go_region
  go_wp2_with fail
  refine (hP _).mono ?_
  rintro e W3 ⟨rfl, rfl⟩
  clear hP
  go_wp2
  simp only [Exit.noGoto]
  go_ret2
  exact ⟨rfl, (Below.refl _ _).drew.drew⟩
set_option maxRecDepth 100000 in
theorem atStart_any (sb : Nat) (src : ByteArray) (Q : Int) (tv : Value) (w : World) (h : Sc w sb src 0 tv) (hQ : Qs src Q) :
    Calls Tryz.prog 31 #[.pointer (some ⟨sb, 0, none⟩)] w fun e w' => e = .returned (.bool false) ∧ Below w.heap.size w w' := by
  obtain ⟨c0, c1, c2, c3, c4, c5, c6, cf⟩ := h.cells
  obtain ⟨h0, ⟨b, hb0, hb1⟩, hq, hnp, hsz⟩ := hQ
  have k0 : ((0 : Int) == (src.size : Int)) = false := by rw [beq_eq_false_iff_ne]; omega
  have k4 : (Q == 10) = false := by rw [beq_eq_false_iff_ne]; omega
  have hsi : (0 : Int) < (src.size : Int) := by omega
  clear h hnp
  go_enter Tryz.func31, Tryz.ntmps31
  go_wp2
  go_quiet (fail)
  go_wp2
  go_ret
  exact ⟨rfl, below_dq (Below.refl _ _) _⟩
set_option maxRecDepth 100000 in
theorem indent_any (sb : Nat) (src : ByteArray) (tv : Value) (at' : Nat) (w : World) (h : Sc w sb src at' tv) :
    Calls Tryz.prog 32 #[.pointer (some ⟨sb, 0, none⟩), .int .i64 0, .int .i64 0] w fun e w' => e = .returned (.int .i64 0) ∧ Below w.heap.size w w' := by
  obtain ⟨c0, c1, c2, c3, c4, c5, c6, cf⟩ := h.cells
  clear h
  go_enter Tryz.func32, Tryz.ntmps32
  go_wp2
  go_region
  go_wp2
  refine wp_loop_rounds 1 ?_
  rw [rounds_succ]
  go_wp2
  go_region
  go_wp2
  go_region
  go_wp2
  go_ret
  exact ⟨rfl, (Below.refl _ _).drew.drew.drew⟩
end Go.Proofs.YtfoofbcfcekleaaGreatDoor
