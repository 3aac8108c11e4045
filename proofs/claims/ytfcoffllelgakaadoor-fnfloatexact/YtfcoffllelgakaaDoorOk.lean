import Derived.Test.YtfcoffllelgakaaDoorBase
namespace Go.Proofs.YtfcoffllelgakaaDoor
open Go.RowKit
set_option linter.unusedVariables false
set_option linter.unusedSimpArgs false

/-- A number's fields are well formed. -/
def okB (neg : Bool) (zs : List Int) : Bool := if zs.length = 0 then !neg else decide (zs.length ≤ 128) && decide (zs.getD (zs.length - 1) 0 ≠ 0)

theorem okB_nil {neg : Bool} {zs : List Int} (h : zs.length = 0) : okB neg zs = !neg := by unfold okB; rw [if_pos h]
theorem okB_le {neg : Bool} {zs : List Int} (h : ¬ zs.length = 0) (h1 : zs.length ≤ 128) : okB neg zs = (zs.getD (zs.length - 1) 0 != 0) := by
  unfold okB; rw [if_neg h, decide_eq_true h1, Bool.true_and]
  by_cases e : zs.getD (zs.length - 1) 0 = 0
  · rw [e]; rfl
  · rw [decide_eq_true e]; exact (bne_iff_ne.mpr e).symm
theorem okB_gt {neg : Bool} {zs : List Int} (h : ¬ zs.length = 0) (h1 : ¬ zs.length ≤ 128) : okB neg zs = false := by
  unfold okB; rw [if_neg h, decide_eq_false h1, Bool.false_and]

theorem bigOkS_any (neg : Bool) (v : Value) (zs : List Int) (w : World) (hr : Rd w v zs) :
    Calls Tryd.prog 23 #[.agg #[.bool neg, v]] w fun e w' => e = .returned (.bool (okB neg zs)) ∧ Below w.heap.size w w' := by
  obtain ⟨a, cap, rfl, hl, hz, hn0, hc⟩ := hr
  by_cases h0 : zs.length = 0
  · have e0 : ((zs.length : Int) == 0) = true := by rw [h0]; rfl
    have HO : Hid (okB neg zs = !neg) := okB_nil h0
    clear hc h0
    go_enter Tryd.func23, Tryd.ntmps23
    go_wp2
    go_ret
    exact ⟨by rw [HO.out]; rfl, (Below.refl _ _).alloc (Nat.le_refl _) _⟩
  · obtain ⟨b, off, rfl, hb, hcell⟩ := hc (by omega)
    have hce : w.cell? ⟨b, off + (zs.length - 1), none⟩ = some (.int .u32 (zs.getD (zs.length - 1) 0)) := hcell _ (by omega)
    have e0 : ((zs.length : Int) == 0) = false := beq_len0 h0
    by_cases h1 : zs.length ≤ 128
    · have HO : Hid (okB neg zs = (zs.getD (zs.length - 1) 0 != 0)) := okB_le h0 h1
      clear hcell hc
      generalize zs.getD (zs.length - 1) 0 = z at *
      go_enter Tryd.func23, Tryd.ntmps23
      go_wp2
      go_ret
      exact ⟨by rw [HO.out]; rfl, (Below.refl _ _).alloc (Nat.le_refl _) _⟩
    · have HO : Hid (okB neg zs = false) := okB_gt h0 h1
      clear hcell hc
      go_enter Tryd.func23, Tryd.ntmps23
      go_wp2
      go_ret
      exact ⟨by rw [HO.out]; rfl, (Below.refl _ _).alloc (Nat.le_refl _) _⟩

theorem bigOk_any (neg : Bool) (v : Value) (zs : List Int) (w : World) (hr : Rd w v zs) :
    Calls Tryd.prog 48 #[.agg #[.bool neg, v]] w fun e w' => e = .returned (.bool (okB neg zs)) ∧ Below w.heap.size w w' := by
  obtain ⟨a, cap, rfl, hl, hz, hn0, hc⟩ := hr
  by_cases h0 : zs.length = 0
  · have e0 : ((zs.length : Int) == 0) = true := by rw [h0]; rfl
    have HO : Hid (okB neg zs = !neg) := okB_nil h0
    clear hc h0
    go_enter Tryd.func48, Tryd.ntmps48
    go_wp2
    go_ret
    exact ⟨by rw [HO.out]; rfl, (Below.refl _ _).alloc (Nat.le_refl _) _⟩
  · obtain ⟨b, off, rfl, hb, hcell⟩ := hc (by omega)
    have hce : w.cell? ⟨b, off + (zs.length - 1), none⟩ = some (.int .u32 (zs.getD (zs.length - 1) 0)) := hcell _ (by omega)
    have e0 : ((zs.length : Int) == 0) = false := beq_len0 h0
    by_cases h1 : zs.length ≤ 128
    · have HO : Hid (okB neg zs = (zs.getD (zs.length - 1) 0 != 0)) := okB_le h0 h1
      clear hcell hc
      generalize zs.getD (zs.length - 1) 0 = z at *
      go_enter Tryd.func48, Tryd.ntmps48
      go_wp2
      go_ret
      exact ⟨by rw [HO.out]; rfl, (Below.refl _ _).alloc (Nat.le_refl _) _⟩
    · have HO : Hid (okB neg zs = false) := okB_gt h0 h1
      clear hcell hc
      go_enter Tryd.func48, Tryd.ntmps48
      go_wp2
      go_ret
      exact ⟨by rw [HO.out]; rfl, (Below.refl _ _).alloc (Nat.le_refl _) _⟩
end Go.Proofs.YtfcoffllelgakaaDoor
