import Derived.Test.YtkmbmbeglemocaaHelp
namespace Go.Proofs.Ytkmbmbeglemocaa
open Go.RowKit
set_option linter.unusedVariables false
set_option linter.unusedSimpArgs false

/-- A number's fields are well formed. -/
def okB (neg : Bool) (zs : List Int) : Bool := if zs.length = 0 then !neg else decide (zs.length ≤ 128) && decide (zs.getD (zs.length - 1) 0 ≠ 0)

theorem okB_nil {neg : Bool} {zs : List Int} (h : zs.length = 0) : okB neg zs = !neg := by unfold okB; rw [if_pos h]
theorem okB_le {neg : Bool} {zs : List Int} (h : ¬ zs.length = 0) (h1 : zs.length ≤ 128) : okB neg zs = (zs.getD (zs.length - 1) 0 != 0) := by
  unfold okB; rw [if_neg h, decide_eq_true h1, Bool.true_and]
  by_cases e : zs.getD (zs.length - 1) 0 = 0
  · rw [e]; rfl
  · rw [decide_eq_true e]; exact (bne_iff_ne.mpr e).symm
theorem okB_gt {neg : Bool} {zs : List Int} (h : ¬ zs.length = 0) (h1 : ¬ zs.length ≤ 128) : okB neg zs = false := by
  unfold okB; rw [if_neg h, decide_eq_false h1, Bool.false_and]

theorem bigOkS_any (neg : Bool) (v : Value) (zs : List Int) (w : World) (hr : Rd w v zs) :
    Calls Try.prog 17 #[.agg #[.bool neg, v]] w fun e w' => e = .returned (.bool (okB neg zs)) ∧ Below w.heap.size w w' := by
  obtain ⟨a, cap, rfl, hl, hz, hn0, hc⟩ := hr
  by_cases h0 : zs.length = 0
  · have e0 : ((zs.length : Int) == 0) = true := by rw [h0]; rfl
    have HO : Hid (okB neg zs = !neg) := okB_nil h0
    clear hc h0
    go_enter Try.func17, Try.ntmps17
    go_wp2
    go_ret
    exact ⟨by rw [HO.out]; rfl, (Below.refl _ _).alloc (Nat.le_refl _) _⟩
  · obtain ⟨b, off, rfl, hb, hcell⟩ := hc (by omega)
    have hce : w.cell? ⟨b, off + (zs.length - 1), none⟩ = some (.int .u32 (zs.getD (zs.length - 1) 0)) := hcell _ (by omega)
    have e0 : ((zs.length : Int) == 0) = false := beq_len0 h0
    by_cases h1 : zs.length ≤ 128
    · have HO : Hid (okB neg zs = (zs.getD (zs.length - 1) 0 != 0)) := okB_le h0 h1
      clear hcell hc
      generalize zs.getD (zs.length - 1) 0 = z at *
      go_enter Try.func17, Try.ntmps17
      go_wp2
      go_ret
      exact ⟨by rw [HO.out]; rfl, (Below.refl _ _).alloc (Nat.le_refl _) _⟩
    · have HO : Hid (okB neg zs = false) := okB_gt h0 h1
      clear hcell hc
      go_enter Try.func17, Try.ntmps17
      go_wp2
      go_ret
      exact ⟨by rw [HO.out]; rfl, (Below.refl _ _).alloc (Nat.le_refl _) _⟩

theorem bigOk_any (neg : Bool) (v : Value) (zs : List Int) (w : World) (hr : Rd w v zs) :
    Calls Try.prog 19 #[.agg #[.bool neg, v]] w fun e w' => e = .returned (.bool (okB neg zs)) ∧ Below w.heap.size w w' := by
  obtain ⟨a, cap, rfl, hl, hz, hn0, hc⟩ := hr
  by_cases h0 : zs.length = 0
  · have e0 : ((zs.length : Int) == 0) = true := by rw [h0]; rfl
    have HO : Hid (okB neg zs = !neg) := okB_nil h0
    clear hc h0
    go_enter Try.func19, Try.ntmps19
    go_wp2
    go_ret
    exact ⟨by rw [HO.out]; rfl, (Below.refl _ _).alloc (Nat.le_refl _) _⟩
  · obtain ⟨b, off, rfl, hb, hcell⟩ := hc (by omega)
    have hce : w.cell? ⟨b, off + (zs.length - 1), none⟩ = some (.int .u32 (zs.getD (zs.length - 1) 0)) := hcell _ (by omega)
    have e0 : ((zs.length : Int) == 0) = false := beq_len0 h0
    by_cases h1 : zs.length ≤ 128
    · have HO : Hid (okB neg zs = (zs.getD (zs.length - 1) 0 != 0)) := okB_le h0 h1
      clear hcell hc
      generalize zs.getD (zs.length - 1) 0 = z at *
      go_enter Try.func19, Try.ntmps19
      go_wp2
      go_ret
      exact ⟨by rw [HO.out]; rfl, (Below.refl _ _).alloc (Nat.le_refl _) _⟩
    · have HO : Hid (okB neg zs = false) := okB_gt h0 h1
      clear hcell hc
      go_enter Try.func19, Try.ntmps19
      go_wp2
      go_ret
      exact ⟨by rw [HO.out]; rfl, (Below.refl _ _).alloc (Nat.le_refl _) _⟩

set_option maxHeartbeats 1000000 in
theorem law_ok (neg : Bool) (a : Option Addr) (cap : Nat) (zs : List Int) (w : World) (hr : zs.length ≤ 1048576 → Rd w (.slice a zs.length cap) zs) (hl : zs.length ≤ 9223372036854775807) :
    Calls Try.prog 3 #[.agg #[.bool neg, .slice a zs.length cap]] w fun e w' => e = .returned (.bool true) ∧ Below w.heap.size w w' := by
  by_cases hbig : (1048576 : Int) < zs.length
  · go_enter Try.func3, Try.ntmps3
    go_wp2_with (go_at_call 16; refine (szBig_any _ _ _ _ _ _ hl (by omega) (by omega)).mono ?_; rw [if_pos hbig]; rintro e w1 ⟨rfl, hB1⟩)
    go_ret
    exact ⟨rfl, below_of_alloc hB1⟩
  · have hr0 : Rd w (.slice a zs.length cap) zs := hr (by omega)
    generalize hk : okB neg zs = ok
    have HK : Hid (okB neg zs = ok) := hk
    clear hk hr
    go_enter Try.func3, Try.ntmps3
    go_wp2_with fail
    refine (szBig_any _ _ _ _ _ _ hl (by omega) (by omega)).mono ?_
    rw [if_neg (by omega)]
    rintro e w1 ⟨rfl, hB1⟩
    have hx1 := (Box.new w (.bool neg) (.slice a zs.length cap) 24).keep hB1
    have hr1 := (hr0.alloc (Obj.cells #[Value.bool neg, Value.slice a zs.length cap] 24)).keep hB1
    have hW1 := below_of_alloc hB1
    clear hB1 hr0
    obtain ⟨hz1, p0, p1⟩ := hx1
    go_wp2_with fail
    refine (toBig_any _ _ zs _ hr1).mono ?_
    rintro e w2 ⟨a2, c2, rfl, hO2, hB2⟩
    have hx2 := Box.keep ⟨hz1, p0, p1⟩ hB2
    have hr2 := hr1.keep hB2
    have hW2 := hW1.trans (hB2.mono (Nat.le_of_lt hz1))
    clear hr1 hW1 hB2 hz1 p0 p1
    go_wp2_with fail
    refine (bigOkS_any _ _ zs _ hO2.rd).mono ?_
    rintro e w3 ⟨rfl, hB3⟩
    have hW3 := hW2.trans (hB3.mono (Nat.le_of_lt hx2.1))
    have hx3 := hx2.keep hB3
    have hr3 := hr2.keep hB3
    clear hr2 hW2 hB3 hO2 hx2
    obtain ⟨hz3, p0, p1⟩ := hx3
    rw [HK.out]
    go_wp2_with fail
    refine (toBig_any _ _ zs _ hr3).mono ?_
    rintro e w4 ⟨a4, c4, rfl, hO4, hB4⟩
    have hW4 := hW3.trans (hB4.mono (Nat.le_of_lt hz3))
    have hx4 := Box.keep ⟨hz3, p0, p1⟩ hB4
    have hr4 := hr3.keep hB4
    clear hr3 hW3 hB4 hz3 p0 p1
    go_wp2_with fail
    refine (bigOk_any _ _ zs _ (hO4.rd.alloc _)).mono ?_
    rintro e w5 ⟨rfl, hB5⟩
    have hr5 := (hr4.alloc (Obj.cells #[Value.bool neg, Value.slice a4 zs.length c4] 27)).keep hB5
    have hv5 := (hO4.rd.alloc (Obj.cells #[Value.bool neg, Value.slice a4 zs.length c4] 27)).keep hB5
    have hy5 := (Box.new w4 (.bool neg) (.slice a4 zs.length c4) 27).keep hB5
    have hx5 := (hx4.alloc (Obj.cells #[Value.bool neg, Value.slice a4 zs.length c4] 27)).keep hB5
    have hW5 := hW4.trans ((below_of_alloc hB5).mono (Nat.le_of_lt hx4.1))
    clear hr4 hW4 hB5 hO4 hx4
    have hx5' := hx5
    have hy5' := hy5
    obtain ⟨hz5, p0, p1⟩ := hx5
    obtain ⟨hz5', q0, q1⟩ := hy5
    rw [HK.out]
    go_wp2_with fail
    go_region_with (first | (go_at_call 18; refine (toBig_any _ _ zs _ hr5.drew).mono ?_; rintro e w6 ⟨a6, c6, rfl, hO6, hB6⟩; have hv6 := hv5.drew.keep hB6; obtain ⟨_, s0, s1⟩ := hy5'.drew.keep hB6; have hW6 := hW5.drew.trans (hB6.mono (Nat.le_of_lt hz5))) | (go_at_call 20; refine (eqBig_same _ _ _ zs _ hv6 hO6.rd).mono ?_; rintro e w7 ⟨rfl, hB7⟩))
    all_goals go_wp2
    all_goals go_ret
    all_goals exact ⟨rfl, hW6.trans (hB7.mono hW6.size)⟩
end Go.Proofs.Ytkmbmbeglemocaa
