import Derived.Test.YtfbibbjiomfncaaDaC
namespace Go.Proofs.Ytfbibbjiomfncaa
open Go.RowKit Go.Lib
set_option linter.unusedVariables false
set_option linter.unusedSimpArgs false

theorem big_any (w : World) (a : Option Addr) (n c : Nat) : Calls Try.prog 33 #[.slice a n c] w fun e w' => e = .returned (.bool (decide ((1048576 : Int) < (n : Int)))) ∧ w' = w := by
  go_enter Try.func33, Try.ntmps33
  go_wp2
  go_ret
  exact ⟨rfl, rfl⟩
/-- What DrawAttrGet leaves. -/
def DGp (w : World) (e : Ending) (w' : World) : Prop := ∃ u cs cl v own s, e = .returned (.tuple #[u, .int .i64 cl, v, .string s]) ∧ RdC w' u cs ∧ cs.length ≤ 201 ∧ (-1 ≤ cl ∧ cl ≤ (cs.length : Int)) ∧ RdA w' v own ∧ own.length ≤ 4 ∧ s.size ≤ maxLen ∧ Below w.heap.size w w'

set_option maxRecDepth 100000 in
set_option maxHeartbeats 1000000 in
theorem drawAG_any (w : World) (a : Option Addr) (n c : Nat) (bs : List Int) (hs : Src w a n c bs) : Calls Try.prog 36 #[.slice a n c] w (DGp w) := by
  go_enter Try.func36, Try.ntmps36
  go_wp2_with fail
  refine (dr_open_any w a n c bs hs).mono ?_
  rintro e w1 ⟨g, rfl, hg, hR, hB1⟩
  have hbz : ∀ b off, 0 < n → a = some ⟨b, off, none⟩ → b < w1.heap.size := fun b off h0 e => by
    obtain ⟨b', off', e', hlt, _⟩ := hs.by_ h0
    rw [e'] at e
    simp only [Option.some.injEq, Addr.mk.injEq, and_true] at e
    have := hB1.size
    omega
  have hglt := hR.lt
  go_wp2_with fail
  refine (drawC_any w1 g a n c bs hR hbz).mono ?_
  rintro e w2 ⟨u, ps, cs, rfl, hC, hcl, hD2⟩
  obtain ⟨va, vc, ev⟩ := hC.rd.form
  subst ev
  obtain ⟨CN, hCN⟩ : ∃ CN, cs.length = CN := ⟨_, rfl⟩
  have HCN : Hid (cs.length = CN) := hCN
  rw [hCN] at hC hcl ⊢
  clear hCN
  have HB1 := dr_belowG_any w2 g a n c bs (CN + 1) (by omega) hD2.rd
  rw [show ((CN + 1 : Nat) : Int) = (CN : Int) + 1 by push_cast; rfl] at HB1
  have wN : IntKind.i64.wrap ((CN : Int) + 1) = (CN : Int) + 1 := by rw [IntKind.wrap_i64]; omega
  have wM : IntKind.i64.wrap ((CN : Int) - 1) = (CN : Int) - 1 := by rw [IntKind.wrap_i64]; omega
  go_wp2_with fail
  refine HB1.mono ?_
  rintro e w3 ⟨x, rfl, hx, hD3⟩
  have D3 := hD2.trans hD3
  have C3 := hC.but hD3.gb (fun q hq => by cases hq; exact hglt)
  have hxN : x ≤ CN := by omega
  clear hC hD2 hD3 HB1
  go_wp2_with fail
  refine (dr_once_any w3 g a n c bs 10 (by omega) (by omega) D3.rd).mono ?_
  rintro e w4 ⟨b, rfl, hD4⟩
  have D4 := D3.trans hD4
  have C4 := C3.but hD4.gb (fun q hq => by cases hq; exact hglt)
  clear C3 D3 hD4
  have bD : Below w4.heap.size w4 w4.drew := (Below.refl _ w4).drew
  have D4' := D4.below bD
  have C4' := C4.keep bD
  clear D4 C4
  have D4 := D4'
  have C4 := C4'
  clear D4' C4'
  have hg4 : g < w4.drew.heap.size := D4.rd.lt
  have HA := drawAttrs_any w4.drew g a n c bs D4.rd (fun b off h0 e => Nat.lt_of_lt_of_le (hbz b off h0 e) D4.gb.size)
  cases b
  · go_wp2_with fail
    go_region_with (first
      | (go_at_call 63; refine HA.mono ?_; rintro e w5 ⟨v, own, rfl, hol, OX, hD5⟩; have D5 := D4.trans hD5; have C5 := C4.but hD5.gb (fun q hq => (by cases hq; exact hglt)); obtain ⟨oa, oc, eo⟩ := OX.form; subst eo; have HB5 := dr_below_any w5 g a n c bs 5 (by omega) (by omega) D5.rd)
      | (go_at_call 61; refine HB5.mono ?_; rintro e w6 ⟨z, rfl, hz, hD6⟩; obtain ⟨s, hss, hcv⟩ := letter w6 z hz; have ui : IntKind.i64.wrap (97 + (z : Int)) = 97 + (z : Int) := (by rw [IntKind.wrap_i64]; omega); have ud : IntKind.u8.wrap (97 + (z : Int)) = 97 + (z : Int) := (by simp [IntKind.wrap, IntKind.bits, IntKind.signed]; omega)))
    all_goals
      have D6 := D5.trans hD6
      have C6 := C5.but hD6.gb (fun q hq => by cases hq; exact hglt)
      have O6 := OX.drawn hg4 hD6
      have bL : Below w6.heap.size w6 (w6.alloc (.cells #[.int .u8 (97 + (z : Int))] 5)) := (Below.refl _ w6).alloc (Nat.le_refl _) _
      have C7 := C6.keep bL
      have O7 := O6.keep bL
      have V7 : Below w.heap.size w (w6.alloc (.cells #[.int .u8 (97 + (z : Int))] 5)) := (hB1.trans (gb_to D6.gb (fun q hq => by cases hq; exact hg) hB1.size)).trans (bL.mono (Nat.le_trans hB1.size D6.gb.size))
      go_wp2_with fail
      exact bodyPost_ret (v := .tuple #[.slice va CN vc, .int .i64 ((CN : Int) - 1), .slice oa own.length oc, .string s]) (by simp [results, Try.results36, go_sem]) rfl ⟨_, cs, _, _, own, s, rfl, C7.rd, by rw [HCN.out]; exact hcl, by rw [HCN.out]; omega, O7.rd, hol, hss, V7⟩
  · go_wp2_with fail
    go_region_with (first
      | (go_at_call 63; refine HA.mono ?_; rintro e w5 ⟨v, own, rfl, hol, OX, hD5⟩; have D5 := D4.trans hD5; have C5 := C4.but hD5.gb (fun q hq => (by cases hq; exact hglt)); obtain ⟨oa, oc, eo⟩ := OX.form; subst eo; have HB5 := dr_below_any w5 g a n c bs 5 (by omega) (by omega) D5.rd)
      | (go_at_call 61; refine HB5.mono ?_; rintro e w6 ⟨z, rfl, hz, hD6⟩; obtain ⟨s, hss, hcv⟩ := letter w6 z hz; have ui : IntKind.i64.wrap (97 + (z : Int)) = 97 + (z : Int) := (by rw [IntKind.wrap_i64]; omega); have ud : IntKind.u8.wrap (97 + (z : Int)) = 97 + (z : Int) := (by simp [IntKind.wrap, IntKind.bits, IntKind.signed]; omega)))
    all_goals
      have D6 := D5.trans hD6
      have C6 := C5.but hD6.gb (fun q hq => by cases hq; exact hglt)
      have O6 := OX.drawn hg4 hD6
      have bL : Below w6.heap.size w6 (w6.alloc (.cells #[.int .u8 (97 + (z : Int))] 5)) := (Below.refl _ w6).alloc (Nat.le_refl _) _
      have C7 := C6.keep bL
      have O7 := O6.keep bL
      have V7 : Below w.heap.size w (w6.alloc (.cells #[.int .u8 (97 + (z : Int))] 5)) := (hB1.trans (gb_to D6.gb (fun q hq => by cases hq; exact hg) hB1.size)).trans (bL.mono (Nat.le_trans hB1.size D6.gb.size))
      go_wp2_with fail
      exact bodyPost_ret (v := .tuple #[.slice va CN vc, .int .i64 (x : Int), .slice oa own.length oc, .string s]) (by simp [results, Try.results36, go_sem]) rfl ⟨_, cs, _, _, own, s, rfl, C7.rd, by rw [HCN.out]; exact hcl, by rw [HCN.out]; omega, O7.rd, hol, hss, V7⟩
end Go.Proofs.Ytfbibbjiomfncaa
