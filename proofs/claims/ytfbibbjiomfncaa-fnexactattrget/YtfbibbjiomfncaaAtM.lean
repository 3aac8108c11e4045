import Derived.Test.YtfbibbjiomfncaaAtJ
import Derived.Test.YtfbibbjiomfncaaClZ
import Derived.Test.YtfbibbjiomfncaaClT
import Derived.Test.YtfbibbjiomfncaaClE
namespace Go.Proofs.Ytfbibbjiomfncaa
open Go.RowKit
set_option linter.unusedVariables false
set_option linter.unusedSimpArgs false

set_option maxRecDepth 100000 in
set_option maxHeartbeats 2000000 in
theorem law_attrget (a : Option Addr) (c : Nat) (cs : List Cl) (cl : Int) (a2 : Option Addr) (c2 : Nat) (own : List At) (s : ByteArray) (w : World) (hcl : -9223372036854775808 ≤ cl ∧ cl ≤ 9223372036854775807) (hs : s.size ≤ maxLen) (hr : UbC w (.slice a cs.length c) cs) (ho : Ub w (.slice a2 own.length c2) own.length (RdA w (.slice a2 own.length c2) own)) :
    Calls Try.prog 6 #[.slice a cs.length c, .int .i64 cl, .slice a2 own.length c2, .string s] w fun e w' => e = .returned (.bool true) ∧ Below w.heap.size w w' := by
  have HT := fun W g => toC_any (.slice a cs.length c) cs W g
  have HTA := fun W g => toAS_any (.slice a2 own.length c2) own W g
  have hc0 : -9223372036854775808 ≤ cl := hcl.1
  have hc1 : cl < 9223372036854775808 := by omega
  have hs' : (s.size : Int) ≤ 9223372036854775807 := by unfold maxLen at hs; omega
  by_cases hbig : (1048576 : Int) < (s.size : Int)
  · go_enter Try.func6, Try.ntmps6
    go_wp2_with fail
    go_ret
    exact ⟨rfl, Below.refl _ _⟩
  have HCL : Hid (-9223372036854775808 ≤ cl ∧ cl < 9223372036854775808) := ⟨hc0, hc1⟩
  clear hc0 hc1 hcl
  go_enter Try.func6, Try.ntmps6
  go_wp2_with fail
  refine (szC_any _ _ _ _ hr (by omega) (by omega)).mono ?_
  rintro e w1 ⟨x, rfl, hx, V1⟩
  rcases hx with rfl | ⟨hx0, hx1, g⟩
  · go_wp2
    go_ret
    exact ⟨rfl, V1⟩
  have hxn : ¬ x < 0 := by omega
  have ho1 : Ub w1 (.slice a2 own.length c2) own.length (RdA w1 (.slice a2 own.length c2) own) := ho.keep (fun r => r.keep V1)
  clear hr
  go_wp2_with fail
  refine (szAS_any _ own _ _ ho1 hx0 hx1).mono ?_
  rintro e w2 ⟨y, rfl, hy, hB2⟩
  have V2 := V1.trans (hB2.mono V1.size)
  rcases hy with rfl | ⟨hy0, hy1, hol⟩
  · go_wp2
    go_ret
    exact ⟨rfl, V2⟩
  have hyn : ¬ y < 0 := by omega
  have go := ho.2.2 hol
  clear ho ho1 hB2
  go_wp2_with fail
  refine (HT _ (g.keep V2)).mono ?_
  rintro e w3 ⟨b0, d0, rfl, O3, hB3⟩
  have V3 := V2.trans (hB3.mono V2.size)
  have R3 := O3.rd
  clear O3 hB3
  go_wp2_with fail
  refine (HTA _ (go.keep V3)).mono ?_
  rintro e w4 ⟨b1, d1, rfl, O4, hB4⟩
  have V4 := V3.trans (hB4.mono V3.size)
  have R4 := O4.rd
  have R34 := R3.keep hB4
  clear O4 hB4 R3
  go_wp2_with fail
  refine (attrGetS_any _ _ cs cl own s _ R34 R4 HCL.out.1 HCL.out.2).mono ?_
  rintro e w5 ⟨rfl, hB5⟩
  have V5 := V4.trans (hB5.mono V4.size)
  generalize hA : agetA cs cl own s = A at *
  have HA : Hid (agetA cs cl own s = A) := hA
  clear hA hB5 R34 R4
  obtain ⟨A1, A2⟩ := A
  go_wp2_with fail
  refine (HT _ (g.keep V5)).mono ?_
  rintro e w6 ⟨b2, d2, rfl, O6, hB6⟩
  have V6 := V5.trans (hB6.mono V5.size)
  have R6 := O6.rd
  clear O6 hB6
  go_wp2_with fail
  refine (HTA _ (go.keep V6)).mono ?_
  rintro e w7 ⟨b3, d3, rfl, O7, hB7⟩
  have V7 := V6.trans (hB7.mono V6.size)
  have R7 := O7.rd
  have R67 := R6.keep hB7
  clear O7 hB7 R6
  go_wp2_with fail
  refine (attrGetI_any _ _ cs cl own s _ R67 R7 HCL.out.1 HCL.out.2).mono ?_
  rintro e w8 ⟨rfl, hB8⟩
  have V8 := V7.trans (hB8.mono V7.size)
  have R68 := R67.keep hB8
  have R78 := R7.keep hB8
  rw [HA.out]
  clear hB8 R67 R7
  have hAA : (A1 == A1) = true := by simp
  have hAA2 : (A2 == A2) = true := by simp
  go_wp2_with fail
  refine (HT _ (g.keep V8)).mono ?_
  rintro e w9 ⟨b4, d4, rfl, O9, hB9⟩
  have V9 := V8.trans (hB9.mono V8.size)
  have R9 := O9.rd
  have R69 := R68.keep hB9
  have R79 := R78.keep hB9
  clear O9 hB9 R68 R78
  go_wp2_with fail
  refine (eqC_any _ _ _ _ R69 R9).mono ?_
  rintro e wA ⟨rfl, hBA⟩
  have VA := V9.trans (hBA.mono V9.size)
  have R7A := R79.keep hBA
  clear hBA R79 R69 R9
  go_wp2_with fail
  refine (HTA _ (go.keep VA)).mono ?_
  rintro e wB ⟨b5, d5, rfl, OB, hBB⟩
  have VB := VA.trans (hBB.mono VA.size)
  have RB := OB.rd
  have R7B := R7A.keep hBB
  clear OB hBB R7A
  go_wp2_with fail
  refine (eqAS_any _ _ _ _ _ R7B RB).mono ?_
  rintro e wC ⟨rfl, hBC⟩
  rw [decide_eq_true rfl]
  have VC := VB.trans (hBC.mono VB.size)
  go_wp2
  go_ret
  exact ⟨rfl, VC⟩
end Go.Proofs.Ytfbibbjiomfncaa
