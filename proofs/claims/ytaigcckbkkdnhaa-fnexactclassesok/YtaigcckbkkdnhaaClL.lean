import Derived.Test.YtaigcckbkkdnhaaClI
import Derived.Test.YtaigcckbkkdnhaaClZ
import Derived.Test.YtaigcckbkkdnhaaClT
import Derived.Test.YtaigcckbkkdnhaaClE
namespace Go.Proofs.Ytaigcckbkkdnhaa
open Go.RowKit
set_option linter.unusedVariables false
set_option linter.unusedSimpArgs false

set_option maxRecDepth 100000 in
set_option maxHeartbeats 1000000 in
theorem law_classesok (a : Option Addr) (c : Nat) (cs : List Cl) (w : World) (hr : UbC w (.slice a cs.length c) cs) :
    Calls Try.prog 3 #[.slice a cs.length c] w fun e w' => e = .returned (.bool true) ∧ Below w.heap.size w w' := by
  have HT := fun W g => toC_any (.slice a cs.length c) cs W g
  go_enter Try.func3, Try.ntmps3
  go_wp2_with fail
  refine (szC_any _ _ _ _ hr (by omega) (by omega)).mono ?_
  rintro e w1 ⟨x, rfl, hx, V1⟩
  rcases hx with rfl | ⟨hx0, hx1, g⟩
  · go_wp2
    go_ret
    exact ⟨rfl, V1⟩
  · have hxn : ¬ x < 0 := by omega
    clear hr
    go_wp2_with fail
    refine (HT _ (g.keep V1)).mono ?_
    rintro e w2 ⟨b0, d0, rfl, O2, hB2⟩
    have V2 := V1.trans (hB2.mono V1.size)
    have R2 := O2.rd
    clear O2 hB2
    go_wp2_with fail
    refine (okCS_any _ _ _ R2).mono ?_
    rintro e w3 ⟨rfl, hB3⟩
    have V3 := V2.trans (hB3.mono V2.size)
    clear hB3 R2
    generalize hR : dec (OkCs cs) = R
    have HR : Hid (dec (OkCs cs) = R) := hR
    clear hR
    go_wp2_with fail
    refine (HT _ (g.keep V3)).mono ?_
    rintro e w4 ⟨b1, d1, rfl, O4, hB4⟩
    have V4 := V3.trans (hB4.mono V3.size)
    have R4 := O4.rd
    clear O4 hB4
    go_wp2_with fail
    refine (okCI_any _ _ _ R4).mono ?_
    rintro e w5 ⟨rfl, hB5⟩
    rw [HR.out]
    have V5 := V4.trans (hB5.mono V4.size)
    have R5 := R4.keep hB5
    clear R4 hB5
    have hRR : (R == R) = true := by simp
    go_wp2_with fail
    refine (HT _ (g.keep V5)).mono ?_
    rintro e w6 ⟨b2, d2, rfl, O6, hB6⟩
    have V6 := V5.trans (hB6.mono V5.size)
    have R6 := O6.rd
    have R56 := R5.keep hB6
    clear O6 R5 hB6
    go_wp2_with fail
    refine (eqC_any _ _ _ _ R56 R6).mono ?_
    rintro e w7 ⟨rfl, hB7⟩
    have V7 := V6.trans (hB7.mono V6.size)
    go_wp2
    go_ret
    exact ⟨rfl, V7⟩
end Go.Proofs.Ytaigcckbkkdnhaa
