import Derived.Test.YtfcoffllelgakaaDoorBits
namespace Go.Proofs.YtfcoffllelgakaaDoor
open Go.RowKit
set_option linter.unusedVariables false
set_option linter.unusedSimpArgs false

set_option maxRecDepth 100000 in
theorem bitLength_any (v : Value) (zs : List Int) (w : World) (hr : Rd w v zs) :
    Calls Tryd.prog 86 #[v] w fun e w' => e = .returned (.int .i64 (bitsN zs)) ∧ w' = w := by
  obtain ⟨a, cap, rfl, hl, hz, hn0, hc⟩ := hr
  by_cases h0 : zs.length = 0
  · have e0 : ((zs.length : Int) == 0) = true := by rw [h0]; rfl
    have HB : Hid (bitsN zs = 0) := by unfold bitsN; exact if_pos h0
    clear hc h0
    go_enter Tryd.func86, Tryd.ntmps86
    go_wp2
    go_ret
    exact ⟨by rw [HB.out]; rfl, rfl⟩
  · have e0 : ((zs.length : Int) == 0) = false := beq_len0 h0
    obtain ⟨b, off, rfl, hb, hcell⟩ := hc (by omega)
    have hce : w.cell? ⟨b, off + (zs.length - 1), none⟩ = some (.int .u32 (zs.getD (zs.length - 1) 0)) := hcell (zs.length - 1) (by omega)
    have hq := hz.get (zs.length - 1)
    have HB : Hid (bitsN zs = 32 * ((zs.length : Int) - 1) + (Lib.bitLen (zs.getD (zs.length - 1) 0).toNat : Int)) := by unfold bitsN; exact if_neg h0
    clear hc hcell h0
    generalize zs.getD (zs.length - 1) 0 = q at hce hq HB
    have hK := lz32_any q w hq.1 hq.2
    have hbl := bitLen_32 q.toNat (by omega)
    generalize Lib.bitLen q.toNat = l at hK HB hbl
    have hpos : 1 ≤ zs.length := by
      rcases Nat.eq_zero_or_pos zs.length with h | h
      · rw [h] at e0; cases e0
      · exact h
    go_enter Tryd.func86, Tryd.ntmps86
    go_wp2_with fail
    refine hK.mono ?_
    rintro e w1 ⟨rfl, rfl⟩
    clear hK
    go_wp2
    go_ret
    refine ⟨?_, rfl⟩
    rw [HB.out]
    exact ret_int (by omega)

end Go.Proofs.YtfcoffllelgakaaDoor
