import Derived.Test.YtfcoffllelgakaaDoorOk
import Derived.Test.YtfcoffllelgakaaDoorNum
import Derived.Laws.MathBits
import Derived.Lib.Strings
import Derived.Lib.Small
import Derived.Lib.Walk
import Derived.Lib.BitFns
namespace Go.Proofs.YtfcoffllelgakaaDoor
open Go.RowKit
set_option linter.unusedVariables false
set_option linter.unusedSimpArgs false

theorem ret_int {k : IntKind} {a b : Int} (h : a = b) : Ending.returned (.int k a) = .returned (.int k b) := by rw [h]

theorem tab_size : Lib.len8tab.size = 256 := by decide +kernel
theorem tab_all : ∀ n : Fin 256, (Lib.len8tab[n.val]'(by rw [tab_size]; exact n.isLt)).toNat = Lib.bitLen n.val := by decide +kernel
theorem tab_at (b : Nat) (h : b < Lib.len8tab.size) : (Lib.len8tab[b]'h).toNat = Lib.bitLen b := tab_all ⟨b, by rw [tab_size] at h; exact h⟩
theorem bitLen_256 (b : Nat) (h : b < 256) : Lib.bitLen b ≤ 8 := Lib.bitLen_le8 ⟨b, h⟩

theorem fin24 (x : Int) (h0 : 0 ≤ x) (h1 : x ≤ 4294967295) (h2 : 65536 ≤ x) (h3 : 256 ≤ x / 65536) : wrap64 (24 + wrap64 (Lib.bitLen (x / 65536 / 256).toNat : Int)) = (Lib.bitLen x.toNat : Int) := by
  have e : (x / 65536 / 256).toNat = x.toNat / 16777216 := by omega
  have l := bitLen_256 (x.toNat / 16777216) (by omega)
  have s := Lib.bitLen_shift24 x.toNat (by omega) (by omega)
  rw [e, s]
  generalize Lib.bitLen (x.toNat / 16777216) = q at l
  simp only [wrap64]; omega
theorem fin16 (x : Int) (h0 : 0 ≤ x) (h1 : x ≤ 4294967295) (h2 : 65536 ≤ x) (h3 : x / 65536 < 256) : wrap64 (16 + wrap64 (Lib.bitLen (x / 65536).toNat : Int)) = (Lib.bitLen x.toNat : Int) := by
  have e : (x / 65536).toNat = x.toNat / 65536 := by omega
  have l := bitLen_256 (x.toNat / 65536) (by omega)
  have s := Lib.bitLen_shift16 x.toNat (by omega) (by omega)
  rw [e, s]
  generalize Lib.bitLen (x.toNat / 65536) = q at l
  simp only [wrap64]; omega
theorem fin8 (x : Int) (h0 : 0 ≤ x) (h1 : x ≤ 4294967295) (h2 : x < 65536) (h3 : 256 ≤ x) : wrap64 (8 + wrap64 (Lib.bitLen (x / 256).toNat : Int)) = (Lib.bitLen x.toNat : Int) := by
  have e : (x / 256).toNat = x.toNat / 256 := by omega
  have l := bitLen_256 (x.toNat / 256) (by omega)
  have s := Lib.bitLen_shift8 x.toNat (by omega) (by omega)
  rw [e, s]
  generalize Lib.bitLen (x.toNat / 256) = q at l
  simp only [wrap64]; omega
theorem fin0 (x : Int) (h0 : 0 ≤ x) (h3 : x < 256) : wrap64 (wrap64 (Lib.bitLen x.toNat : Int)) = (Lib.bitLen x.toNat : Int) := by
  have l := bitLen_256 x.toNat (by omega)
  generalize Lib.bitLen x.toNat = q at l
  simp only [wrap64]; omega

set_option maxHeartbeats 4000000 in
set_option maxRecDepth 100000 in
theorem len32_any (x : Int) (w : World) (h0 : 0 ≤ x) (h1 : x ≤ 4294967295) :
    Calls Tryd.prog 105 #[.int .u32 x] w fun e w' => e = .returned (.int .i64 (Lib.bitLen x.toNat)) ∧ w' = w := by
  have hsz : (256 : Int) ≤ Lib.len8tab.size := by rw [tab_size]; exact Int.le_refl _
  go_enter Tryd.func105, Tryd.ntmps105
  go_wp2
  all_goals (go_ret; refine ⟨congrArg Ending.returned (congrArg (Value.int IntKind.i64) ?_), rfl⟩)
  all_goals rw [tab_at]
  · exact fin24 x h0 h1 ‹_› ‹_›
  · exact fin16 x h0 h1 ‹_› ‹_›
  · exact fin8 x h0 h1 ‹_› ‹_›
  · exact fin0 x h0 ‹_›

theorem bitLen_half {n : Nat} (h : 0 < n) (h1 : n < 18446744073709551616) : Lib.bitLen n = 1 + Lib.bitLen (n / 2) := by
  by_cases e : n = 1
  · subst e; decide +kernel
  · have := Lib.bitLen_shift 1 n (by rw [Nat.pow_one]; omega) (Nat.lt_of_lt_of_le h1 (by decide))
    rwa [Nat.pow_one] at this
theorem bitLen_zero : Lib.bitLen 0 = 0 := by decide +kernel
theorem bitLen_32 (n : Nat) (h : n < 4294967296) : Lib.bitLen n ≤ 32 := by
  by_cases h1 : n < 256
  · have := bitLen_256 n h1; omega
  · by_cases h2 : n < 65536
    · rw [Lib.bitLen_shift8 n (by omega) (by omega)]; have := bitLen_256 (n / 256) (by omega); omega
    · by_cases h3 : n < 16777216
      · rw [Lib.bitLen_shift16 n (by omega) (by omega)]; have := bitLen_256 (n / 65536) (by omega); omega
      · rw [Lib.bitLen_shift24 n (by omega) (by omega)]; have := bitLen_256 (n / 16777216) (by omega); omega

theorem lz32_any (x : Int) (w : World) (h0 : 0 ≤ x) (h1 : x < 4294967296) :
    Calls Tryd.prog 98 #[.int .u32 x] w fun e w' => e = .returned (.int .i64 (32 - (Lib.bitLen x.toNat : Int))) ∧ w' = w := by
  have hl := bitLen_32 x.toNat (by omega)
  have hK := len32_any x w h0 (by omega)
  generalize Lib.bitLen x.toNat = l at hl hK ⊢
  go_enter Tryd.func98, Tryd.ntmps98
  go_wp2_with fail
  refine hK.mono ?_
  rintro e w1 ⟨rfl, rfl⟩
  clear hK
  go_wp2
  go_ret
  exact ⟨rfl, rfl⟩

/-- How many binary digits limbs have. -/
def bitsN (zs : List Int) : Int := if zs.length = 0 then 0 else 32 * ((zs.length : Int) - 1) + (Lib.bitLen (zs.getD (zs.length - 1) 0).toNat : Int)

set_option maxRecDepth 100000 in
theorem bitsMag_any (v : Value) (zs : List Int) (w : World) (hr : Rd w v zs) :
    Calls Tryd.prog 52 #[v] w fun e w' => e = .returned (.int .i64 (bitsN zs)) ∧ w' = w := by
  obtain ⟨a, cap, rfl, hl, hz, hn0, hc⟩ := hr
  by_cases h0 : zs.length = 0
  · have e0 : ((zs.length : Int) == 0) = true := by rw [h0]; rfl
    have HB : Hid (bitsN zs = 0) := by unfold bitsN; exact if_pos h0
    clear hc h0
    go_enter Tryd.func52, Tryd.ntmps52
    go_wp2
    go_ret
    exact ⟨by rw [HB.out]; rfl, rfl⟩
  · have e0 : ((zs.length : Int) == 0) = false := beq_len0 h0
    obtain ⟨b, off, rfl, hb, hcell⟩ := hc (by omega)
    have hce : w.cell? ⟨b, off + (zs.length - 1), none⟩ = some (.int .u32 (zs.getD (zs.length - 1) 0)) := hcell (zs.length - 1) (by omega)
    have hq := hz.get (zs.length - 1)
    have HB : Hid (bitsN zs = 32 * ((zs.length : Int) - 1) + (Lib.bitLen (zs.getD (zs.length - 1) 0).toNat : Int)) := by unfold bitsN; exact if_neg h0
    clear hc hcell h0
    generalize zs.getD (zs.length - 1) 0 = q at hce hq HB
    have hbl := bitLen_32 q.toNat (by omega)
    have hpos : 1 ≤ zs.length := by
      rcases Nat.eq_zero_or_pos zs.length with h | h
      · rw [h] at e0; cases e0
      · exact h
    generalize hlq : Lib.bitLen q.toNat = l at HB hbl
    go_enter Tryd.func52, Tryd.ntmps52
    go_wp2
    go_loop [4, 5] (fun k x => ∃ (j m : Nat), k = .int .i64 j ∧ x = .int .u32 m ∧ m < 4294967296 ∧ j + Lib.bitLen m = l) (fun _ x => (intOf x).toNat)
    case atStart => exact ⟨0, q.toNat, rfl, by rw [Int.toNat_of_nonneg hq.1], by omega, by omega⟩
    case round =>
      obtain ⟨j, m, rfl, rfl, hm, hj⟩ := hrel
      by_cases hm0 : m = 0
      · subst hm0
        rw [bitLen_zero] at hj
        clear hlq
        go_wp2
        go_ret
        refine ⟨?_, rfl⟩
        rw [HB.out]
        exact ret_int (by omega)
      · have hh := bitLen_half (n := m) (by omega) (by omega)
        have HJ : Hid (j + 1 + Lib.bitLen (m / 2) = l) := by show _ = _; omega
        have hj30 : j ≤ 32 := by omega
        clear hh hj hlq
        go_wp2
        go_round
        case rel => exact ⟨j + 1, m / 2, by go_num, by go_num, by omega, HJ.out⟩
        case measure => simp [intOf]; omega
end Go.Proofs.YtfcoffllelgakaaDoor
