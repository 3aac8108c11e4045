import Derived.Test.YthgpacajeaphhaaLen
namespace Go.Proofs.Ythgpacajeaphhaa
open Go.RowKit
set_option linter.unusedVariables false
set_option linter.unusedSimpArgs false

set_option maxHeartbeats 4000000 in
set_option maxRecDepth 100000 in
theorem len64_any (x : Int) (w : World) (h0 : 0 ≤ x) (h1 : x ≤ 18446744073709551615) :
    Calls Try.prog 78 #[.int .u64 x] w fun e w' => e = .returned (.int .i64 (Lib.bitLen x.toNat)) ∧ w' = w := by
  have hsz : (256 : Int) ≤ Lib.len8tab.size := by rw [tab_size]; exact Int.le_refl _
  go_enter Try.func78, Try.ntmps78
  go_wp2
  all_goals (go_ret; refine ⟨congrArg Ending.returned (congrArg (Value.int IntKind.i64) ?_), rfl⟩)
  all_goals rw [tab_at]
  · have hd : (x / 4294967296 / 65536 / 256).toNat = x.toNat / 2 ^ 56 := by rw [show (2 : Nat) ^ 56 = 72057594037927936 from by decide]; omega
    have hr : (x / 4294967296 / 65536 / 256).toNat < 256 := by omega
    have hp : 1 ≤ (x / 4294967296 / 65536 / 256).toNat := by omega
    have hx : x.toNat < 2 ^ 64 := by rw [show (2 : Nat) ^ 64 = 18446744073709551616 from by decide]; omega
    clear hsz
    exact len64_fin x.toNat 56 _ hx hd hr hp (by omega)
  · have hd : (x / 4294967296 / 65536).toNat = x.toNat / 2 ^ 48 := by rw [show (2 : Nat) ^ 48 = 281474976710656 from by decide]; omega
    have hr : (x / 4294967296 / 65536).toNat < 256 := by omega
    have hp : 1 ≤ (x / 4294967296 / 65536).toNat := by omega
    have hx : x.toNat < 2 ^ 64 := by rw [show (2 : Nat) ^ 64 = 18446744073709551616 from by decide]; omega
    clear hsz
    exact len64_fin x.toNat 48 _ hx hd hr hp (by omega)
  · have hd : (x / 4294967296 / 256).toNat = x.toNat / 2 ^ 40 := by rw [show (2 : Nat) ^ 40 = 1099511627776 from by decide]; omega
    have hr : (x / 4294967296 / 256).toNat < 256 := by omega
    have hp : 1 ≤ (x / 4294967296 / 256).toNat := by omega
    have hx : x.toNat < 2 ^ 64 := by rw [show (2 : Nat) ^ 64 = 18446744073709551616 from by decide]; omega
    clear hsz
    exact len64_fin x.toNat 40 _ hx hd hr hp (by omega)
  · have hd : (x / 4294967296).toNat = x.toNat / 2 ^ 32 := by rw [show (2 : Nat) ^ 32 = 4294967296 from by decide]; omega
    have hr : (x / 4294967296).toNat < 256 := by omega
    have hp : 1 ≤ (x / 4294967296).toNat := by omega
    have hx : x.toNat < 2 ^ 64 := by rw [show (2 : Nat) ^ 64 = 18446744073709551616 from by decide]; omega
    clear hsz
    exact len64_fin x.toNat 32 _ hx hd hr hp (by omega)
  · have hd : (x / 65536 / 256).toNat = x.toNat / 2 ^ 24 := by rw [show (2 : Nat) ^ 24 = 16777216 from by decide]; omega
    have hr : (x / 65536 / 256).toNat < 256 := by omega
    have hp : 1 ≤ (x / 65536 / 256).toNat := by omega
    have hx : x.toNat < 2 ^ 64 := by rw [show (2 : Nat) ^ 64 = 18446744073709551616 from by decide]; omega
    clear hsz
    exact len64_fin x.toNat 24 _ hx hd hr hp (by omega)
  · have hd : (x / 65536).toNat = x.toNat / 2 ^ 16 := by rw [show (2 : Nat) ^ 16 = 65536 from by decide]; omega
    have hr : (x / 65536).toNat < 256 := by omega
    have hp : 1 ≤ (x / 65536).toNat := by omega
    have hx : x.toNat < 2 ^ 64 := by rw [show (2 : Nat) ^ 64 = 18446744073709551616 from by decide]; omega
    clear hsz
    exact len64_fin x.toNat 16 _ hx hd hr hp (by omega)
  · have hd : (x / 256).toNat = x.toNat / 2 ^ 8 := by rw [show (2 : Nat) ^ 8 = 256 from by decide]; omega
    have hr : (x / 256).toNat < 256 := by omega
    have hp : 1 ≤ (x / 256).toNat := by omega
    have hx : x.toNat < 2 ^ 64 := by rw [show (2 : Nat) ^ 64 = 18446744073709551616 from by decide]; omega
    clear hsz
    exact len64_fin x.toNat 8 _ hx hd hr hp (by omega)
  · exact fin0 x h0 ‹_›
end Go.Proofs.Ythgpacajeaphhaa
