import Derived.Test.YtahcpgldpbejiaaGreatDoorMzA
import Derived.Laws.MathBits
import Derived.Lib.Strings
import Derived.Lib.Small
import Derived.Lib.Walk
import Derived.Lib.BitFns
import Derived.Test.YtahcpgldpbejiaaGreatDoorMzB
import Derived.Deep.RegionHeld3
import Derived.Deep.LoopGhost
namespace Go.Proofs.YtahcpgldpbejiaaGreatDoor.Z
open Go.RowKit
set_option linter.unusedVariables false
set_option linter.unusedSimpArgs false

/-- A number's fields are well formed. -/
def okB (neg : Bool) (zs : List Int) : Bool := if zs.length = 0 then !neg else decide (zs.length ≤ 128) && decide (zs.getD (zs.length - 1) 0 ≠ 0)

theorem okB_nil {neg : Bool} {zs : List Int} (h : zs.length = 0) : okB neg zs = !neg := by unfold okB; rw [if_pos h]
theorem okB_le {neg : Bool} {zs : List Int} (h : ¬ zs.length = 0) (h1 : zs.length ≤ 128) : okB neg zs = (zs.getD (zs.length - 1) 0 != 0) := by
  unfold okB; rw [if_neg h, decide_eq_true h1, Bool.true_and]
  by_cases e : zs.getD (zs.length - 1) 0 = 0
  · rw [e]; rfl
  · rw [decide_eq_true e]; exact (bne_iff_ne.mpr e).symm
theorem okB_gt {neg : Bool} {zs : List Int} (h : ¬ zs.length = 0) (h1 : ¬ zs.length ≤ 128) : okB neg zs = false := by
  unfold okB; rw [if_neg h, decide_eq_false h1, Bool.false_and]

theorem bigOkS_any (neg : Bool) (v : Value) (zs : List Int) (w : World) (hr : Rd w v zs) :
    Calls Tryz.prog 20 #[.agg #[.bool neg, v]] w fun e w' => e = .returned (.bool (okB neg zs)) ∧ Below w.heap.size w w' := by
  obtain ⟨a, cap, rfl, hl, hz, hn0, hc⟩ := hr
  by_cases h0 : zs.length = 0
  · have e0 : ((zs.length : Int) == 0) = true := by rw [h0]; rfl
    have HO : Hid (okB neg zs = !neg) := okB_nil h0
    clear hc h0
    go_enter Tryz.func20, Tryz.ntmps20
    go_wp2
    go_ret
    exact ⟨by rw [HO.out]; rfl, (Below.refl _ _).alloc (Nat.le_refl _) _⟩
  · obtain ⟨b, off, rfl, hb, hcell⟩ := hc (by omega)
    have hce : w.cell? ⟨b, off + (zs.length - 1), none⟩ = some (.int .u32 (zs.getD (zs.length - 1) 0)) := hcell _ (by omega)
    have e0 : ((zs.length : Int) == 0) = false := beq_len0 h0
    by_cases h1 : zs.length ≤ 128
    · have HO : Hid (okB neg zs = (zs.getD (zs.length - 1) 0 != 0)) := okB_le h0 h1
      clear hcell hc
      generalize zs.getD (zs.length - 1) 0 = z at *
      go_enter Tryz.func20, Tryz.ntmps20
      go_wp2
      go_ret
      exact ⟨by rw [HO.out]; rfl, (Below.refl _ _).alloc (Nat.le_refl _) _⟩
    · have HO : Hid (okB neg zs = false) := okB_gt h0 h1
      clear hcell hc
      go_enter Tryz.func20, Tryz.ntmps20
      go_wp2
      go_ret
      exact ⟨by rw [HO.out]; rfl, (Below.refl _ _).alloc (Nat.le_refl _) _⟩

theorem bigOk_any (neg : Bool) (v : Value) (zs : List Int) (w : World) (hr : Rd w v zs) :
    Calls Tryz.prog 38 #[.agg #[.bool neg, v]] w fun e w' => e = .returned (.bool (okB neg zs)) ∧ Below w.heap.size w w' := by
  obtain ⟨a, cap, rfl, hl, hz, hn0, hc⟩ := hr
  by_cases h0 : zs.length = 0
  · have e0 : ((zs.length : Int) == 0) = true := by rw [h0]; rfl
    have HO : Hid (okB neg zs = !neg) := okB_nil h0
    clear hc h0
    go_enter Tryz.func38, Tryz.ntmps38
    go_wp2
    go_ret
    exact ⟨by rw [HO.out]; rfl, (Below.refl _ _).alloc (Nat.le_refl _) _⟩
  · obtain ⟨b, off, rfl, hb, hcell⟩ := hc (by omega)
    have hce : w.cell? ⟨b, off + (zs.length - 1), none⟩ = some (.int .u32 (zs.getD (zs.length - 1) 0)) := hcell _ (by omega)
    have e0 : ((zs.length : Int) == 0) = false := beq_len0 h0
    by_cases h1 : zs.length ≤ 128
    · have HO : Hid (okB neg zs = (zs.getD (zs.length - 1) 0 != 0)) := okB_le h0 h1
      clear hcell hc
      generalize zs.getD (zs.length - 1) 0 = z at *
      go_enter Tryz.func38, Tryz.ntmps38
      go_wp2
      go_ret
      exact ⟨by rw [HO.out]; rfl, (Below.refl _ _).alloc (Nat.le_refl _) _⟩
    · have HO : Hid (okB neg zs = false) := okB_gt h0 h1
      clear hcell hc
      go_enter Tryz.func38, Tryz.ntmps38
      go_wp2
      go_ret
      exact ⟨by rw [HO.out]; rfl, (Below.refl _ _).alloc (Nat.le_refl _) _⟩
end Go.Proofs.YtahcpgldpbejiaaGreatDoor.Z

namespace Go.Proofs.YtahcpgldpbejiaaGreatDoor.Z
open Go.RowKit
set_option linter.unusedVariables false
set_option linter.unusedSimpArgs false

theorem ret_int {k : IntKind} {a b : Int} (h : a = b) : Ending.returned (.int k a) = .returned (.int k b) := by rw [h]

theorem tab_size : Lib.len8tab.size = 256 := by decide +kernel
theorem tab_all : ∀ n : Fin 256, (Lib.len8tab[n.val]'(by rw [tab_size]; exact n.isLt)).toNat = Lib.bitLen n.val := by decide +kernel
theorem tab_at (b : Nat) (h : b < Lib.len8tab.size) : (Lib.len8tab[b]'h).toNat = Lib.bitLen b := tab_all ⟨b, by rw [tab_size] at h; exact h⟩
theorem bitLen_256 (b : Nat) (h : b < 256) : Lib.bitLen b ≤ 8 := Lib.bitLen_le8 ⟨b, h⟩

theorem fin24 (x : Int) (h0 : 0 ≤ x) (h1 : x ≤ 4294967295) (h2 : 65536 ≤ x) (h3 : 256 ≤ x / 65536) : wrap64 (24 + wrap64 (Lib.bitLen (x / 65536 / 256).toNat : Int)) = (Lib.bitLen x.toNat : Int) := by
  have e : (x / 65536 / 256).toNat = x.toNat / 16777216 := by omega
  have l := bitLen_256 (x.toNat / 16777216) (by omega)
  have s := Lib.bitLen_shift24 x.toNat (by omega) (by omega)
  rw [e, s]
  generalize Lib.bitLen (x.toNat / 16777216) = q at l
  simp only [wrap64]; omega
theorem fin16 (x : Int) (h0 : 0 ≤ x) (h1 : x ≤ 4294967295) (h2 : 65536 ≤ x) (h3 : x / 65536 < 256) : wrap64 (16 + wrap64 (Lib.bitLen (x / 65536).toNat : Int)) = (Lib.bitLen x.toNat : Int) := by
  have e : (x / 65536).toNat = x.toNat / 65536 := by omega
  have l := bitLen_256 (x.toNat / 65536) (by omega)
  have s := Lib.bitLen_shift16 x.toNat (by omega) (by omega)
  rw [e, s]
  generalize Lib.bitLen (x.toNat / 65536) = q at l
  simp only [wrap64]; omega
theorem fin8 (x : Int) (h0 : 0 ≤ x) (h1 : x ≤ 4294967295) (h2 : x < 65536) (h3 : 256 ≤ x) : wrap64 (8 + wrap64 (Lib.bitLen (x / 256).toNat : Int)) = (Lib.bitLen x.toNat : Int) := by
  have e : (x / 256).toNat = x.toNat / 256 := by omega
  have l := bitLen_256 (x.toNat / 256) (by omega)
  have s := Lib.bitLen_shift8 x.toNat (by omega) (by omega)
  rw [e, s]
  generalize Lib.bitLen (x.toNat / 256) = q at l
  simp only [wrap64]; omega
theorem fin0 (x : Int) (h0 : 0 ≤ x) (h3 : x < 256) : wrap64 (wrap64 (Lib.bitLen x.toNat : Int)) = (Lib.bitLen x.toNat : Int) := by
  have l := bitLen_256 x.toNat (by omega)
  generalize Lib.bitLen x.toNat = q at l
  simp only [wrap64]; omega

theorem bitLen_half {n : Nat} (h : 0 < n) (h1 : n < 18446744073709551616) : Lib.bitLen n = 1 + Lib.bitLen (n / 2) := by
  by_cases e : n = 1
  · subst e; decide +kernel
  · have := Lib.bitLen_shift 1 n (by rw [Nat.pow_one]; omega) (Nat.lt_of_lt_of_le h1 (by decide))
    rwa [Nat.pow_one] at this
theorem bitLen_zero : Lib.bitLen 0 = 0 := by decide +kernel
theorem bitLen_32 (n : Nat) (h : n < 4294967296) : Lib.bitLen n ≤ 32 := by
  by_cases h1 : n < 256
  · have := bitLen_256 n h1; omega
  · by_cases h2 : n < 65536
    · rw [Lib.bitLen_shift8 n (by omega) (by omega)]; have := bitLen_256 (n / 256) (by omega); omega
    · by_cases h3 : n < 16777216
      · rw [Lib.bitLen_shift16 n (by omega) (by omega)]; have := bitLen_256 (n / 65536) (by omega); omega
      · rw [Lib.bitLen_shift24 n (by omega) (by omega)]; have := bitLen_256 (n / 16777216) (by omega); omega

/-- How many binary digits limbs have. -/
def bitsN (zs : List Int) : Int := if zs.length = 0 then 0 else 32 * ((zs.length : Int) - 1) + (Lib.bitLen (zs.getD (zs.length - 1) 0).toNat : Int)

end Go.Proofs.YtahcpgldpbejiaaGreatDoor.Z

namespace Go.Proofs.YtahcpgldpbejiaaGreatDoor.Z
open Go.RowKit
set_option linter.unusedVariables false
set_option linter.unusedSimpArgs false

theorem bl_shift (k x : Nat) (h : 2 ^ k ≤ x) (hx : x < 2 ^ 64) : Lib.bitLen x = k + Lib.bitLen (x / 2 ^ k) := Lib.bitLen_shift k x h hx

theorem len64_fin (n k m : Nat) (hn : n < 2 ^ 64) (hm : m = n / 2 ^ k) (h1 : m < 256) (hpos : 1 ≤ m) (hk : k ≤ 56) :
    wrap64 ((k : Int) + wrap64 (Lib.bitLen m : Int)) = (Lib.bitLen n : Int) := by
  have l := bitLen_256 m h1
  have hle : 2 ^ k ≤ n := by
    rcases Nat.lt_or_ge n (2 ^ k) with h | h
    · rw [Nat.div_eq_of_lt h] at hm; omega
    · exact h
  rw [bl_shift k n hle hn, ← hm]
  generalize Lib.bitLen m = q at l
  simp only [wrap64]; omega

/-- A number has its binary digits. -/
theorem bitLen_low (n : Nat) (h0 : 0 < n) (h1 : n < 18446744073709551616) : 2 ^ Lib.bitLen n ≤ 2 * n := by
  induction n using Nat.strongRecOn with
  | _ n ih =>
    rw [bitLen_half h0 h1]
    by_cases h2 : n / 2 = 0
    · rw [h2, bitLen_zero]; omega
    · have := ih (n / 2) (by omega) (by omega) (by omega)
      rw [Nat.pow_add, Nat.pow_one]; omega
theorem bitLen_high (n : Nat) (h1 : n < 18446744073709551616) : n < 2 ^ Lib.bitLen n := by
  induction n using Nat.strongRecOn with
  | _ n ih =>
    by_cases h0 : n = 0
    · subst h0; rw [bitLen_zero]; decide
    · rw [bitLen_half (by omega) h1]
      have := ih (n / 2) (by omega) (by omega)
      rw [Nat.pow_add, Nat.pow_one]; omega
end Go.Proofs.YtahcpgldpbejiaaGreatDoor.Z

namespace Go.Proofs.YtahcpgldpbejiaaGreatDoor.Z
open Go.RowKit
set_option linter.unusedVariables false
set_option linter.unusedSimpArgs false

/-- A block of which no cell is frozen. -/
def Unf (w : World) (b : Nat) : Prop := b < w.heap.size ∧ ∀ o, w.frozen? ⟨b, o, none⟩ = false
theorem Unf.keep {w w' : World} {b : Nat} (h : Unf w b) (hb : Below w.heap.size w w') : Unf w' b := ⟨Nat.lt_of_lt_of_le h.1 hb.size, fun o => (hb.frozen (p := ⟨b, o, none⟩) h.1).trans (h.2 o)⟩
theorem Unf.new (w : World) (cs : Array Value) (t : TypeId) : Unf (w.alloc (.cells cs t)) w.heap.size := ⟨by simp, fun o => World.frozen?_alloc_at _ _ _ _ (by simp)⟩
theorem Unf.drew {w : World} {b : Nat} (h : Unf w b) : Unf w.drew b := h.keep (Below.refl _ _).drew

/-- The sign that a number of absolute value n bears. -/
def nz (neg : Bool) (n : Nat) : Bool := neg && decide (0 < n)
theorem nz_len (neg : Bool) (n : Nat) : nz neg n = (neg && decide (0 < ((lim n).length : Int))) := by
  unfold nz
  congr 1
  by_cases h : n = 0
  · subst h; rw [lim_zero]; rfl
  · have : (lim n).length ≠ 0 := fun e => h (lim_eq_nil.mp (List.length_eq_zero_iff.mp e))
    rw [decide_eq_true (by omega), decide_eq_true (by omega)]

set_option maxRecDepth 100000 in
theorem l1Big_any (neg : Bool) (v : Value) (zs : List Int) (w : World) (hr : Rd w v zs) :
    Calls Tryz.prog 84 #[.bool neg, v] w fun e w' => ∃ a c, e = .returned (.agg #[.bool (nz neg (val zs)), .slice a (lim (val zs)).length c]) ∧ Own w' w.heap.size (.slice a (lim (val zs)).length c) (lim (val zs)) ∧ Below w.heap.size w w' := by
  have hT := trimS_any v zs (w.alloc (Obj.cells #[.bool false, .slice none 0 0] 30)) (hr.alloc _)
  rw [nz_len]
  generalize lim (val zs) = L at hT ⊢
  obtain ⟨a, cap, rfl, hl, hz, hn0, hc⟩ := hr
  clear hc
  go_enter Tryz.func84, Tryz.ntmps84
  go_wp2_with fail
  refine hT.mono ?_
  rintro e w1 ⟨a1, c1, rfl, hO, hB⟩
  clear hT
  have hbx := (Box.new w (.bool false) (.slice none 0 0) 30).keep hB
  obtain ⟨hz1, p0, p1⟩ := hbx
  obtain ⟨_, hf1⟩ := bcell hB
  cases neg with
  | true =>
    go_wp2
    refine bodyPost_ret (v := .agg #[.bool (decide (0 < (L.length : Int))), .slice a1 L.length c1]) (by simp [results, Tryz.results84, go_sem, p0, p1, hz1]) rfl ⟨a1, c1, by simp, ?_, ?_⟩
    · exact (((hO.setBelow (by simp) _).setBelow (by simp) _)).mono (by simp)
    · exact ((below_of_alloc hB).setCell (by simp) _).setCell (by simp) _
  | false =>
    go_wp2
    refine bodyPost_ret (v := .agg #[.bool false, .slice a1 L.length c1]) (by simp [results, Tryz.results84, go_sem, p0, p1, hz1]) rfl ⟨a1, c1, by simp, ?_, ?_⟩
    · exact (((hO.setBelow (by simp) _).setBelow (by simp) _)).mono (by simp)
    · exact ((below_of_alloc hB).setCell (by simp) _).setCell (by simp) _

theorem wrap_neg {x : Int} (h0 : -9223372036854775808 ≤ x) (hx : x < 0) : IntKind.u64.wrap (-IntKind.u64.wrap x) = -x := by
  simp only [IntKind.wrap_u64]; omega
theorem wrap_pos {x : Int} (h1 : x ≤ 9223372036854775807) (hx : ¬ x < 0) : IntKind.u64.wrap x = x := by
  simp only [IntKind.wrap_u64]; omega
theorem low32 {u : Int} (h0 : 0 ≤ u) (h1 : u ≤ 18446744073709551615) : bits .and .u64 u 4294967295 % 4294967296 = u % 4294967296 := by
  rw [and_low32 u h0 (by omega)]; omega
theorem val_two {u : Int} (h0 : 0 ≤ u) (h1 : u ≤ 18446744073709551615) : val [u % 4294967296, u / 4294967296 % 4294967296] = u.natAbs := by
  simp only [val]; omega

theorem val_two2 {u : Int} (h0 : 0 ≤ u) (h1 : u ≤ 18446744073709551615) : val [u % 4294967296, u / 4294967296] = u.natAbs := by
  simp only [val]; omega

set_option maxRecDepth 100000 in
theorem bigOfS_any (x : Int) (w : World) (h0 : -9223372036854775808 ≤ x) (h1 : x ≤ 9223372036854775807) :
    Calls Tryz.prog 62 #[.int .i64 x] w fun e w' => ∃ a c, e = .returned (.agg #[.bool (decide (x < 0)), .slice a (lim x.natAbs).length c]) ∧ Own w' w.heap.size (.slice a (lim x.natAbs).length c) (lim x.natAbs) ∧ Below w.heap.size w w' := by
  by_cases hx : x < 0
  · have hK := fun W v hr => l1Big_any true v [(-x) % 4294967296, (-x) / 4294967296 % 4294967296] W hr
    rw [val_two (by omega) (by omega), show (-x).natAbs = x.natAbs from by omega, show nz true x.natAbs = true from by unfold nz; simp; omega] at hK
    rw [show decide (x < 0) = true from by simpa using hx]
    generalize lim x.natAbs = L at hK ⊢
    have hK := hK _ _ (Rd.two (w.alloc (Obj.cells #[.bool false, .slice none 0 0] 30)) (w.heap.size + 1) (by simp) (by omega) (by omega) (by omega) (by omega))
    go_enter Tryz.func62, Tryz.ntmps62
    go_wp2_with fail
    rw [wrap_neg h0 hx, low32 (by omega) (by omega)]
    refine hK.mono ?_
    rintro e w1 ⟨a1, c1, rfl, hO, hB⟩
    obtain ⟨hz1, p0, p1⟩ := ((Box.new w (.bool false) (.slice none 0 0) 30).alloc _).keep hB
    obtain ⟨_, hf1⟩ := bcell hB
    clear hK
    go_wp2
    refine bodyPost_ret (v := .agg #[.bool true, .slice a1 L.length c1]) (by simp [results, Tryz.results62, go_sem, p0, p1, hz1]) rfl ⟨a1, c1, rfl, ?_, ?_⟩
    · exact (((hO.setBelow (by simp; omega) _).setBelow (by simp; omega) _)).mono (by simp; omega)
    · exact ((below_of_alloc (below_of_alloc hB)).setCell (by simp) _).setCell (by simp) _
  · have hK := fun W v hr => l1Big_any false v [x % 4294967296, x / 4294967296] W hr
    rw [val_two2 (by omega) (by omega), show nz false x.natAbs = false from rfl] at hK
    rw [show decide (x < 0) = false from by simpa using hx]
    generalize lim x.natAbs = L at hK ⊢
    have hK := hK _ _ (Rd.two (w.alloc (Obj.cells #[.bool false, .slice none 0 0] 30)) (w.heap.size + 1) (by simp) (by omega) (by omega) (by omega) (by omega))
    go_enter Tryz.func62, Tryz.ntmps62
    go_wp2_with fail
    rw [low32 (by omega) (by omega)]
    refine hK.mono ?_
    rintro e w1 ⟨a1, c1, rfl, hO, hB⟩
    obtain ⟨hz1, p0, p1⟩ := ((Box.new w (.bool false) (.slice none 0 0) 30).alloc _).keep hB
    obtain ⟨_, hf1⟩ := bcell hB
    clear hK
    go_wp2
    refine bodyPost_ret (v := .agg #[.bool false, .slice a1 L.length c1]) (by simp [results, Tryz.results62, go_sem, p0, p1, hz1]) rfl ⟨a1, c1, rfl, ?_, ?_⟩
    · exact (((hO.setBelow (by simp; omega) _).setBelow (by simp; omega) _)).mono (by simp; omega)
    · exact ((below_of_alloc (below_of_alloc hB)).setCell (by simp) _).setCell (by simp) _

set_option maxRecDepth 100000 in
theorem limbsOf_any (u : Int) (w : World) (h0 : 0 ≤ u) (h1 : u ≤ 18446744073709551615) :
    Calls Tryz.prog 41 #[.int .u64 u] w fun e w' => ∃ a c, e = .returned (.slice a (lim u.natAbs).length c) ∧ Own w' w.heap.size (.slice a (lim u.natAbs).length c) (lim u.natAbs) ∧ Below w.heap.size w w' := by
  have hK := trimmed_any w.heap.size _ _ _ _ _ (Own.lit2 w w.heap.size rfl (x := u % 4294967296) (y := u / 4294967296) (by omega) (by omega) (by omega) (by omega))
  rw [val_two2 h0 h1] at hK
  generalize lim u.natAbs = L at hK ⊢
  go_enter Tryz.func41, Tryz.ntmps41
  go_wp2_with fail
  refine hK.mono ?_
  rintro e w1 ⟨a1, c1, rfl, hO, rfl⟩
  clear hK
  go_wp2
  go_ret
  exact ⟨a1, c1, rfl, hO, (Below.refl _ _).alloc (Nat.le_refl _) _⟩
end Go.Proofs.YtahcpgldpbejiaaGreatDoor.Z

namespace Go.Proofs.YtahcpgldpbejiaaGreatDoor.Z
open Go.RowKit
set_option linter.unusedVariables false
set_option linter.unusedSimpArgs false

/-- What is answered of a result: its limbs, its code, its sign; nothing where it is too large. -/
def fitL (n : Nat) : List Int := if (lim n).length ≤ 128 then lim n else []
def fitC (n : Nat) : Int := if (lim n).length ≤ 128 then 0 else 3
def fitS (neg : Bool) (n : Nat) : Bool := if (lim n).length ≤ 128 then nz neg n else false
theorem fit_yes {n : Nat} (h : (lim n).length ≤ 128) (neg : Bool) : fitL n = lim n ∧ fitC n = 0 ∧ fitS neg n = nz neg n := ⟨if_pos h, if_pos h, if_pos h⟩
theorem fit_no {n : Nat} (h : ¬ (lim n).length ≤ 128) (neg : Bool) : fitL n = [] ∧ fitC n = 3 ∧ fitS neg n = false := ⟨if_neg h, if_neg h, if_neg h⟩

end Go.Proofs.YtahcpgldpbejiaaGreatDoor.Z

namespace Go.Proofs.YtahcpgldpbejiaaGreatDoor.Z
open Go.RowKit
set_option linter.unusedVariables false
set_option linter.unusedSimpArgs false

/-- -1, 0, 1. -/
def cmpN (m n : Nat) : Int := if m < n then -1 else if n < m then 1 else 0
theorem cmpN_lt {m n : Nat} (h : m < n) : cmpN m n = -1 := by unfold cmpN; rw [if_pos h]
theorem cmpN_gt {m n : Nat} (h : n < m) : cmpN m n = 1 := by unfold cmpN; rw [if_neg (by omega), if_pos h]
theorem cmpN_eq (m : Nat) : cmpN m m = 0 := by unfold cmpN; rw [if_neg (by omega), if_neg (by omega)]

theorem val_split (zs : List Int) (k : Nat) (hk : k < zs.length) : val zs = val (zs.take k) + 4294967296 ^ k * ((zs.getD k 0).toNat + 4294967296 * val (zs.drop (k + 1))) := by
  have e : zs = zs.take k ++ (zs[k] :: zs.drop (k + 1)) := by
    rw [← List.drop_eq_getElem_cons hk, List.take_append_drop]
  have hl : (zs.take k).length = k := by simp; omega
  have hg : zs.getD k 0 = zs[k] := by simp [List.getD, hk]
  rw [hg]
  calc val zs = val (zs.take k ++ (zs[k] :: zs.drop (k + 1))) := by rw [← e]
    _ = _ := by rw [val_append, hl]; rfl

theorem val_lt_of_top {xs ys : List Int} (hx : Limbs xs) (hy : Limbs ys) (hl : xs.length = ys.length) (k : Nat) (hk : k < xs.length) (ht : xs.drop (k + 1) = ys.drop (k + 1)) (h : xs.getD k 0 < ys.getD k 0) : val xs < val ys := by
  rw [val_split xs k hk, val_split ys k (by omega), ht]
  have h1 := val_lt (hx.take k)
  have hl : (xs.take k).length = k := by simp; omega
  rw [hl] at h1
  have hx0 := hx.get k
  have h2 : (xs.getD k 0).toNat + 1 ≤ (ys.getD k 0).toNat := by omega
  have h3 : 4294967296 ^ k * ((xs.getD k 0).toNat + 1 + 4294967296 * val (ys.drop (k + 1))) ≤ 4294967296 ^ k * ((ys.getD k 0).toNat + 4294967296 * val (ys.drop (k + 1))) := Nat.mul_le_mul_left _ (by omega)
  have h4 : 4294967296 ^ k * ((xs.getD k 0).toNat + 1 + 4294967296 * val (ys.drop (k + 1))) = 4294967296 ^ k * ((xs.getD k 0).toNat + 4294967296 * val (ys.drop (k + 1))) + 4294967296 ^ k := by
    rw [show (xs.getD k 0).toNat + 1 + 4294967296 * val (ys.drop (k + 1)) = ((xs.getD k 0).toNat + 4294967296 * val (ys.drop (k + 1))) + 1 from by omega, Nat.mul_add, Nat.mul_one]
  omega

theorem val_lt_of_len {xs ys : List Int} (hx : Limbs xs) (hy : Limbs ys) (hn : Norm ys) (hl : xs.length < ys.length) : val xs < val ys := by
  have h1 := val_lt hx
  have h2 := le_val hy hn (by omega)
  have h3 : 4294967296 ^ xs.length ≤ 4294967296 ^ (ys.length - 1) := Nat.pow_le_pow_right (by omega) (by omega)
  omega

end Go.Proofs.YtahcpgldpbejiaaGreatDoor.Z


namespace Go.Proofs.YtahcpgldpbejiaaGreatDoor.Z
open Go.RowKit
set_option linter.unusedVariables false
set_option linter.unusedSimpArgs false

theorem l1Big_lim (neg : Bool) (v : Value) (n : Nat) (w : World) (hr : Rd w v (lim n)) :
    Calls Tryz.prog 84 #[.bool neg, v] w fun e w' => ∃ a c, e = .returned (.agg #[.bool (nz neg n), .slice a (lim n).length c]) ∧ Own w' w.heap.size (.slice a (lim n).length c) (lim n) ∧ Below w.heap.size w w' := by
  have := l1Big_any neg v (lim n) w hr
  rw [val_lim] at this
  exact this

/-- The sum of two numbers: its sign, its absolute value. -/
def sumR (p : Bool) (x : Nat) (q : Bool) (y : Nat) : Bool × Nat := if p = q then (p, x + y) else if y ≤ x then (p, x - y) else (q, y - x)
theorem sumR_same (p : Bool) (x y : Nat) : sumR p x p y = (p, x + y) := by unfold sumR; rw [if_pos rfl]
theorem sumR_ge {p q : Bool} (h : ¬ p = q) {x y : Nat} (h1 : y ≤ x) : sumR p x q y = (p, x - y) := by unfold sumR; rw [if_neg h, if_pos h1]
theorem sumR_lt {p q : Bool} (h : ¬ p = q) {x y : Nat} (h1 : x < y) : sumR p x q y = (q, y - x) := by unfold sumR; rw [if_neg h, if_neg (by omega)]
theorem len_le_of {xs ys : List Int} (hx : Limbs xs) (hy : Limbs ys) (ny : Norm ys) (h : val ys ≤ val xs) : ys.length ≤ xs.length := by
  rcases Nat.lt_or_ge xs.length ys.length with h1 | h1
  · have := val_lt_of_len hx hy ny h1; omega
  · exact h1
theorem cmpN_nonneg {m n : Nat} (h : n ≤ m) : 0 ≤ cmpN m n := by unfold cmpN; split <;> (try split) <;> omega

theorem Norm.lim (n : Nat) : Norm (lim n) := lim_norm n

theorem okB_norm {neg : Bool} {zs : List Int} (h : okB neg zs = true) : Norm zs ∧ zs.length ≤ 128 := by
  unfold okB at h
  by_cases h0 : zs.length = 0
  · exact ⟨.inl h0, by omega⟩
  · rw [if_neg h0] at h
    simp at h
    exact ⟨.inr (by simpa [List.getD] using h.2), h.1⟩

end Go.Proofs.YtahcpgldpbejiaaGreatDoor.Z

namespace Go.Proofs.YtahcpgldpbejiaaGreatDoor.Z
open Go.RowKit
set_option linter.unusedVariables false
set_option linter.unusedSimpArgs false
theorem R_pow (k : Nat) : 4294967296 ^ k = 2 ^ (32 * k) := by rw [Nat.pow_mul]
/-- A number's binary digits tell between which powers of 2 it lies. -/
theorem bits_val {zs : List Int} (hz : Limbs zs) (hn : Norm zs) (h0 : ¬ zs.length = 0) : 2 ^ (bitsN zs).toNat ≤ 2 * val zs ∧ val zs < 2 ^ (bitsN zs).toNat := by
  have hb : (bitsN zs).toNat = 32 * (zs.length - 1) + Lib.bitLen (zs.getD (zs.length - 1) 0).toNat := by unfold bitsN; rw [if_neg h0]; omega
  have ht := hz.get (zs.length - 1)
  have htn : zs.getD (zs.length - 1) 0 ≠ 0 := by rcases hn with h | h; (exact absurd h h0); exact h
  have l1 := bitLen_low (zs.getD (zs.length - 1) 0).toNat (by omega) (by omega)
  have l2 := bitLen_high (zs.getD (zs.length - 1) 0).toNat (by omega)
  have hv := val_split zs (zs.length - 1) (by omega)
  have hd : zs.drop (zs.length - 1 + 1) = [] := by rw [List.drop_eq_nil_iff]; omega
  rw [hd] at hv
  simp only [val, Nat.mul_zero, Nat.add_zero] at hv
  have hlt := val_lt (hz.take (zs.length - 1))
  have hl : (zs.take (zs.length - 1)).length = zs.length - 1 := by simp
  rw [hl] at hlt
  rw [hb, Nat.pow_add, ← R_pow]
  generalize (zs.getD (zs.length - 1) 0).toNat = t at l1 l2 hv
  generalize 4294967296 ^ (zs.length - 1) = Q at hv hlt
  generalize 2 ^ Lib.bitLen t = T at l1 l2
  have m1 : Q * T ≤ Q * (2 * t) := Nat.mul_le_mul_left _ l1
  have m2 : Q * (t + 1) ≤ Q * T := Nat.mul_le_mul_left _ l2
  have m3 : Q * (2 * t) = 2 * (Q * t) := by rw [← Nat.mul_assoc, Nat.mul_comm Q 2, Nat.mul_assoc]
  have m4 : Q * (t + 1) = Q * t + Q := Nat.mul_succ _ _
  omega

end Go.Proofs.YtahcpgldpbejiaaGreatDoor.Z

namespace Go.Proofs.YtahcpgldpbejiaaGreatDoor.Z
open Go.RowKit
set_option linter.unusedVariables false
set_option linter.unusedSimpArgs false

theorem limb_at {xs : List Int} (h : Limbs xs) (k : Nat) (hk : k < xs.length) : (xs.getD k 0).toNat = val xs / 4294967296 ^ k % 4294967296 := by
  rw [drop_div h k (by omega), drop_cons_val]
  have := h.get k
  omega

/-- A binary digit of a number. -/
theorem bit_of {xs : List Int} (h : Limbs xs) (i : Nat) (hk : i / 32 < xs.length) : val xs / 2 ^ i % 2 = (xs.getD (i / 32) 0).toNat / 2 ^ (i % 32) % 2 := by
  have e : (2 : Nat) ^ i = 4294967296 ^ (i / 32) * 2 ^ (i % 32) := by
    rw [show (4294967296 : Nat) = 2 ^ 32 from by decide, ← Nat.pow_mul, ← Nat.pow_add]
    congr 1; omega
  rw [e, ← Nat.div_div_eq_div_mul, drop_div h _ (by omega), drop_cons_val]
  generalize (xs.getD (i / 32) 0).toNat = z
  generalize val (xs.drop (i / 32 + 1)) = T
  have hs : i % 32 < 32 := Nat.mod_lt _ (by decide)
  generalize i % 32 = s at hs
  have h1 : (4294967296 : Nat) = 2 ^ s * (2 * 2 ^ (31 - s)) := by
    rw [show (2 : Nat) * 2 ^ (31 - s) = 2 ^ (32 - s) from by rw [← Nat.pow_succ']; congr 1; omega, ← Nat.pow_add, show s + (32 - s) = 32 from by omega]
  rw [h1, Nat.mul_assoc, Nat.add_mul_div_left _ _ (Nat.two_pow_pos s), Nat.mul_assoc, Nat.add_mul_mod_self_left]
theorem bit_beyond {xs : List Int} (h : Limbs xs) (i : Nat) (hk : xs.length ≤ i / 32) : val xs / 2 ^ i % 2 = 0 := by
  rw [down_small h i hk]
theorem and_one (n : Nat) (hn : n < 4294967296) : bits .and .u32 (n : Int) 1 = ((n % 2 : Nat) : Int) := by
  have := u32_and_nat n 1 hn (by decide)
  rw [Nat.and_one_is_mod] at this
  exact this

/-- A binary digit laid where there is none. -/
theorem val_set (zs : List Int) (k : Nat) (z : Int) (t : Nat) (hk : k < zs.length) (hz : z = zs.getD k 0 + t) (h0 : 0 ≤ zs.getD k 0) : val (zs.set k z) = val zs + 4294967296 ^ k * t := by
  have h1 := val_split zs k hk
  have h2 := val_split (zs.set k z) k (by simpa using hk)
  rw [take_set_lt, getD_set_self _ _ _ hk, List.drop_set_of_lt (by omega)] at h2
  rw [h2, h1, hz, show (zs.getD k 0 + (t : Int)).toNat = (zs.getD k 0).toNat + t from by omega]
  generalize val (zs.drop (k + 1)) = D
  rw [show (zs.getD k 0).toNat + t + 4294967296 * D = ((zs.getD k 0).toNat + 4294967296 * D) + t from by omega, Nat.mul_add]
  omega
theorem lay_bit {zs : List Int} (h : Limbs zs) (i c : Nat) (hk : i / 32 < zs.length) (hv : val zs = c * 2 ^ (i + 1)) :
    ∃ z : Nat, zs.getD (i / 32) 0 = (z : Int) ∧ bits .or .u32 (z : Int) ((2 ^ (i % 32) : Nat) : Int) = ((z + 2 ^ (i % 32) : Nat) : Int) ∧ z + 2 ^ (i % 32) < 4294967296 ∧ val (zs.set (i / 32) ((z + 2 ^ (i % 32) : Nat) : Int)) = val zs + 2 ^ i := by
  have hb := h.get (i / 32)
  have hla := limb_at h (i / 32) hk
  have hs : i % 32 < 32 := Nat.mod_lt _ (by decide)
  have e : (2 : Nat) ^ (i + 1) = 4294967296 ^ (i / 32) * 2 ^ (i % 32 + 1) := by
    rw [show (4294967296 : Nat) = 2 ^ 32 from by decide, ← Nat.pow_mul, ← Nat.pow_add]
    congr 1; omega
  have e0 : (2 : Nat) ^ i = 4294967296 ^ (i / 32) * 2 ^ (i % 32) := by
    rw [show (4294967296 : Nat) = 2 ^ 32 from by decide, ← Nat.pow_mul, ← Nat.pow_add]
    congr 1; omega
  rw [hv, e, Nat.mul_left_comm, Nat.mul_div_cancel_left _ (Nat.pow_pos (by decide))] at hla
  refine ⟨(zs.getD (i / 32) 0).toNat, by omega, ?_⟩
  have e2 : (4294967296 : Nat) = 2 ^ (i % 32 + 1) * 2 ^ (31 - i % 32) := by rw [← Nat.pow_add, show i % 32 + 1 + (31 - i % 32) = 32 from by omega]
  have hd : c * 2 ^ (i % 32 + 1) % 4294967296 = 2 ^ (i % 32 + 1) * (c % 2 ^ (31 - i % 32)) := by
    rw [e2, Nat.mul_comm c, Nat.mul_mod_mul_left]
  have hlt : c % 2 ^ (31 - i % 32) < 2 ^ (31 - i % 32) := Nat.mod_lt _ (Nat.two_pow_pos _)
  have hp := Nat.two_pow_add_eq_or_of_lt (i := i % 32 + 1) (b := 2 ^ (i % 32)) (Nat.pow_lt_pow_right (by decide) (by omega)) (c % 2 ^ (31 - i % 32))
  have hle : 2 ^ (i % 32 + 1) * (c % 2 ^ (31 - i % 32)) + 2 ^ (i % 32 + 1) ≤ 4294967296 := by
    rw [e2, ← Nat.mul_succ]; exact Nat.mul_le_mul_left _ hlt
  have hpp : (2 : Nat) ^ (i % 32 + 1) = 2 * 2 ^ (i % 32) := by rw [Nat.pow_succ, Nat.mul_comm]
  have hpos := Nat.two_pow_pos (i % 32)
  have hz : (zs.getD (i / 32) 0).toNat = 2 ^ (i % 32 + 1) * (c % 2 ^ (31 - i % 32)) := by rw [hla, hd]
  have hlt2 : (zs.getD (i / 32) 0).toNat + 2 ^ (i % 32) < 4294967296 := by rw [hz]; omega
  refine ⟨?_, hlt2, ?_⟩
  · rw [u32_or_nat _ _ (by omega) (by omega), hz, ← hp]
  · rw [val_set zs (i / 32) _ (2 ^ (i % 32)) hk (by omega) hb.1, ← e0]

theorem div_step (T B bit : Nat) (hB : 0 < B) (hb : bit ≤ 1) :
    (2 * T + bit) % B = (if B ≤ 2 * (T % B) + bit then 2 * (T % B) + bit - B else 2 * (T % B) + bit) ∧ (2 * T + bit) / B = 2 * (T / B) + (if B ≤ 2 * (T % B) + bit then 1 else 0) := by
  have h1 := Nat.div_add_mod T B
  have h2 := Nat.mod_lt T hB
  generalize T / B = Q at h1
  generalize T % B = r at h1 h2
  have e : 2 * T + bit = B * (2 * Q) + (2 * r + bit) := by rw [← h1, Nat.mul_add, Nat.mul_left_comm]; omega
  split
  · rename_i h
    have e2 : 2 * T + bit = (2 * r + bit - B) + B * (2 * Q + 1) := by rw [e, Nat.mul_succ]; omega
    have hlt : 2 * r + bit - B < B := by omega
    rw [e2, Nat.add_mul_mod_self_left, Nat.add_mul_div_left _ _ hB, Nat.mod_eq_of_lt hlt, Nat.div_eq_of_lt hlt]
    omega
  · rename_i h
    have e2 : 2 * T + bit = (2 * r + bit) + B * (2 * Q) := by omega
    have hlt : 2 * r + bit < B := by omega
    rw [e2, Nat.add_mul_mod_self_left, Nat.add_mul_div_left _ _ hB, Nat.mod_eq_of_lt hlt, Nat.div_eq_of_lt hlt]
    omega
theorem half_step (A i : Nat) : A / 2 ^ i = 2 * (A / 2 ^ (i + 1)) + A / 2 ^ i % 2 := by
  rw [Nat.pow_succ, ← Nat.div_div_eq_div_mul]; omega
end Go.Proofs.YtahcpgldpbejiaaGreatDoor.Z

namespace Go.Proofs.YtahcpgldpbejiaaGreatDoor.Z
open Go.RowKit
set_option linter.unusedVariables false
set_option linter.unusedSimpArgs false

set_option maxRecDepth 100000 in
theorem div32_any (hi lo y : Nat) (w : World) (h1 : hi < y) (h2 : lo < 4294967296) (h3 : y < 4294967296) :
    Calls Tryz.prog 85 #[.int .u32 hi, .int .u32 lo, .int .u32 y] w fun e w' => e = .returned (.tuple #[.int .u32 (((lo + 4294967296 * hi) / y : Nat) : Int), .int .u32 (((lo + 4294967296 * hi) % y : Nat) : Int)]) ∧ w' = w.drew := by
  obtain ⟨T, hT⟩ : ∃ T, T = lo + 4294967296 * hi := ⟨_, rfl⟩
  have hTl : T < 18446744073709551616 := by omega
  have hq : T / y < 4294967296 := by
    rw [Nat.div_lt_iff_lt_mul (by omega)]
    have : 4294967296 * (hi + 1) ≤ 4294967296 * y := Nat.mul_le_mul_left _ h1
    omega
  have hr : T % y < y := Nat.mod_lt _ (by omega)
  have hor : bits .or .u64 ((hi : Int) * 4294967296) (lo : Int) = (T : Int) := by rw [hT]; exact or_wide lo hi h2 (by omega)
  have x1 : IntKind.u64.wrap (hi : Int) = (hi : Int) := by rw [IntKind.wrap_u64]; omega
  have x2 : IntKind.u64.wrap ((hi : Int) * 4294967296) = (hi : Int) * 4294967296 := by rw [IntKind.wrap_u64]; omega
  have x3 : IntKind.u64.wrap (lo : Int) = (lo : Int) := by rw [IntKind.wrap_u64]; omega
  have x4 : IntKind.u64.wrap (y : Int) = (y : Int) := by rw [IntKind.wrap_u64]; omega
  rw [← hT]
  clear hT
  obtain ⟨Q, hQ⟩ : ∃ Q : Nat, T / y = Q := ⟨_, rfl⟩
  obtain ⟨R, hR⟩ : ∃ R : Nat, T % y = R := ⟨_, rfl⟩
  have hQ' : (T : Int) / (y : Int) = (Q : Int) := by rw [← hQ, Int.natCast_ediv]
  have hR' : (T : Int) % (y : Int) = (R : Int) := by rw [← hR, Int.natCast_emod]
  rw [hQ] at hq ⊢
  rw [hR] at hr ⊢
  have y0 : ((y : Int) == 0) = false := beq_len0 (by omega)
  have y1 : ¬ (y : Int) ≤ (hi : Int) := by omega
  have y2 : ¬ (y : Int) = 0 := by omega
  have y3 : ¬ y = 0 := by omega
  have z1 : IntKind.u64.wrap (Q : Int) = (Q : Int) := by rw [IntKind.wrap_u64]; omega
  have z2 : IntKind.u32.wrap (Q : Int) = (Q : Int) := by simp [IntKind.wrap, IntKind.bits, IntKind.signed]; omega
  have z3 : (T : Int).tmod (y : Int) = (R : Int) := by rw [Int.tmod_eq_emod_of_nonneg (Int.natCast_nonneg _), hR']
  have z4 : IntKind.u32.wrap (R : Int) = (R : Int) := by simp [IntKind.wrap, IntKind.bits, IntKind.signed]; omega
  clear hQ hR
  go_enter Tryz.func85, Tryz.ntmps85
  go_wp2_with fail
  go_region_with (fail)
  all_goals go_wp2
  all_goals refine bodyPost_ret (v := .tuple #[.int .u32 (Q : Int), .int .u32 (R : Int)]) (by simp [results, Tryz.results85, go_sem, *]) rfl ⟨rfl, rfl⟩

theorem limb_step (T X r Q x : Nat) (hX : 0 < X) (h : X * Q + r = T) (hr : r < X) : (x + 4294967296 * T) / X = (x + 4294967296 * r) / X + 4294967296 * Q ∧ (x + 4294967296 * T) % X = (x + 4294967296 * r) % X := by
  have e : x + 4294967296 * T = (x + 4294967296 * r) + X * (4294967296 * Q) := by
    rw [← h, Nat.mul_add, Nat.mul_left_comm]; omega
  rw [e, Nat.add_mul_div_left _ _ hX, Nat.add_mul_mod_self_left]
  exact ⟨rfl, rfl⟩

set_option maxHeartbeats 1000000 in
set_option maxRecDepth 100000 in
theorem dividedByLimb_any (v : Value) (xs : List Int) (X : Nat) (w : World) (hx : Rd w v xs) (hlx : xs.length ≤ 1048576) (hX : 0 < X) (hX2 : X < 4294967296) :
    Calls Tryz.prog 66 #[v, .int .u32 X] w fun e w' => ∃ a c, e = .returned (.tuple #[.slice a (lim (val xs / X)).length c, .int .u32 ((val xs % X : Nat) : Int)]) ∧ Own w' w.heap.size (.slice a (lim (val xs / X)).length c) (lim (val xs / X)) ∧ Below w.heap.size w w' := by
  obtain ⟨a, cap, rfl, _, hzx, hnx, hcx⟩ := hx
  clear hnx
  have hT := fun B n' cp a W L (hO : Own W B (.slice a n' cp) L) (he : val L = val xs / X) => he ▸ trimmed_any B n' cp a L W hO
  generalize hQ : lim (val xs / X) = Q at hT ⊢
  obtain ⟨rm, hrm⟩ : ∃ rm, val xs % X = rm := ⟨_, rfl⟩
  rw [hrm]
  have HRM : Hid (val xs % X = rm) := hrm
  clear hQ hrm
  obtain ⟨i0, hi, hz0, hz1, hz2⟩ := info_parts Tryz.info72
  go_enter Tryz.func66, Tryz.ntmps66
  go_wp2_with (at_make; refine wpList_make_full _ rfl _ _ 70 rfl w.heap.size 72 i0 (.int .u32 0) 1 Tryz.underlying70 hi hz0 hz1 .i64 .i64 _ _ xs.length rfl rfl rfl rfl (by rw [hz2]; omega) (by unfold maxLen; omega) (Nat.le_refl _) ?_; intro w1 hown hgrow)
  have hO : Own w1 w.heap.size _ (List.replicate xs.length 0) := Own.made (by omega) hown
  have hB : Below w.heap.size w w1 := (Below.refl _ _).grown hgrow (Nat.le_refl _) (by intro k h; cases h)
  clear hown hgrow hi hz0 hz1 hz2
  go_loopw [7, 8] (fun r i wr => ∃ (j : Nat) (O : List Int), j ≤ xs.length ∧ i = .int .i64 ((j : Int) - 1) ∧ r = .int .u32 ((val (xs.drop j) % X : Nat) : Int) ∧ Own wr w.heap.size (.slice (some ⟨w.heap.size, 0, none⟩) xs.length xs.length) (List.replicate j 0 ++ O) ∧ j + O.length = xs.length ∧ val O = val (xs.drop j) / X ∧ Below w.heap.size w wr)
    (fun _ i _ => (intOf i + 1).toNat)
  case atStart =>
    refine ⟨xs.length, [], Nat.le_refl _, by go_num, ?_, by simpa using hO, by simp, ?_, hB⟩
    · rw [List.drop_length]; simp [val]
    · rw [List.drop_length]; simp [val]
  case round =>
    obtain ⟨j, O, hj, rfl, rfl, hOw, hOl, hV, hBr⟩ := hrel
    clear hO hB
    by_cases hj0 : j = 0
    · subst hj0
      rw [List.drop_zero] at hV ⊢
      rw [HRM.out]
      have hK := hT _ _ _ _ _ _ hOw (by simpa using hV)
      clear hV hT hOw hcx
      go_wp2_with fail
      refine hK.mono ?_
      rintro e w2 ⟨a2, c2, rfl, hO2, rfl⟩
      clear hK
      go_wp2
      refine bodyPost_ret (v := .tuple #[.slice a2 Q.length c2, .int .u32 (rm : Int)]) (by simp [results, Tryz.results66, go_sem]) rfl ⟨a2, c2, rfl, hO2, hBr⟩
    · obtain ⟨i, rfl⟩ : ∃ i, j = i + 1 := ⟨j - 1, by omega⟩
      have hij : (((i + 1 : Nat) : Int) - 1) = (i : Int) := by omega
      rw [hij]
      obtain ⟨b, off, rfl, hb, hcell⟩ := hcx (by omega)
      have hce : wr.cell? ⟨b, off + i, none⟩ = some (.int .u32 (xs.getD i 0)) := (hBr.cell (p := ⟨b, off + i, none⟩) hb).trans (hcell i (by omega))
      have hXb := hzx.get i
      have hdc := drop_cons_val xs i
      obtain ⟨x, hx⟩ : ∃ x : Nat, xs.getD i 0 = (x : Int) := ⟨(xs.getD i 0).toNat, by omega⟩
      rw [hx] at hce hXb hdc
      rw [Int.toNat_natCast] at hdc
      have hls := limb_step (val (xs.drop (i + 1))) X (val (xs.drop (i + 1)) % X) (val (xs.drop (i + 1)) / X) x hX (Nat.div_add_mod _ _) (Nat.mod_lt _ hX)
      rw [← hdc] at hls
      have hrl := Nat.mod_lt (val (xs.drop (i + 1))) hX
      generalize val (xs.drop (i + 1)) % X = r at hls hrl
      rw [← hV] at hls
      have hd := fun W => div32_any r x X W hrl (by omega) hX2
      have hq : (x + 4294967296 * r) / X < 4294967296 := by
        rw [Nat.div_lt_iff_lt_mul hX]
        have : 4294967296 * (r + 1) ≤ 4294967296 * X := Nat.mul_le_mul_left _ hrl
        omega
      obtain ⟨D, hD⟩ : ∃ D, D = (x + 4294967296 * r) / X := ⟨_, rfl⟩
      obtain ⟨E, hE⟩ : ∃ E, E = (x + 4294967296 * r) % X := ⟨_, rfl⟩
      rw [← hD, ← hE] at hls hd
      rw [← hD] at hq
      have HV : Hid (val ((D : Int) :: O) = val (xs.drop i) / X) := by
        show _ = _
        rw [hls.1]; simp only [val, Int.toNat_natCast]
      have HR : Hid (val (xs.drop i) % X = E) := hls.2
      obtain ⟨u1, hck1⟩ : ∃ u1, wr.cell? ⟨w.heap.size, i, none⟩ = some u1 := ⟨_, hOw.cell i (by simp; omega)⟩
      have hf0 := hOw.frozen i
      have hSt := hOw.store i (z := (D : Int)) (by omega) (by omega)
      have hse : (List.replicate (i + 1) (0 : Int) ++ O).set i (D : Int) = List.replicate i 0 ++ (D : Int) :: O := by
        rw [List.replicate_succ', List.append_assoc, List.set_append_right _ _ (by simp)]
        simp
      rw [hse] at hSt
      have HSt : Hid _ := hSt
      have hi1 : (i : Int) < (xs.length : Int) := by omega
      clear hse hV hdc hOw hcell hcx hT hSt hls hx hD hE
      go_wp2_with fail
      refine (hd _).mono ?_
      rintro e w2 ⟨rfl, rfl⟩
      clear hd
      go_wp2
      go_roundw
      case rel => exact ⟨i, (D : Int) :: O, by omega, by go_num, by rw [HR.out], Own.drew HSt.out, by simp; omega, HV.out, (hBr.setCell (Nat.le_refl _) _).drew⟩
      case measure => simp [intOf]; try omega
end Go.Proofs.YtahcpgldpbejiaaGreatDoor.Z

namespace Go.Proofs.YtahcpgldpbejiaaGreatDoor.Z
open Go.RowKit
set_option linter.unusedVariables false
set_option linter.unusedSimpArgs false

set_option maxRecDepth 100000 in
theorem digit_at (d : Nat) (hd : d < 36) : ∀ h : d < (⟨#[48, 49, 50, 51, 52, 53, 54, 55, 56, 57, 97, 98, 99, 100, 101, 102, 103, 104, 105, 106, 107, 108, 109, 110, 111, 112, 113, 114, 115, 116, 117, 118, 119, 120, 121, 122]⟩ : ByteArray).size, (⟨#[48, 49, 50, 51, 52, 53, 54, 55, 56, 57, 97, 98, 99, 100, 101, 102, 103, 104, 105, 106, 107, 108, 109, 110, 111, 112, 113, 114, 115, 116, 117, 118, 119, 120, 121, 122]⟩ : ByteArray)[d]'h = ch d := by
  have : ∀ d, ∀ h : d < (⟨#[48, 49, 50, 51, 52, 53, 54, 55, 56, 57, 97, 98, 99, 100, 101, 102, 103, 104, 105, 106, 107, 108, 109, 110, 111, 112, 113, 114, 115, 116, 117, 118, 119, 120, 121, 122]⟩ : ByteArray).size, (⟨#[48, 49, 50, 51, 52, 53, 54, 55, 56, 57, 97, 98, 99, 100, 101, 102, 103, 104, 105, 106, 107, 108, 109, 110, 111, 112, 113, 114, 115, 116, 117, 118, 119, 120, 121, 122]⟩ : ByteArray)[d]'h = ch d := by decide
  exact this d
/-- A row of which the k first and the k last have changed places. -/
def rv (l : List Int) (k : Nat) : List Int := (List.range l.length).map fun j => if j < k ∨ l.length - k ≤ j then l.getD (l.length - 1 - j) 0 else l.getD j 0
theorem rv_len (l : List Int) (k : Nat) : (rv l k).length = l.length := by simp [rv]
theorem rv_get (l : List Int) (k j : Nat) (h : j < l.length) : (rv l k).getD j 0 = if j < k ∨ l.length - k ≤ j then l.getD (l.length - 1 - j) 0 else l.getD j 0 := by
  simp [rv, List.getD, h]
theorem ext_getD {a b : List Int} (h : a.length = b.length) (e : ∀ j, j < a.length → a.getD j 0 = b.getD j 0) : a = b := by
  apply List.ext_getElem h
  intro j h1 h2
  have := e j h1
  simpa [List.getD, h1, h2] using this
theorem rv_zero (l : List Int) : rv l 0 = l := by
  apply ext_getD (rv_len l 0)
  intro j hj
  rw [rv_len] at hj
  rw [rv_get l 0 j hj, if_neg (by omega)]
theorem rv_end (l : List Int) : rv l (l.length / 2) = l.reverse := by
  apply ext_getD (by rw [rv_len]; simp)
  intro j hj
  rw [rv_len] at hj
  rw [rv_get l _ j hj]
  have e : l.reverse.getD j 0 = l.getD (l.length - 1 - j) 0 := by
    have h2 : l.length - 1 - j < l.length := by omega
    simp [List.getD, hj, h2]
  rw [e]
  split
  · rfl
  · rw [show l.length - 1 - j = j by omega]
theorem rv_step (l : List Int) (k : Nat) (h : 2 * k + 2 ≤ l.length) : ((rv l k).set k ((rv l k).getD (l.length - 1 - k) 0)).set (l.length - 1 - k) ((rv l k).getD k 0) = rv l (k + 1) := by
  apply ext_getD (by simp [rv_len])
  intro j hj
  simp only [List.length_set, rv_len] at hj
  have g : ∀ (a : List Int) (i : Nat) (v : Int) (q : Nat), q < a.length → (a.set i v).getD q 0 = if i = q then v else a.getD q 0 := by
    intro a i v q hq
    simp only [List.getD, List.getElem?_set]
    split
    · subst_vars; simp [hq]
    · rfl
  rw [g _ _ _ _ (by simp [rv_len]; omega), g _ _ _ _ (by simp [rv_len]; omega), rv_get l k j hj, rv_get l (k + 1) j hj, rv_get l k k (by omega), rv_get l k _ (by omega : l.length - 1 - k < l.length)]
  by_cases h1 : l.length - 1 - k = j
  · rw [if_pos h1, if_neg (by omega), if_pos (by omega), show l.length - 1 - j = k by omega]
  · rw [if_neg h1]
    by_cases h2 : k = j
    · rw [if_pos h2, if_neg (by omega), if_pos (by omega), ← h2]
    · rw [if_neg h2]
      by_cases h3 : j < k ∨ l.length - k ≤ j
      · rw [if_pos h3, if_pos (by omega)]
      · rw [if_neg h3, if_neg (by omega)]
set_option maxHeartbeats 2000000 in
set_option maxRecDepth 100000 in
theorem l1Digits_any (v : Value) (xs : List Int) (b : Nat) (w : World) (hx : Rd w v xs) (hnx : Norm xs) (hlx : xs.length ≤ 128) (hb : 2 ≤ b) (hb2 : b ≤ 36) :
    Calls Tryz.prog 29 #[v, .int .i64 b] w fun e w' => e = .returned (.string ⟨(txt b (val xs)).toArray⟩) ∧ Below w.heap.size w w' := by
  have hx' := hx
  obtain ⟨a, cap, rfl, _, hzx, hn0, hcx⟩ := hx
  by_cases h0 : xs.length = 0
  · have hv : val xs = 0 := by rw [List.eq_nil_of_length_eq_zero h0]; rfl
    have ht : txt b (val xs) = [48] := by unfold txt; rw [if_pos hv]
    rw [ht]
    have h0z : (xs.length : Int) = 0 := by omega
    go_enter Tryz.func29, Tryz.ntmps29
    go_wp2
    go_ret
    exact ⟨rfl, Below.refl _ _⟩
  · have hvp : val xs ≠ 0 := by
      have := le_val hzx hnx (by omega)
      have h1 : 0 < 4294967296 ^ (xs.length - 1) := Nat.pow_pos (by omega)
      omega
    have hlim : lim (val xs) = xs := lim_val hzx hnx
    obtain ⟨K, hK⟩ : ∃ K : Nat, K = 4096 := ⟨_, rfl⟩
    have hvl : val xs < 2 ^ K := by
      have h1 := val_lt hzx
      rw [R_pow] at h1
      exact Nat.lt_of_lt_of_le h1 (Nat.pow_le_pow_right (by decide) (by omega))
    have ht : txt b (val xs) = ((le b (val xs)).map ch).reverse := by unfold txt; rw [if_neg hvp]
    have HLn : Hid ((le b (val xs)).length ≤ 4096) := hK ▸ le_len hb _ _ hvl
    have h0z : ((xs.length : Int) == 0) = false := by rw [beq_eq_false_iff_ne]; omega
    obtain ⟨NN, hNN⟩ : ∃ NN, val xs = NN := ⟨_, rfl⟩
    rw [hNN] at hvp hvl ht HLn hlim
    rw [hNN, ht]
    obtain ⟨TT, hTT⟩ : ∃ TT : ByteArray, (⟨((le b NN).map ch).reverse.toArray⟩ : ByteArray) = TT := ⟨_, rfl⟩
    have HTT : Hid ((⟨((le b NN).map ch).reverse.toArray⟩ : ByteArray) = TT) := hTT
    rw [hTT]
    clear hvl ht hNN hcx hn0 hTT
    obtain ⟨i0, hi, hz0, hz1, hz2⟩ := info_parts Tryz.info72
    go_enter Tryz.func29, Tryz.ntmps29
    go_wp2
    go_loopg [0, 5] NN (fun gg m o wr => ∃ (M : Nat) (D : List Nat) (a : Option Addr) (c : Nat) (ao : Option Addr) (co : Nat), M ≤ gg ∧ m = .slice a (lim M).length c ∧ Rd wr (.slice a (lim M).length c) (lim M) ∧ (lim M).length ≤ 128 ∧ D ++ le b M = le b NN ∧ o = .slice ao D.length co ∧ U8.Own wr w.heap.size (.slice ao D.length co) (bz (D.map ch)) ∧ Below w.heap.size w wr)
    case atStart => exact ⟨NN, [], a, cap, _, _, Nat.le_refl _, by rw [hlim], by rw [hlim]; exact hx'.alloc _, by rw [hlim]; exact hlx, rfl, rfl, U8.Own.empty w, (Below.refl _ _).alloc (Nat.le_refl _) _⟩
    case round =>
      obtain ⟨M, D, a, c, ao, co, hMg, rfl, hRd, hLl, hD, rfl, hOw, hBr⟩ := hrel
      obtain ⟨wo, hwo⟩ : ∃ y, y = wr := ⟨_, rfl⟩
      subst hwo
      have HD : Hid (D ++ le b M = le b NN) := hD
      clear hD
      by_cases hM : M = 0
      · subst hM
        have hDe : D = le b NN := by have := HD.out; rw [le_zero, List.append_nil] at this; exact this
        have hLz : ¬ (0 : Int) < ((lim 0).length : Int) := by rw [lim_zero]; simp
        have hDp : D.length ≠ 0 := by
          rw [hDe, le_pos hb hvp]; simp
        have hDb : D.length ≤ 4096 := by rw [hDe]; exact HLn.out
        obtain ⟨g, rfl⟩ : ∃ g, ao = some ⟨g, 0, none⟩ := by
          rcases hOw.shape with ⟨hv, hv2⟩ | ⟨g, cp, hv, _⟩
          · simp only [Value.slice.injEq] at hv; omega
          · simp only [Value.slice.injEq] at hv; exact ⟨g, hv.1⟩
        have hgw : w.heap.size ≤ g := (hOw.lt g rfl).1
        obtain ⟨n, hn⟩ : ∃ n, D.length = n := ⟨_, rfl⟩
        have hll : (bz (D.map ch)).length = n := by simp [bz, hn]
        have hnb : n ≤ 4096 := by omega
        have HF : Hid (rv (bz (D.map ch)) (n / 2) = bz ((le b NN).map ch).reverse) := by
          show _ = _
          rw [← hll, rv_end, hDe]; unfold bz; rw [List.map_reverse]
        have HFl : Hid (n = (((le b NN).map ch).reverse).length) := by show _ = _; rw [← hn, hDe]; simp
        have HZ : Hid (rv (bz (D.map ch)) 0 = bz (D.map ch)) := rv_zero _
        have hlm := bz_limbs (D.map ch)
        rw [hn] at hOw ⊢
        generalize bz (D.map ch) = l at hOw hll HF HZ hlm
        have hnd : Int.tdiv (n : Int) 2 = ((n / 2 : Nat) : Int) := by rw [show (2 : Int) = ((2 : Nat) : Int) from rfl, ← Int.ofNat_tdiv]
        obtain ⟨hf, hhf⟩ : ∃ hf, n / 2 = hf := ⟨_, rfl⟩
        rw [hhf] at hnd HF
        have hnd2 : (n : Int) / 2 = (hf : Int) := by omega
        have hhb : 2 * hf ≤ n := by omega
        have hhb2 : n ≤ 2 * hf + 1 := by omega
        clear hDe hRd hLl HD hn hDp hDb
        go_wp2
        go_loopw [10] (fun i wr => ∃ k : Nat, k ≤ hf ∧ i = .int .i64 k ∧ U8.Own wr w.heap.size (.slice (some ⟨g, 0, none⟩) n co) (rv l k) ∧ Below w.heap.size w wr)
          (fun i _ => hf - (intOf i).toNat)
        case atStart => exact ⟨0, Nat.zero_le _, rfl, by rw [HZ.out]; exact hOw, hBr⟩
        case round =>
          obtain ⟨k, hk, rfl, hOr, hBr2⟩ := hrel
          clear hOw
          by_cases hlt : (k : Int) < (hf : Int)
          · have hrl := rv_len l k
            have hk1 : k < n := by omega
            have hk2 : n - 1 - k < n := by omega
            have HS : Hid (((rv l k).set k ((rv l k).getD (n - 1 - k) 0)).set (n - 1 - k) ((rv l k).getD k 0) = rv l (k + 1)) := by
              show _ = _
              rw [← hll]; exact rv_step l k (by omega)
            have hrn : (rv l k).length = n := by rw [hrl, hll]
            have hlr := hOr.2.2
            generalize rv l k = Z at hOr HS hrn hlr
            obtain ⟨z1, hz1'⟩ : ∃ z1, Z.getD k 0 = z1 := ⟨_, rfl⟩
            obtain ⟨z2, hz2'⟩ : ∃ z2, Z.getD (n - 1 - k) 0 = z2 := ⟨_, rfl⟩
            have hzb1 : 0 ≤ z1 ∧ z1 < 4294967296 := by rw [← hz1']; exact hlr.get k
            have hzb2 : 0 ≤ z2 ∧ z2 < 4294967296 := by rw [← hz2']; exact hlr.get _
            obtain ⟨m2, hm2⟩ : ∃ m2, n - 1 - k = m2 := ⟨_, rfl⟩
            have hc1 : wr.cell? ⟨g, k, none⟩ = some (.int .u8 z1) := by have := hOr.cell k (by omega); rw [hz1'] at this; exact this
            have hc2 : wr.cell? ⟨g, m2, none⟩ = some (.int .u8 z2) := by have := hOr.cell (n - 1 - k) (by omega); rw [hz2', hm2] at this; exact this
            have hf1 := hOr.frozen k
            have hf2 := hOr.frozen m2
            have hS1 := hOr.store k hzb2.1 hzb2.2
            have hS2 := hS1.store m2 hzb1.1 hzb1.2
            rw [hz1', hz2', hm2] at HS
            have HS2 : Hid _ := hS2
            obtain ⟨n1, hn1⟩ : ∃ n1 : Nat, n = n1 + 1 := ⟨n - 1, by omega⟩
            have hmi : (n : Int) - 1 - (k : Int) = (m2 : Int) := by omega
            have hmt : ((n : Int) - 1 - (k : Int)).toNat = m2 := by omega
            have hm2n : (m2 : Int) < (n : Int) := by omega
            have hkn : (k : Int) < (n : Int) := by omega
            have hkm : ¬ (k = m2) := by omega
            have hmk : ¬ (m2 = k) := by omega
            clear hOr hS1 hS2 hlr hz1' hz2' hm2 HF HFl HZ hn1
            go_wp2
            go_roundw
            case rel => exact ⟨k + 1, by omega, by go_num, by rw [← HS.out]; exact HS2.out, (hBr2.setCell hgw _).setCell hgw _⟩
            case measure => first | (simp [intOf]; done) | (simp [intOf]; omega)
          · obtain rfl : k = hf := by omega
            rw [HF.out] at hOr
            have hcv := bytes_back wr w.heap.size g co _ n HFl.out hOr
            rw [HTT.out] at hcv
            clear hOr HF HFl HZ
            go_wp2
            go_ret
            exact ⟨rfl, hBr2⟩
      · have hMl : (lim M).length ≠ 0 := fun e => hM (lim_eq_nil.1 (List.eq_nil_of_length_eq_zero e))
        have hLz : (0 : Int) < ((lim M).length : Int) := by omega
        obtain ⟨L, hL⟩ : ∃ L, lim M = L := ⟨_, rfl⟩
        have hLv : val L = M := by rw [← hL, val_lim]
        rw [hL] at hRd hLl hLz ⊢
        obtain ⟨a1, cap1, e1, _, hzL, hnL, hcL⟩ := hRd
        simp only [Value.slice.injEq] at e1
        obtain ⟨rfl, _, rfl⟩ := e1
        have HQl : Hid ((lim (M / b)).length ≤ 128) := by
          have h1 := val_lt hzL
          rw [hLv] at h1
          have h2 : 4294967296 ^ L.length ≤ 4294967296 ^ 128 := Nat.pow_le_pow_right (by decide) hLl
          exact lim_length_le (Nat.lt_of_le_of_lt (Nat.div_le_self _ _) (Nat.lt_of_lt_of_le h1 h2))
        clear hL hMl
        go_wp2_with (at_make; refine wpList_make_full _ rfl _ _ 25 rfl wo.heap.size 72 i0 (.int .u32 0) 1 Tryz.underlying25 hi hz0 hz1 .i64 .i64 _ _ L.length rfl rfl rfl rfl (by rw [hz2]; omega) (by unfold maxLen; omega) (Nat.le_refl _) ?_; intro w1 hown hgrow)
        have hO : Own w1 wo.heap.size _ (List.replicate L.length 0) := Own.made (by omega) hown
        have hB : Below wo.heap.size wo w1 := (Below.refl _ _).grown hgrow (Nat.le_refl _) (by intro k h; cases h)
        clear hown hgrow
        go_loopw [6, 8] (fun r i wr => ∃ (j : Nat) (O : List Int), j ≤ L.length ∧ i = .int .i64 ((j : Int) - 1) ∧ r = .int .u64 ((val (L.drop j) % b : Nat) : Int) ∧ Own wr wo.heap.size (.slice (some ⟨wo.heap.size, 0, none⟩) L.length L.length) (List.replicate j 0 ++ O) ∧ j + O.length = L.length ∧ val O = val (L.drop j) / b ∧ Below wo.heap.size wo wr)
          (fun _ i _ => (intOf i + 1).toNat)
        case atStart =>
          refine ⟨L.length, [], Nat.le_refl _, by go_num, ?_, by simpa using hO, by simp, ?_, hB⟩
          · rw [List.drop_length]; simp [val]
          · rw [List.drop_length]; simp [val]
        case round =>
          obtain ⟨j, O, hj, rfl, rfl, hOq, hOl, hV, hBr2⟩ := hrel
          clear hO hB
          by_cases hj0 : j = 0
          · subst hj0
            rw [List.drop_zero] at hV ⊢
            rw [List.replicate_zero, List.nil_append] at hOq
            obtain ⟨d, hd⟩ : ∃ d, val L % b = d := ⟨_, rfl⟩
            rw [hd]
            have hdb : d < b := by rw [← hd]; exact Nat.mod_lt _ (by omega)
            have hd36 : (d : Int) < 36 := by omega
            have hd0 : (0 : Int) ≤ (d : Int) := by omega
            have oW := hOw.keep hBr2
            have hwr2 := hBr2.size
            have hwr1 := hBr.size
            have hdg := digit_at d (by omega)
            have hT := fun v W (h : Rd W v O) => trimS_any v O W h
            rw [hV, hLv] at hT
            have HE : Hid (bz (D.map ch) ++ [((ch d).toNat : Int)] = bz ((D ++ [d]).map ch)) := by
              show _ = _
              unfold bz; simp
            have HD2 : Hid ((D ++ [d]) ++ le b (M / b) = le b NN) := by
              show _ = _
              rw [← HD.out, le_pos hb hM, List.append_assoc, ← hd, hLv]; rfl
            have hDl : D.length ≤ 4096 := by
              have h1 := HD.out
              have h2 := HLn.out
              rw [← h1, List.length_append] at h2
              omega
            have hY0 : (0 : Int) ≤ ((ch d).toNat : Int) := by omega
            have hY1 : ((ch d).toNat : Int) < 4294967296 := by have := (ch d).toNat_lt; omega
            have hlen1 : (bz (D.map ch) ++ [((ch d).toNat : Int)]).length = D.length + 1 := by simp [bz]
            have hlen2 : (bz (D.map ch)).length + [((ch d).toNat : Int)].length = D.length + 1 := by simp [bz]
            have hap := u8_apart oW hOq
            clear hcL hV hd
            obtain ⟨Y, hY⟩ : ∃ Y : Int, ((ch d).toNat : Int) = Y := ⟨_, rfl⟩
            rw [hY] at HE hY0 hY1 hlen1 hlen2
            go_wp2_with (at_builtin; refine U8.wpList_append_but rfl _ _ 34 rfl Tryz.underlying34 w.heap.size _ _ (bz (D.map ch)) [Y] rfl rfl (oW.alloc _) (U8.Rd.one wr wr.heap.size rfl 5 hY0 hY1) (by rw [hlen2]; omega) (by simp; omega) ?_; rw [hlen1]; intro a3 c3 w3 hO3 hB3 hG3)
            have oQ3 := (hOq.alloc (Obj.cells #[.int .u8 Y] 5)).but hG3 hap
            refine (hT _ _ oQ3.rd).mono ?_
            rintro e w4 ⟨a4, c4, rfl, o4, hB4⟩
            rw [HE.out] at hO3
            have oW4 := hO3.keep hB4
            have hW1 := hBr.trans (hBr2.mono hwr1)
            have hW3 := (hW1.alloc hW1.size (Obj.cells #[.int .u8 Y] 5)).trans hB3
            have hW4 := hW3.trans (hB4.mono hW3.size)
            clear hT hG3 hap hO3 oQ3 hdg
            go_wp2
            go_roundg (M / b)
            case measure => exact Nat.lt_of_lt_of_le (Nat.div_lt_self (by omega) (by omega)) hMg
            case rel => exact ⟨M / b, D ++ [d], a4, c4, a3, c3, Nat.le_refl _, rfl, o4.rd, HQl.out, HD2.out, by simp, by simpa using oW4, hW4⟩
          · obtain ⟨i, rfl⟩ : ∃ i, j = i + 1 := ⟨j - 1, by omega⟩
            have hij : (((i + 1 : Nat) : Int) - 1) = (i : Int) := by omega
            rw [hij]
            obtain ⟨bb, off, rfl, hbb, hcell⟩ := hcL (by omega)
            have hce : wr.cell? ⟨bb, off + i, none⟩ = some (.int .u32 (L.getD i 0)) := (hBr2.cell (p := ⟨bb, off + i, none⟩) hbb).trans (hcell i (by omega))
            have hXb := hzL.get i
            have hdc := drop_cons_val L i
            obtain ⟨x, hx⟩ : ∃ x : Nat, L.getD i 0 = (x : Int) := ⟨(L.getD i 0).toNat, by omega⟩
            rw [hx] at hce hXb hdc
            rw [Int.toNat_natCast] at hdc
            have hbp : 0 < b := by omega
            have hls := limb_step (val (L.drop (i + 1))) b (val (L.drop (i + 1)) % b) (val (L.drop (i + 1)) / b) x hbp (Nat.div_add_mod _ _) (Nat.mod_lt _ hbp)
            rw [← hdc] at hls
            have hrl := Nat.mod_lt (val (L.drop (i + 1))) hbp
            generalize val (L.drop (i + 1)) % b = r at hls hrl
            rw [← hV] at hls
            have hor := or_wide x r (by omega) (by omega)
            obtain ⟨XX, hXX⟩ : ∃ XX, x + 4294967296 * r = XX := ⟨_, rfl⟩
            rw [hXX] at hls hor
            have hXXb : XX < 4294967296 * b := by
              have : 4294967296 * (r + 1) ≤ 4294967296 * b := Nat.mul_le_mul_left _ hrl
              omega
            have hq : XX / b < 4294967296 := by
              rw [Nat.div_lt_iff_lt_mul hbp]
              omega
            obtain ⟨Dq, hDq⟩ : ∃ Dq, Dq = XX / b := ⟨_, rfl⟩
            obtain ⟨Er, hEr⟩ : ∃ Er, Er = XX % b := ⟨_, rfl⟩
            rw [← hDq, ← hEr] at hls
            rw [← hDq] at hq
            have HV : Hid (val ((Dq : Int) :: O) = val (L.drop i) / b) := by
              show _ = _
              rw [hls.1]; simp only [val, Int.toNat_natCast]
            have HR : Hid (val (L.drop i) % b = Er) := hls.2
            obtain ⟨u1, hck1⟩ : ∃ u1, wr.cell? ⟨wo.heap.size, i, none⟩ = some u1 := ⟨_, hOq.cell i (by simp; omega)⟩
            have hf0 := hOq.frozen i
            have hSt := hOq.store i (z := (Dq : Int)) (by omega) (by omega)
            have hse : (List.replicate (i + 1) (0 : Int) ++ O).set i (Dq : Int) = List.replicate i 0 ++ (Dq : Int) :: O := by
              rw [List.replicate_succ', List.append_assoc, List.set_append_right _ _ (by simp)]
              simp
            rw [hse] at hSt
            have HSt : Hid _ := hSt
            have hi1 : (i : Int) < (L.length : Int) := by omega
            have hdv : Int.tdiv (XX : Int) (b : Int) = (Dq : Int) := by rw [hDq, ← Int.ofNat_tdiv]
            have hmd : Int.tmod (XX : Int) (b : Int) = (Er : Int) := by rw [hEr, ← Int.ofNat_tmod]
            have hbz : (b : Int) ≠ 0 := by omega
            clear hse hV hdc hOq hcell hcL hSt hls hx hDq hEr hXX
            go_wp2
            go_roundw
            case rel => exact ⟨i, (Dq : Int) :: O, by omega, rfl, by rw [HR.out], HSt.out, by simp; omega, HV.out, hBr2.setCell (Nat.le_refl _) _⟩
            case measure => first | (simp [intOf]; done) | (simp [intOf]; omega)
end Go.Proofs.YtahcpgldpbejiaaGreatDoor.Z
