import Derived.Test.YtahcpgldpbejiaaGreatDoorBaseI
import Derived.Test.YtahcpgldpbejiaaGreatDoorBaseU
import Derived.Deep.RegionHeld3
import Derived.Laws.BitsAllLaws
import Derived.Maps.Range
import Derived.Test.YtahcpgldpbejiaaGreatDoorFrameE
import Derived.ProofKit
import Derived.OpenShut
import Derived.ShutString
import Derived.ChangeOld
import Derived.Below
import Derived.ChangeSlices
import Derived.Lib.SmallJoins
import Derived.Test.YtahcpgldpbejiaaGreatDoorFmD
namespace Go.Proofs.YtahcpgldpbejiaaGreatDoor
open Go.RowKit
set_option linter.unusedVariables false
set_option linter.unusedSimpArgs false

/-- What a draw reads from: the bytes and the place. -/
structure Rdr (w : World) (g : Nat) (a : Option Addr) (n c : Nat) (bs : List Int) : Prop where
  lt : g < w.heap.size
  c0 : w.cell? ⟨g, 0, none⟩ = some (.slice a n c)
  c1 : ∃ p : Nat, p ≤ n ∧ w.cell? ⟨g, 1, none⟩ = some (.int .i64 p)
  fz : w.frozen? ⟨g, 1, none⟩ = false
  nb : n ≤ 1048576
  lim : ∀ k, 0 ≤ bs.getD k 0 ∧ bs.getD k 0 < 256
  by_ : 0 < n → ∃ b off, a = some ⟨b, off, none⟩ ∧ b ≠ g ∧ b < w.heap.size ∧ ∀ k, k < n → w.cell? ⟨b, off + k, none⟩ = some (.int .u8 (bs.getD k 0))
theorem Rdr.keep {w w' : World} {g : Nat} {a : Option Addr} {n c : Nat} {bs : List Int} (h : Rdr w g a n c bs) (hb : Below w.heap.size w w') : Rdr w' g a n c bs := by
  obtain ⟨p, hp, hc⟩ := h.c1
  refine ⟨Nat.lt_of_lt_of_le h.lt hb.size, (hb.cell (p := ⟨g, 0, none⟩) h.lt).trans h.c0, ⟨p, hp, (hb.cell (p := ⟨g, 1, none⟩) h.lt).trans hc⟩, (hb.frozen (p := ⟨g, 1, none⟩) h.lt).trans h.fz, h.nb, h.lim, fun h0 => ?_⟩
  obtain ⟨b, off, e, hne, hlt, hcs⟩ := h.by_ h0
  exact ⟨b, off, e, hne, Nat.lt_of_lt_of_le hlt hb.size, fun k hk => (hb.cell (p := ⟨b, off + k, none⟩) hlt).trans (hcs k hk)⟩
/-- A step: the reader alone has turned. -/
structure Drawn (w w' : World) (g : Nat) (a : Option Addr) (n c : Nat) (bs : List Int) : Prop where
  rd : Rdr w' g a n c bs
  gb : w.grownBy w' (some g)
theorem Drawn.trans {w w1 w2 : World} {g : Nat} {a : Option Addr} {n c : Nat} {bs : List Int} (h : Drawn w w1 g a n c bs) (k : Drawn w1 w2 g a n c bs) : Drawn w w2 g a n c bs := ⟨k.rd, h.gb.trans k.gb⟩
theorem Drawn.below {w w1 w2 : World} {g : Nat} {a : Option Addr} {n c : Nat} {bs : List Int} (h : Drawn w w1 g a n c bs) (k : Below w1.heap.size w1 w2) : Drawn w w2 g a n c bs := ⟨h.rd.keep k, h.gb.trans (gb_below _ k)⟩
theorem Drawn.refl {w : World} {g : Nat} {a : Option Addr} {n c : Nat} {bs : List Int} (h : Rdr w g a n c bs) : Drawn w w g a n c bs := ⟨h, World.grownBy.refl _ _⟩
theorem Rdr.put {w : World} {g : Nat} {a : Option Addr} {n c : Nat} {bs : List Int} (h : Rdr w g a n c bs) (q : Nat) (hq : q ≤ n) : Drawn w (w.setCell ⟨g, 1, none⟩ (.int .i64 q)) g a n c bs := by
  obtain ⟨p, hp, hc⟩ := h.c1
  refine ⟨⟨by simp [h.lt], ?_, ⟨q, hq, World.cell?_setCell_same (w := w) (a := ⟨g, 1, none⟩) (v := .int .i64 q) hc⟩, by simp [h.fz], h.nb, h.lim, fun h0 => ?_⟩, gb_set _ _ _ _⟩
  · rw [World.cell?_setCell_other (w := w) (a := ⟨g, 1, none⟩) (b := ⟨g, 0, none⟩) (v := .int .i64 q) (by simp)]; exact h.c0
  · obtain ⟨b, off, e, hne, hlt, hcs⟩ := h.by_ h0
    exact ⟨b, off, e, hne, by simp [hlt], fun k hk => by rw [World.cell?_setCell_far _ _ _ _ (fun e => hne e.symm)]; exact hcs k hk⟩
set_option maxHeartbeats 1000000 in
set_option maxRecDepth 100000 in
theorem next_any (w : World) (g : Nat) (a : Option Addr) (n c : Nat) (bs : List Int) (hR : Rdr w g a n c bs) :
    Calls Tryz.prog 83 #[.pointer (some ⟨g, 0, none⟩)] w fun e w' => ∃ x : Int, e = .returned (.int .i64 x) ∧ 0 ≤ x ∧ x < 256 ∧ Drawn w w' g a n c bs := by
  obtain ⟨p, hp, hc1⟩ := hR.c1
  have hc0 := hR.c0
  have hfz := hR.fz
  have hnb := hR.nb
  by_cases hpn : p < n
  · obtain ⟨b, off, rfl, hne, hlt, hcs⟩ := hR.by_ (by omega)
    have hcb := hcs p hpn
    have hl := hR.lim p
    obtain ⟨x, hx⟩ : ∃ x, bs.getD p 0 = x := ⟨_, rfl⟩
    rw [hx] at hcb hl
    have hpz : ¬ (n : Int) ≤ (p : Int) := by omega
    have hgl := hR.lt
    have hgne : ¬ (b = g) := hne
    have hgne2 : ¬ (g = b) := fun e => hne e.symm
    clear hcs
    have hpw : wrap64 ((p : Int) + 1) = (p : Int) + 1 := by unfold wrap64; omega
    obtain ⟨q, hq⟩ : ∃ q : Nat, q = p + 1 := ⟨_, rfl⟩
    have hqz : (p : Int) + 1 = (q : Int) := by omega
    have hqm : (q : Int) - 1 = (p : Int) := by omega
    rw [hqz] at hpw
    have HQ : Hid (q = p + 1) := hq
    have hqn : q ≤ n := by omega
    clear hq hqm
    go_enter Tryz.func83, Tryz.ntmps83
    go_wp2
    go_region_held3 (fun W => W.cell? ⟨g, 0, none⟩ = some (.slice (some ⟨b, off, none⟩) n c) ∧ W.cell? ⟨g, 1, none⟩ = some (.int .i64 p)) (go_keep) (fail)
    all_goals (try go_wp2)
    have hP := (hR.put q hqn).below (Below.refl _ _).drew
    have k0 := hP.rd.c0
    have k1 : (w.setCell ⟨g, 1, none⟩ (.int .i64 q)).drew.cell? ⟨g, 1, none⟩ = some (.int .i64 q) := World.cell?_setCell_same (w := w) (a := ⟨g, 1, none⟩) (v := .int .i64 q) hc1
    have kb : (w.setCell ⟨g, 1, none⟩ (.int .i64 q)).drew.cell? ⟨b, off + p, none⟩ = some (.int .u8 x) := (World.cell?_setCell_far w ⟨g, 1, none⟩ ⟨b, off + p, none⟩ _ hgne2).trans hcb
    have hqm : (q : Int) - 1 = (p : Int) := by omega
    have hqw : IntKind.i64.wrap ((q : Int) - 1) = (p : Int) := by simp [IntKind.wrap, IntKind.bits, IntKind.signed]; omega
    have hqx : wrap64 ((q : Int) - 1) = (p : Int) := by unfold wrap64; omega
    have hpw2 : IntKind.i64.wrap (p : Int) = (p : Int) := by simp [IntKind.wrap, IntKind.bits, IntKind.signed]; omega
    have hxw : IntKind.i64.wrap x = x := by simp [IntKind.wrap, IntKind.bits, IntKind.signed]; omega
    have hp0 : (0 : Int) ≤ (p : Int) := by omega
    have hpn2 : (p : Int) < (n : Int) := by omega
    clear hcb hc0 hc1 hfz hR hpw hqz HQ
    generalize (w.setCell ⟨g, 1, none⟩ (.int .i64 q)).drew = w2 at hP k0 k1 kb ⊢
    go_region_held3 (fun W => W.cell? ⟨g, 0, none⟩ = some (.slice (some ⟨b, off, none⟩) n c) ∧ W.cell? ⟨g, 1, none⟩ = some (.int .i64 q) ∧ W.cell? ⟨b, off + p, none⟩ = some (.int .u8 x)) (go_keep) (fail)
    all_goals (try go_wp2)
    all_goals go_ret
    all_goals exact ⟨x, rfl, hl.1, hl.2, hP.below (Below.refl _ _).drew⟩
  · obtain rfl : p = n := by omega
    go_enter Tryz.func83, Tryz.ntmps83
    go_wp2
    go_region_held3 (fun W => W.cell? ⟨g, 0, none⟩ = some (.slice a p c) ∧ W.cell? ⟨g, 1, none⟩ = some (.int .i64 p)) (go_keep) (fail)
    all_goals (try go_wp2)
    all_goals go_ret
    all_goals exact ⟨0, rfl, by omega, by omega, (Drawn.refl hR).below (Below.refl _ _).drew⟩
set_option maxRecDepth 100000 in
theorem below_any (w : World) (g : Nat) (a : Option Addr) (n c : Nat) (bs : List Int) (m : Nat) (hm : 2 ≤ m) (hm2 : m ≤ 256) (hR : Rdr w g a n c bs) :
    Calls Tryz.prog 59 #[.pointer (some ⟨g, 0, none⟩), .int .i64 m] w fun e w' => ∃ x : Nat, e = .returned (.int .i64 x) ∧ x < m ∧ Drawn w w' g a n c bs := by
  have hN := fun W h => next_any W g a n c bs h
  have h1 : ¬ (m : Int) ≤ 1 := by omega
  have h2 : (m : Int) ≤ 256 := by omega
  have h3 : (m : Int) ≠ 0 := by omega
  go_enter Tryz.func59, Tryz.ntmps59
  go_wp2_with fail
  refine (hN _ hR).mono ?_
  rintro e w1 ⟨x, rfl, hx0, hx1, hD⟩
  obtain ⟨y, hy⟩ : ∃ y : Nat, x = (y : Int) := ⟨x.toNat, by omega⟩
  subst hy
  obtain ⟨z, hz⟩ : ∃ z, y % m = z := ⟨_, rfl⟩
  have hzm : z < m := by rw [← hz]; exact Nat.mod_lt _ (by omega)
  have hmd : Int.tmod (y : Int) (m : Int) = (z : Int) := by rw [← hz, ← Int.ofNat_tmod]
  have hmd2 : (y : Int) % (m : Int) = (z : Int) := by rw [← hz]; rfl
  clear hz
  go_wp2
  go_ret
  exact ⟨z, rfl, hzm, hD⟩
set_option maxRecDepth 100000 in
theorem once_any (w : World) (g : Nat) (a : Option Addr) (n c : Nat) (bs : List Int) (m : Nat) (hm : 2 ≤ m) (hm2 : m ≤ 256) (hR : Rdr w g a n c bs) :
    Calls Tryz.prog 61 #[.pointer (some ⟨g, 0, none⟩), .int .i64 m] w fun e w' => ∃ x : Bool, e = .returned (.bool x) ∧ Drawn w w' g a n c bs := by
  have hN := fun W h => below_any W g a n c bs m hm hm2 h
  go_enter Tryz.func61, Tryz.ntmps61
  go_wp2_with fail
  refine (hN _ hR).mono ?_
  rintro e w1 ⟨x, rfl, hx1, hD⟩
  go_wp2
  go_ret
  exact ⟨_, rfl, hD⟩
set_option maxHeartbeats 1000000 in
set_option maxRecDepth 100000 in
theorem word_any (w : World) (g : Nat) (a : Option Addr) (n c : Nat) (bs : List Int) (hR : Rdr w g a n c bs) :
    Calls Tryz.prog 64 #[.pointer (some ⟨g, 0, none⟩)] w fun e w' => ∃ x : Int, e = .returned (.int .u64 x) ∧ 0 ≤ x ∧ x ≤ 18446744073709551615 ∧ Drawn w w' g a n c bs := by
  have hN := fun W h => next_any W g a n c bs h
  go_enter Tryz.func64, Tryz.ntmps64
  go_wp2
  go_loopw [3, 4] (fun x i wr => ∃ (k : Nat) (y : Int), k ≤ 8 ∧ i = .int .i64 k ∧ x = .int .u64 y ∧ 0 ≤ y ∧ y ≤ 18446744073709551615 ∧ Drawn w wr g a n c bs) (fun _ i _ => 8 - (RowKit.intOf i).toNat)
  case atStart => exact ⟨0, 0, by omega, rfl, rfl, by omega, by omega, Drawn.refl hR⟩
  case round =>
    obtain ⟨k, y, hk, rfl, rfl, hy0, hy1, hD⟩ := hrel
    by_cases hlt : k < 8
    · obtain ⟨Y, hY⟩ : ∃ Y : Nat, IntKind.u64.wrap (y * 256) = (Y : Int) := ⟨(IntKind.u64.wrap (y * 256)).toNat, by simp [IntKind.wrap, IntKind.bits, IntKind.signed]; omega⟩
      have hYb : Y < 18446744073709551616 := by
        have : IntKind.u64.wrap (y * 256) < 18446744073709551616 := by simp [IntKind.wrap, IntKind.bits, IntKind.signed]; omega
        omega
      go_wp2_with fail
      refine (hN _ hD.rd).mono ?_
      rintro e w1 ⟨x, rfl, hx0, hx1, hD1⟩
      obtain ⟨z, hz⟩ : ∃ z : Nat, x = (z : Int) := ⟨x.toNat, by omega⟩
      subst hz
      obtain ⟨R, hRR⟩ : ∃ R, Y ||| z = R := ⟨_, rfl⟩
      have hRb : R < 18446744073709551616 := by
        rw [← hRR]
        exact Nat.or_lt_two_pow (n := 64) hYb (by omega)
      have hor : bits .or .u64 (Y : Int) (z : Int) = (R : Int) := by rw [u64_or_nat _ _ (by omega) (by omega), hRR]
      clear hRR hN
      go_wp2
      go_roundw
      case rel => exact ⟨k + 1, R, by omega, by go_num, rfl, by omega, by omega, hD.trans hD1⟩
      case measure => first | (simp [RowKit.intOf]; done) | (simp [RowKit.intOf]; omega)
    · go_wp2
      go_ret
      exact ⟨y, rfl, hy0, hy1, hD⟩
theorem lit_cell {w w' : World} {g x : Nat} {cs : Array Value} {t : TypeId} {v : Value} (hg : g < w.heap.size) (hgb : (w.alloc (.cells cs t)).grownBy w' (some g)) (hv : cs[x]? = some v) : w'.cell? ⟨w.heap.size, x, none⟩ = some v := by
  refine (World.cell?_of_block (hgb.block w.heap.size (by simp) (by simp; omega))).trans ?_
  rw [World.cell?_alloc_at _ _ w.heap.size x rfl]; exact hv
theorem gb_cell {w w' : World} {g L o : Nat} {v : Value} (hgb : w.grownBy w' (some g)) (hne : L ≠ g) (hl : L < w.heap.size) (h : w.cell? ⟨L, o, none⟩ = some v) : w'.cell? ⟨L, o, none⟩ = some v :=
  (World.cell?_of_block (a := ⟨L, o, none⟩) (hgb.block L hl (by simp; omega))).trans h
theorem gb_frozen {w w' : World} {g L o : Nat} (hgb : w.grownBy w' (some g)) (hne : L ≠ g) (hl : L < w.heap.size) (h : w.frozen? ⟨L, o, none⟩ = false) : w'.frozen? ⟨L, o, none⟩ = false :=
  (World.frozen?_of_block (a := ⟨L, o, none⟩) (hgb.block L hl (by simp; omega))).trans h
theorem tabI (x : Nat) (hx : x < 12) : ∃ y : Int, (#[.int .i64 0, .int .i64 1, .int .i64 (-1), .int .i64 2, .int .i64 2147483648, .int .i64 4294967296, .int .i64 9223372036854775807, .int .i64 (-9223372036854775808), .int .i64 9007199254740992, .int .i64 4095, .int .i64 4096, .int .i64 4097] : Array Value)[x]? = some (.int .i64 y) ∧ -9223372036854775808 ≤ y ∧ y ≤ 9223372036854775807 := by
  match x, hx with
  | 0, _ => exact ⟨_, rfl, by decide, by decide⟩
  | 1, _ => exact ⟨_, rfl, by decide, by decide⟩
  | 2, _ => exact ⟨_, rfl, by decide, by decide⟩
  | 3, _ => exact ⟨_, rfl, by decide, by decide⟩
  | 4, _ => exact ⟨_, rfl, by decide, by decide⟩
  | 5, _ => exact ⟨_, rfl, by decide, by decide⟩
  | 6, _ => exact ⟨_, rfl, by decide, by decide⟩
  | 7, _ => exact ⟨_, rfl, by decide, by decide⟩
  | 8, _ => exact ⟨_, rfl, by decide, by decide⟩
  | 9, _ => exact ⟨_, rfl, by decide, by decide⟩
  | 10, _ => exact ⟨_, rfl, by decide, by decide⟩
  | 11, _ => exact ⟨_, rfl, by decide, by decide⟩
set_option maxHeartbeats 1000000 in
set_option maxRecDepth 100000 in
theorem drawInt_any (w : World) (g : Nat) (a : Option Addr) (n c : Nat) (bs : List Int) (hR : Rdr w g a n c bs) :
    Calls Tryz.prog 63 #[.pointer (some ⟨g, 0, none⟩)] w fun e w' => ∃ x : Int, e = .returned (.int .i64 x) ∧ -9223372036854775808 ≤ x ∧ x ≤ 9223372036854775807 ∧ Drawn w w' g a n c bs := by
  have hN := fun W h => next_any W g a n c bs h
  have hB := fun W h => below_any W g a n c bs 6 (by omega) (by omega) h
  have hB2 := fun W h => below_any W g a n c bs 12 (by omega) (by omega) h
  have hW := fun W h => word_any W g a n c bs h
  go_enter Tryz.func63, Tryz.ntmps63
  go_wp2_with fail
  refine (hB _ hR).mono ?_
  rintro e w1 ⟨k, rfl, hk, hD1⟩
  clear hB
  by_cases k0 : k = 0
  · subst k0
    go_wp2_with fail
    refine (hN _ hD1.rd).mono ?_
    rintro e w2 ⟨x, rfl, hx0, hx1, hD2⟩
    go_wp2
    go_ret
    exact ⟨x - 128, rfl, by omega, by omega, hD1.trans hD2⟩
  · by_cases k1 : k = 1
    · subst k1
      go_wp2_with fail
      refine (hB2 _ (hD1.rd.keep ((Below.refl _ _).alloc (Nat.le_refl _) _))).mono ?_
      rintro e w2 ⟨x, rfl, hx, hD2⟩
      obtain ⟨y, hy, hy0, hy1⟩ := tabI x hx
      have hcl := lit_cell hD1.rd.lt hD2.gb hy
      have hxz : (x : Int) < 12 := by omega
      have hDA := (hD1.below ((Below.refl _ _).alloc (Nat.le_refl _) (Obj.cells #[.int .i64 0, .int .i64 1, .int .i64 (-1), .int .i64 2, .int .i64 2147483648, .int .i64 4294967296, .int .i64 9223372036854775807, .int .i64 (-9223372036854775808), .int .i64 9007199254740992, .int .i64 4095, .int .i64 4096, .int .i64 4097] 2))).trans hD2
      clear hy hB2 hN hW hD2
      go_wp2
      go_ret
      exact ⟨y, rfl, hy0, hy1, hDA⟩
    · by_cases k2 : k = 2
      · subst k2
        go_wp2_with fail
        refine (hW _ hD1.rd).mono ?_
        rintro e w2 ⟨x, rfl, hx0, hx1, hD2⟩
        go_wp2
        go_ret
        exact ⟨_, rfl, by unfold wrap64; omega, by unfold wrap64; omega, hD1.trans hD2⟩
      · have e0 : ((k : Int) == 0) = false := by rw [beq_eq_false_iff_ne]; omega
        have e1 : ((k : Int) == 1) = false := by rw [beq_eq_false_iff_ne]; omega
        have e2 : ((k : Int) == 2) = false := by rw [beq_eq_false_iff_ne]; omega
        go_wp2_with fail
        refine (hN _ hD1.rd).mono ?_
        rintro e w2 ⟨x, rfl, hx0, hx1, hD2⟩
        obtain ⟨y, hy⟩ : ∃ y : Nat, x = (y : Int) := ⟨x.toNat, by omega⟩
        subst hy
        obtain ⟨z, hz⟩ : ∃ z, y % 20 = z := ⟨_, rfl⟩
        have hmd : Int.tmod (y : Int) 20 = (z : Int) := by rw [← hz, show (20 : Int) = ((20 : Nat) : Int) from rfl, ← Int.ofNat_tmod]
        have hzb : z < 20 := by omega
        clear hz
        go_wp2
        go_ret
        exact ⟨z, rfl, by omega, by omega, hD1.trans hD2⟩
theorem tabP (x : Nat) (hx : x < 22) : ∃ y : ByteArray, (#[.string ⟨#[97]⟩, .string ⟨#[98]⟩, .string ⟨#[97, 98]⟩, .string ⟨#[97, 97]⟩, .string ⟨#[32]⟩, .string ⟨#[10]⟩, .string ⟨#[9]⟩, .string ⟨#[195, 169]⟩, .string ⟨#[230, 151, 165]⟩, .string ⟨#[240, 159, 152, 128]⟩, .string ⟨#[39]⟩, .string ⟨#[34]⟩, .string ⟨#[92]⟩, .string ⟨#[120]⟩, .string ⟨#[90]⟩, .string ⟨#[123]⟩, .string ⟨#[125]⟩, .string ⟨#[48]⟩, .string ⟨#[45]⟩, .string ⟨#[44]⟩, .string ⟨#[127]⟩, .string ⟨#[1]⟩] : Array Value)[x]? = some (.string y) ∧ y.size ≤ 4 := by
  match x, hx with
  | 0, _ => exact ⟨_, rfl, by decide⟩
  | 1, _ => exact ⟨_, rfl, by decide⟩
  | 2, _ => exact ⟨_, rfl, by decide⟩
  | 3, _ => exact ⟨_, rfl, by decide⟩
  | 4, _ => exact ⟨_, rfl, by decide⟩
  | 5, _ => exact ⟨_, rfl, by decide⟩
  | 6, _ => exact ⟨_, rfl, by decide⟩
  | 7, _ => exact ⟨_, rfl, by decide⟩
  | 8, _ => exact ⟨_, rfl, by decide⟩
  | 9, _ => exact ⟨_, rfl, by decide⟩
  | 10, _ => exact ⟨_, rfl, by decide⟩
  | 11, _ => exact ⟨_, rfl, by decide⟩
  | 12, _ => exact ⟨_, rfl, by decide⟩
  | 13, _ => exact ⟨_, rfl, by decide⟩
  | 14, _ => exact ⟨_, rfl, by decide⟩
  | 15, _ => exact ⟨_, rfl, by decide⟩
  | 16, _ => exact ⟨_, rfl, by decide⟩
  | 17, _ => exact ⟨_, rfl, by decide⟩
  | 18, _ => exact ⟨_, rfl, by decide⟩
  | 19, _ => exact ⟨_, rfl, by decide⟩
  | 20, _ => exact ⟨_, rfl, by decide⟩
  | 21, _ => exact ⟨_, rfl, by decide⟩
  | n + 22, h => exact absurd h (by omega)
theorem tabB (x : Nat) (hx : x < 6) : ∃ y : ByteArray, (#[.string ⟨#[255]⟩, .string ⟨#[195]⟩, .string ⟨#[237, 160, 128]⟩, .string ⟨#[192, 128]⟩, .string ⟨#[244, 144, 128, 128]⟩, .string ⟨#[226, 130]⟩] : Array Value)[x]? = some (.string y) ∧ y.size ≤ 4 := by
  match x, hx with
  | 0, _ => exact ⟨_, rfl, by decide⟩
  | 1, _ => exact ⟨_, rfl, by decide⟩
  | 2, _ => exact ⟨_, rfl, by decide⟩
  | 3, _ => exact ⟨_, rfl, by decide⟩
  | 4, _ => exact ⟨_, rfl, by decide⟩
  | 5, _ => exact ⟨_, rfl, by decide⟩
set_option maxHeartbeats 1000000 in
set_option maxRecDepth 100000 in
theorem drawPiece_any (w : World) (g : Nat) (a : Option Addr) (n c : Nat) (bs : List Int) (hR : Rdr w g a n c bs) :
    Calls Tryz.prog 60 #[.pointer (some ⟨g, 0, none⟩)] w fun e w' => ∃ s : ByteArray, e = .returned (.string s) ∧ s.size ≤ 4 ∧ Drawn w w' g a n c bs := by
  have hB := fun W h => below_any W g a n c bs 22 (by omega) (by omega) h
  go_enter Tryz.func60, Tryz.ntmps60
  go_wp2_with fail
  refine (hB _ (hR.keep ((Below.refl _ _).alloc (Nat.le_refl _) _))).mono ?_
  rintro e w2 ⟨x, rfl, hx, hD2⟩
  obtain ⟨y, hy, hy0⟩ := tabP x hx
  have hcl := lit_cell hR.lt hD2.gb hy
  have hxz : (x : Int) < 22 := by omega
  have hDA := ((Drawn.refl hR).below ((Below.refl _ _).alloc (Nat.le_refl _) (Obj.cells #[.string ⟨#[97]⟩, .string ⟨#[98]⟩, .string ⟨#[97, 98]⟩, .string ⟨#[97, 97]⟩, .string ⟨#[32]⟩, .string ⟨#[10]⟩, .string ⟨#[9]⟩, .string ⟨#[195, 169]⟩, .string ⟨#[230, 151, 165]⟩, .string ⟨#[240, 159, 152, 128]⟩, .string ⟨#[39]⟩, .string ⟨#[34]⟩, .string ⟨#[92]⟩, .string ⟨#[120]⟩, .string ⟨#[90]⟩, .string ⟨#[123]⟩, .string ⟨#[125]⟩, .string ⟨#[48]⟩, .string ⟨#[45]⟩, .string ⟨#[44]⟩, .string ⟨#[127]⟩, .string ⟨#[1]⟩] 9))).trans hD2
  clear hy hB hD2
  go_wp2
  go_ret
  exact ⟨y, rfl, hy0, hDA⟩
end Go.Proofs.YtahcpgldpbejiaaGreatDoor

namespace Go.Proofs.YtahcpgldpbejiaaGreatDoor
open Go.RowKit
set_option linter.unusedVariables false
set_option linter.unusedSimpArgs false

theorem Drawn.side {w w3 : World} {g : Nat} {a : Option Addr} {n c : Nat} {bs : List Int} (hR : Rdr w g a n c bs) (h : Drawn w w3 g a n c bs) (L o : Nat) (v : Value) (hL : w.heap.size ≤ L) : Drawn w (w3.setCell ⟨L, o, none⟩ v) g a n c bs := by
  have hLg : L ≠ g := by have := hR.lt; omega
  obtain ⟨p, hp, hc⟩ := h.rd.c1
  refine ⟨⟨by simp [h.rd.lt], ?_, ⟨p, hp, ?_⟩, by simp [h.rd.fz], h.rd.nb, h.rd.lim, fun h0 => ?_⟩, h.gb.andThen (gb_set _ _ _ _) (fun j hj => .inl (by cases hj; exact hL))⟩
  · rw [World.cell?_setCell_far _ _ _ _ (by simpa using hLg)]; exact h.rd.c0
  · rw [World.cell?_setCell_far _ _ _ _ (by simpa using hLg)]; exact hc
  · obtain ⟨b, off, e, hne, hlt, hcs⟩ := h.rd.by_ h0
    obtain ⟨b', off', e', _, hlt', _⟩ := hR.by_ h0
    rw [e] at e'
    simp at e'
    obtain ⟨rfl, rfl⟩ := e'
    exact ⟨b, off, e, hne, by simp [hlt], fun k hk => by rw [World.cell?_setCell_far _ _ _ _ (by simp; omega)]; exact hcs k hk⟩
/-- The bytes of a text. -/
def strSz : Value → Nat
  | .string b => b.size
  | _ => 0
set_option maxHeartbeats 2000000 in
set_option maxRecDepth 100000 in
theorem drawText_any (w : World) (g : Nat) (a : Option Addr) (n c : Nat) (bs : List Int) (hR : Rdr w g a n c bs) :
    Calls Tryz.prog 35 #[.pointer (some ⟨g, 0, none⟩)] w fun e w' => ∃ s : ByteArray, e = .returned (.string s) ∧ s.size ≤ 20000 ∧ Drawn w w' g a n c bs := by
  have hB12 := fun W h => below_any W g a n c bs 12 (by omega) (by omega) h
  have hP := fun W h => drawPiece_any W g a n c bs h
  have hO25 := fun W h => once_any W g a n c bs 25 (by omega) (by omega) h
  have hB6 := fun W h => below_any W g a n c bs 6 (by omega) (by omega) h
  have hO40 := fun W h => once_any W g a n c bs 40 (by omega) (by omega) h
  have hB3 := fun W h => below_any W g a n c bs 3 (by omega) (by omega) h
  go_enter Tryz.func35, Tryz.ntmps35
  go_wp2_with fail
  refine (hB12 _ hR).mono ?_
  rintro e w1 ⟨m, rfl, hm, hD1⟩
  clear hB12
  go_wp2
  go_loopw [4, 5] (fun s i wr => ∃ (k : Nat) (t : ByteArray), k ≤ m ∧ i = .int .i64 k ∧ s = .string t ∧ t.size ≤ 4 * k ∧ Drawn w wr g a n c bs) (fun _ i _ => m - (RowKit.intOf i).toNat)
  case atStart => exact ⟨0, ⟨#[]⟩, by omega, rfl, rfl, by decide, hD1⟩
  case round =>
    obtain ⟨k, t, hk, rfl, rfl, ht, hD⟩ := hrel
    clear hD1
    by_cases hlt : k < m
    · have hltz : (k : Int) < (m : Int) := by omega
      go_wp2_with fail
      refine (hP _ hD.rd).mono ?_
      rintro e w2 ⟨s, rfl, hs, hD2⟩
      have hDD := hD.trans hD2
      have htb : t.size ≤ 1000 := by omega
      have hsz : (t ++ s).size ≤ 4 * (k + 1) := by rw [ByteArray.size_append]; omega
      clear hP hO25 hB6 hO40 hB3
      go_wp2
      go_roundw
      case rel => exact ⟨k + 1, t ++ s, by omega, by go_num, rfl, hsz, hDD⟩
      case measure => first | (simp [RowKit.intOf]; done) | (simp [RowKit.intOf]; omega)
    · have hltz : ¬ (k : Int) < (m : Int) := by omega
      have htb : t.size ≤ 48 := by omega
      clear hP ht
      go_wp2_with fail
      refine (hO25 _ hD.rd).mono ?_
      rintro e w2 ⟨t2, rfl, hD2⟩
      have hDB := hD.trans hD2
      clear hO25 hD2 hD
      cases t2 with
      | true =>
        go_wp2_with fail
        refine (hB6 _ (hDB.rd.keep ((Below.refl _ _).alloc (Nat.le_refl _) _))).mono ?_
        rintro e w3 ⟨x, rfl, hx, hD3⟩
        obtain ⟨y, hy, hy0⟩ := tabB x hx
        have hcl := lit_cell hDB.rd.lt hD3.gb hy
        have hxz : (x : Int) < 6 := by omega
        have hDC := (hDB.below ((Below.refl _ _).alloc (Nat.le_refl _) (Obj.cells #[.string ⟨#[255]⟩, .string ⟨#[195]⟩, .string ⟨#[237, 160, 128]⟩, .string ⟨#[192, 128]⟩, .string ⟨#[244, 144, 128, 128]⟩, .string ⟨#[226, 130]⟩] 9))).trans hD3
        have hty : (t ++ y).size ≤ 60 := by rw [ByteArray.size_append]; omega
        clear hy hB6 hD3 hDB
        go_wp2_with fail
        refine (hO40 _ hDC.rd).mono ?_
        rintro e w5 ⟨t5, rfl, hD5⟩
        have hDE := hDC.trans hD5
        clear hO40 hD5
        cases t5 with
        | true =>
          go_wp2
          go_loopw [4] (fun s wr => ∃ t : ByteArray, s = .string t ∧ t.size ≤ 16386 ∧ Drawn w wr g a n c bs) (fun s _ => 16387 - strSz s)
          case atStart => exact ⟨(t ++ y), rfl, by omega, hDE⟩
          case round =>
            obtain ⟨t, rfl, ht, hD⟩ := hrel
            clear hDE
            go_wp2_with fail
            refine (hB3 _ hD.rd).mono ?_
            rintro e w7 ⟨x, rfl, hx, hD7⟩
            have hDD := hD.trans hD7
            clear hB3 hD7
            by_cases hc : (t.size : Int) < 16384 + (x : Int) - 1
            · have hsz : (t ++ ⟨#[97]⟩).size = t.size + 1 := by rw [ByteArray.size_append]; rfl
              go_wp2
              go_roundw
              case rel => exact ⟨t ++ ⟨#[97]⟩, rfl, by omega, hDD⟩
              case measure => show 16387 - (t ++ ⟨#[97]⟩).size < 16387 - t.size; omega
            · go_wp2
              go_ret
              exact ⟨t, rfl, by omega, hDD⟩
        | false =>
          go_wp2
          go_ret
          exact ⟨(t ++ y), rfl, by omega, hDE⟩
      | false =>
        go_wp2_with fail
        refine (hO40 _ hDB.rd).mono ?_
        rintro e w5 ⟨t5, rfl, hD5⟩
        have hDE := hDB.trans hD5
        clear hO40 hD5
        cases t5 with
        | true =>
          go_wp2
          go_loopw [4] (fun s wr => ∃ t : ByteArray, s = .string t ∧ t.size ≤ 16386 ∧ Drawn w wr g a n c bs) (fun s _ => 16387 - strSz s)
          case atStart => exact ⟨t, rfl, by omega, hDE⟩
          case round =>
            obtain ⟨t, rfl, ht, hD⟩ := hrel
            clear hDE
            go_wp2_with fail
            refine (hB3 _ hD.rd).mono ?_
            rintro e w7 ⟨x, rfl, hx, hD7⟩
            have hDD := hD.trans hD7
            clear hB3 hD7
            by_cases hc : (t.size : Int) < 16384 + (x : Int) - 1
            · have hsz : (t ++ ⟨#[97]⟩).size = t.size + 1 := by rw [ByteArray.size_append]; rfl
              go_wp2
              go_roundw
              case rel => exact ⟨t ++ ⟨#[97]⟩, rfl, by omega, hDD⟩
              case measure => show 16387 - (t ++ ⟨#[97]⟩).size < 16387 - t.size; omega
            · go_wp2
              go_ret
              exact ⟨t, rfl, by omega, hDD⟩
        | false =>
          go_wp2
          go_ret
          exact ⟨t, rfl, by omega, hDE⟩
end Go.Proofs.YtahcpgldpbejiaaGreatDoor

namespace Go.Proofs.YtahcpgldpbejiaaGreatDoor
open Go.RowKit
set_option linter.unusedVariables false
set_option linter.unusedSimpArgs false

/-- Bytes that came in. -/
structure Src (w : World) (a : Option Addr) (n c : Nat) (bs : List Int) : Prop where
  nb : n ≤ 1048576
  lim : ∀ k, 0 ≤ bs.getD k 0 ∧ bs.getD k 0 < 256
  by_ : 0 < n → ∃ b off, a = some ⟨b, off, none⟩ ∧ b < w.heap.size ∧ ∀ k, k < n → w.cell? ⟨b, off + k, none⟩ = some (.int .u8 (bs.getD k 0))
theorem Src.keep {w w' : World} {a : Option Addr} {n c : Nat} {bs : List Int} (h : Src w a n c bs) (hb : Below w.heap.size w w') : Src w' a n c bs :=
  ⟨h.nb, h.lim, fun h0 => by
    obtain ⟨b, off, e, hlt, hcs⟩ := h.by_ h0
    exact ⟨b, off, e, Nat.lt_of_lt_of_le hlt hb.size, fun k hk => (hb.cell (p := ⟨b, off + k, none⟩) hlt).trans (hcs k hk)⟩⟩
set_option maxRecDepth 100000 in
theorem open_any (w : World) (a : Option Addr) (n c : Nat) (bs : List Int) (h : Src w a n c bs) :
    Calls Tryz.prog 36 #[.slice a n c] w fun e w' => ∃ g, e = .returned (.pointer (some ⟨g, 0, none⟩)) ∧ w.heap.size ≤ g ∧ Rdr w' g a n c bs ∧ Below w.heap.size w w' := by
  go_enter Tryz.func36, Tryz.ntmps36
  go_wp2
  go_ret
  refine ⟨w.heap.size, rfl, Nat.le_refl _, ⟨by simp, ?_, ⟨0, by omega, ?_⟩, World.frozen?_alloc_at _ _ _ _ (by simp), h.nb, h.lim, fun h0 => ?_⟩, (Below.refl _ _).alloc (Nat.le_refl _) _⟩
  · rw [World.cell?_alloc_at _ _ w.heap.size 0 rfl]; rfl
  · rw [World.cell?_alloc_at _ _ w.heap.size 1 rfl]; rfl
  · obtain ⟨b, off, e, hlt, hcs⟩ := h.by_ h0
    exact ⟨b, off, e, by omega, by simp; omega, fun k hk => (((Below.refl w.heap.size w).alloc (Nat.le_refl _) _).cell (p := ⟨b, off + k, none⟩) hlt).trans (hcs k hk)⟩
set_option maxRecDepth 100000 in
theorem drawTextRepr_any (w : World) (a : Option Addr) (n c : Nat) (bs : List Int) (h : Src w a n c bs) :
    Calls Tryz.prog 14 #[.slice a n c] w fun e w' => ∃ s : ByteArray, e = .returned (.string s) ∧ s.size ≤ 20000 ∧ Below w.heap.size w w' := by
  have hO := open_any w a n c bs h
  go_enter Tryz.func14, Tryz.ntmps14
  go_wp2_with fail
  refine hO.mono ?_
  rintro e w1 ⟨g, rfl, hg, hR, hB⟩
  have hT := drawText_any w1 g a n c bs hR
  go_wp2_with fail
  refine hT.mono ?_
  rintro e w2 ⟨s, rfl, hs, hD⟩
  have hB2 := hB.trans (gb_to hD.gb (fun k hk => by cases hk; exact hg) hB.size)
  clear hT hO
  go_wp2
  go_ret
  exact ⟨s, rfl, hs, hB2⟩
end Go.Proofs.YtahcpgldpbejiaaGreatDoor

namespace Go.Proofs.YtahcpgldpbejiaaGreatDoor
open Go.ChangeShapes Go.WideShapes Go.ChangeAt Go.RowKit Go.Joins
set_option linter.unusedVariables false
set_option linter.unusedSimpArgs false

theorem cellsY : Tryz.prog.cellsOf 5 = 1 := by kernel_rfl
theorem rowY : 34 < Tryz.prog.types.size := of_decide_eq_true (by kernel_rfl)
theorem readY : Tryz.prog.readableRec 34 = true := by kernel_rfl
theorem u8_bounds {n : Int} (h : (Lit.int .u8 n).wf = true) : 0 ≤ n ∧ n < 256 := by
  simp [Lit.wf, IntKind.min, IntKind.max, IntKind.signed, IntKind.bits] at h
  omega
set_option maxRecDepth 100000 in
/-- Bytes that came in, opened. -/
theorem open_byt {H : Type} {enc : TypeId × Value → H} {W : World} {base : Nat} {v : Value} {d : DataW H} {p : List MemPlace} (hv : Value.okWide Tryz.prog W .any base 34 v)
    (h : DataW.Trod enc Tryz.prog W 0 (fun _ => true) true 34 v d p) :
    ∃ (a : Option Addr) (cap : Nat) (zs : List Int), v = .slice a zs.length cap ∧ zs.length ≤ 9223372036854775807 ∧ (zs.length ≤ 1048576 → Src W a zs.length cap zs) := by
  have hlt : ∀ x ∈ p, x.block < W.heap.size := by obtain ⟨m, hm⟩ := h; exact DataW.trod_lt m _ _ _ hm
  obtain ⟨a0, len, cap, rfl⟩ := okWide_slice Tryz.underlying34 hv
  obtain ⟨fuel, hf⟩ := h
  rcases open_ints Tryz.underlying34 Tryz.underlying5 cellsY hf with ⟨hcs, hx⟩ | ⟨x, l, c, ss, hcs, _, hl, hm, hz, hx, hcell, hwz⟩
  · have hcs' : [Value.slice a0 len cap] = [Value.slice none 0 0] := hcs
    simp only [List.cons.injEq, Value.slice.injEq, and_true] at hcs'
    obtain ⟨rfl, rfl, rfl⟩ := hcs'
    exact ⟨none, 0, [], rfl, by simp, fun _ => ⟨by simp, fun k => by simp, fun h => by simp at h⟩⟩
  · have hcs' : [Value.slice a0 len cap] = [Value.slice (some x) l c] := hcs
    simp only [List.cons.injEq, Value.slice.injEq, and_true] at hcs'
    obtain ⟨rfl, rfl, rfl⟩ := hcs'
    have hz' : ss.length = cap := by simpa using hz
    have hlen : (ss.take len).length = len := by simp; omega
    unfold maxLen at hm
    refine ⟨some x, cap, ss.take len, by rw [hlen], by omega, fun hb => ⟨by omega, fun k => ?_, fun h0 => ?_⟩⟩
    · by_cases hk : k < (ss.take len).length
      · have : (ss.take len).getD k 0 = (ss.take len)[k] := by rw [List.getD, List.getElem?_eq_getElem hk]; rfl
        rw [this]
        exact u8_bounds (hwz _ (List.mem_of_mem_take (List.getElem_mem hk)))
      · have : (ss.take len).getD k 0 = 0 := by rw [List.getD, List.getElem?_eq_none (by omega)]; rfl
        rw [this]; omega
    obtain ⟨b, off, spot⟩ := x
    have hc0 := hcell 0 (by omega)
    have hspot : spot = none := by simpa [Addr.add] using World.cell?_spot hc0
    subst hspot
    have hb : b < W.heap.size := by
      have : (MemPlace.cell b off) ∈ p := by
        have hp : p = MemPlace.row ⟨b, off, none⟩ ss.length := by simpa using congrArg Prod.snd hx
        rw [hp]; simp [MemPlace.row, Addr.add]; omega
      exact hlt (MemPlace.cell b off) this
    refine ⟨b, off, rfl, hb, fun k hk => ?_⟩
    have hk' : k < len := by omega
    have := hcell k (by omega)
    have e : (⟨b, off, none⟩ : Addr).add k = ⟨b, off + k, none⟩ := by unfold Addr.add; split <;> simp_all
    rw [e] at this
    rw [this]
    simp [List.getD, List.getElem?_take, hk']
theorem errF_of {W : World} {n0 n1 : String} {t0 t1 : List UInt8} {r1 : List (String × DataW Unit)} {g0 g1 : Nat}
    (h1 : laidMet Tryz.prog ((n0, .iface nmE (.ptr (.agg [.lit (.string t0)]))) :: (n1, .iface nmE (.ptr (.agg [.lit (.string t1)]))) :: r1) W)
    (e0 : Tryz.prog.globalNamed n0 = some g0) (e1 : Tryz.prog.globalNamed n1 = some g1) (eg : g1 = Tryz.laysAtoi_ren.g 15)
    (y0 : (Tryz.prog.globals[g0]?).map (·.type) = some 54) (y1 : (Tryz.prog.globals[g1]?).map (·.type) = some 54) : ErrF W := by
  obtain ⟨a0, a1, s0, s1, c0, c1, u0, u1, v0, v1, _⟩ := laid_sentinels2 h1 e0 y0 e1 y1 Tryz.underlying54 rowE Tryz.underlying189 Tryz.underlying191 rfl rfl Tryz.underlying9 cellsE cellsS
  have h := World.var?_cell e1 v1 0
  rw [eg] at h
  exact ⟨_, h, .inr ⟨_, _, rfl⟩⟩
end Go.Proofs.YtahcpgldpbejiaaGreatDoor
