import Derived.Test.YtahcpgldpbejiaaGreatDoorZBase
import Derived.Deep.RegionHeld3
import Derived.Laws.BitsAllLaws
import Derived.Test.YtahcpgldpbejiaaGreatDoorMzC
import Derived.Test.YtahcpgldpbejiaaGreatDoorMzA
import Derived.Test.YtahcpgldpbejiaaGreatDoorMzB
import Derived.Deep.Cut
namespace Go.Proofs.YtahcpgldpbejiaaGreatDoor.Z
open Go.RowKit
set_option linter.unusedVariables false
set_option linter.unusedSimpArgs false

/-- What a draw reads from: the bytes and the place. -/
structure Rdr (w : World) (g : Nat) (a : Option Addr) (n c : Nat) (bs : List Int) : Prop where
  lt : g < w.heap.size
  c0 : w.cell? ⟨g, 0, none⟩ = some (.slice a n c)
  c1 : ∃ p : Nat, p ≤ n ∧ w.cell? ⟨g, 1, none⟩ = some (.int .i64 p)
  fz : w.frozen? ⟨g, 1, none⟩ = false
  nb : n ≤ 1048576
  lim : ∀ k, 0 ≤ bs.getD k 0 ∧ bs.getD k 0 < 256
  by_ : 0 < n → ∃ b off, a = some ⟨b, off, none⟩ ∧ b ≠ g ∧ b < w.heap.size ∧ ∀ k, k < n → w.cell? ⟨b, off + k, none⟩ = some (.int .u8 (bs.getD k 0))
theorem Rdr.keep {w w' : World} {g : Nat} {a : Option Addr} {n c : Nat} {bs : List Int} (h : Rdr w g a n c bs) (hb : Below w.heap.size w w') : Rdr w' g a n c bs := by
  obtain ⟨p, hp, hc⟩ := h.c1
  refine ⟨Nat.lt_of_lt_of_le h.lt hb.size, (hb.cell (p := ⟨g, 0, none⟩) h.lt).trans h.c0, ⟨p, hp, (hb.cell (p := ⟨g, 1, none⟩) h.lt).trans hc⟩, (hb.frozen (p := ⟨g, 1, none⟩) h.lt).trans h.fz, h.nb, h.lim, fun h0 => ?_⟩
  obtain ⟨b, off, e, hne, hlt, hcs⟩ := h.by_ h0
  exact ⟨b, off, e, hne, Nat.lt_of_lt_of_le hlt hb.size, fun k hk => (hb.cell (p := ⟨b, off + k, none⟩) hlt).trans (hcs k hk)⟩
/-- A step: the reader alone has turned. -/
structure Drawn (w w' : World) (g : Nat) (a : Option Addr) (n c : Nat) (bs : List Int) : Prop where
  rd : Rdr w' g a n c bs
  gb : w.grownBy w' (some g)
theorem Drawn.trans {w w1 w2 : World} {g : Nat} {a : Option Addr} {n c : Nat} {bs : List Int} (h : Drawn w w1 g a n c bs) (k : Drawn w1 w2 g a n c bs) : Drawn w w2 g a n c bs := ⟨k.rd, h.gb.trans k.gb⟩
theorem Drawn.below {w w1 w2 : World} {g : Nat} {a : Option Addr} {n c : Nat} {bs : List Int} (h : Drawn w w1 g a n c bs) (k : Below w1.heap.size w1 w2) : Drawn w w2 g a n c bs := ⟨h.rd.keep k, h.gb.trans (gb_below _ k)⟩
theorem Drawn.refl {w : World} {g : Nat} {a : Option Addr} {n c : Nat} {bs : List Int} (h : Rdr w g a n c bs) : Drawn w w g a n c bs := ⟨h, World.grownBy.refl _ _⟩
theorem Rdr.put {w : World} {g : Nat} {a : Option Addr} {n c : Nat} {bs : List Int} (h : Rdr w g a n c bs) (q : Nat) (hq : q ≤ n) : Drawn w (w.setCell ⟨g, 1, none⟩ (.int .i64 q)) g a n c bs := by
  obtain ⟨p, hp, hc⟩ := h.c1
  refine ⟨⟨by simp [h.lt], ?_, ⟨q, hq, World.cell?_setCell_same (w := w) (a := ⟨g, 1, none⟩) (v := .int .i64 q) hc⟩, by simp [h.fz], h.nb, h.lim, fun h0 => ?_⟩, gb_set _ _ _ _⟩
  · rw [World.cell?_setCell_other (w := w) (a := ⟨g, 1, none⟩) (b := ⟨g, 0, none⟩) (v := .int .i64 q) (by simp)]; exact h.c0
  · obtain ⟨b, off, e, hne, hlt, hcs⟩ := h.by_ h0
    exact ⟨b, off, e, hne, by simp [hlt], fun k hk => by rw [World.cell?_setCell_far _ _ _ _ (fun e => hne e.symm)]; exact hcs k hk⟩
set_option maxHeartbeats 1000000 in
set_option maxRecDepth 100000 in
theorem next_any (w : World) (g : Nat) (a : Option Addr) (n c : Nat) (bs : List Int) (hR : Rdr w g a n c bs) :
    Calls Tryz.prog 83 #[.pointer (some ⟨g, 0, none⟩)] w fun e w' => ∃ x : Int, e = .returned (.int .i64 x) ∧ 0 ≤ x ∧ x < 256 ∧ Drawn w w' g a n c bs := by
  obtain ⟨p, hp, hc1⟩ := hR.c1
  have hc0 := hR.c0
  have hfz := hR.fz
  have hnb := hR.nb
  by_cases hpn : p < n
  · obtain ⟨b, off, rfl, hne, hlt, hcs⟩ := hR.by_ (by omega)
    have hcb := hcs p hpn
    have hl := hR.lim p
    obtain ⟨x, hx⟩ : ∃ x, bs.getD p 0 = x := ⟨_, rfl⟩
    rw [hx] at hcb hl
    have hpz : ¬ (n : Int) ≤ (p : Int) := by omega
    have hgl := hR.lt
    have hgne : ¬ (b = g) := hne
    have hgne2 : ¬ (g = b) := fun e => hne e.symm
    clear hcs
    have hpw : wrap64 ((p : Int) + 1) = (p : Int) + 1 := by unfold wrap64; omega
    obtain ⟨q, hq⟩ : ∃ q : Nat, q = p + 1 := ⟨_, rfl⟩
    have hqz : (p : Int) + 1 = (q : Int) := by omega
    have hqm : (q : Int) - 1 = (p : Int) := by omega
    rw [hqz] at hpw
    have HQ : Hid (q = p + 1) := hq
    have hqn : q ≤ n := by omega
    clear hq hqm
    go_enter Tryz.func83, Tryz.ntmps83
    go_wp2
    go_region_held3 (fun W => W.cell? ⟨g, 0, none⟩ = some (.slice (some ⟨b, off, none⟩) n c) ∧ W.cell? ⟨g, 1, none⟩ = some (.int .i64 p)) (go_keep) (fail)
    all_goals (try go_wp2)
    have hP := (hR.put q hqn).below (Below.refl _ _).drew
    have k0 := hP.rd.c0
    have k1 : (w.setCell ⟨g, 1, none⟩ (.int .i64 q)).drew.cell? ⟨g, 1, none⟩ = some (.int .i64 q) := World.cell?_setCell_same (w := w) (a := ⟨g, 1, none⟩) (v := .int .i64 q) hc1
    have kb : (w.setCell ⟨g, 1, none⟩ (.int .i64 q)).drew.cell? ⟨b, off + p, none⟩ = some (.int .u8 x) := (World.cell?_setCell_far w ⟨g, 1, none⟩ ⟨b, off + p, none⟩ _ hgne2).trans hcb
    have hqm : (q : Int) - 1 = (p : Int) := by omega
    have hqw : IntKind.i64.wrap ((q : Int) - 1) = (p : Int) := by simp [IntKind.wrap, IntKind.bits, IntKind.signed]; omega
    have hqx : wrap64 ((q : Int) - 1) = (p : Int) := by unfold wrap64; omega
    have hpw2 : IntKind.i64.wrap (p : Int) = (p : Int) := by simp [IntKind.wrap, IntKind.bits, IntKind.signed]; omega
    have hxw : IntKind.i64.wrap x = x := by simp [IntKind.wrap, IntKind.bits, IntKind.signed]; omega
    have hp0 : (0 : Int) ≤ (p : Int) := by omega
    have hpn2 : (p : Int) < (n : Int) := by omega
    clear hcb hc0 hc1 hfz hR hpw hqz HQ
    generalize (w.setCell ⟨g, 1, none⟩ (.int .i64 q)).drew = w2 at hP k0 k1 kb ⊢
    go_region_held3 (fun W => W.cell? ⟨g, 0, none⟩ = some (.slice (some ⟨b, off, none⟩) n c) ∧ W.cell? ⟨g, 1, none⟩ = some (.int .i64 q) ∧ W.cell? ⟨b, off + p, none⟩ = some (.int .u8 x)) (go_keep) (fail)
    all_goals (try go_wp2)
    all_goals go_ret
    all_goals exact ⟨x, rfl, hl.1, hl.2, hP.below (Below.refl _ _).drew⟩
  · obtain rfl : p = n := by omega
    go_enter Tryz.func83, Tryz.ntmps83
    go_wp2
    go_region_held3 (fun W => W.cell? ⟨g, 0, none⟩ = some (.slice a p c) ∧ W.cell? ⟨g, 1, none⟩ = some (.int .i64 p)) (go_keep) (fail)
    all_goals (try go_wp2)
    all_goals go_ret
    all_goals exact ⟨0, rfl, by omega, by omega, (Drawn.refl hR).below (Below.refl _ _).drew⟩
set_option maxRecDepth 100000 in
theorem below_any (w : World) (g : Nat) (a : Option Addr) (n c : Nat) (bs : List Int) (m : Nat) (hm : 2 ≤ m) (hm2 : m ≤ 256) (hR : Rdr w g a n c bs) :
    Calls Tryz.prog 59 #[.pointer (some ⟨g, 0, none⟩), .int .i64 m] w fun e w' => ∃ x : Nat, e = .returned (.int .i64 x) ∧ x < m ∧ Drawn w w' g a n c bs := by
  have hN := fun W h => next_any W g a n c bs h
  have h1 : ¬ (m : Int) ≤ 1 := by omega
  have h2 : (m : Int) ≤ 256 := by omega
  have h3 : (m : Int) ≠ 0 := by omega
  go_enter Tryz.func59, Tryz.ntmps59
  go_wp2_with fail
  refine (hN _ hR).mono ?_
  rintro e w1 ⟨x, rfl, hx0, hx1, hD⟩
  obtain ⟨y, hy⟩ : ∃ y : Nat, x = (y : Int) := ⟨x.toNat, by omega⟩
  subst hy
  obtain ⟨z, hz⟩ : ∃ z, y % m = z := ⟨_, rfl⟩
  have hzm : z < m := by rw [← hz]; exact Nat.mod_lt _ (by omega)
  have hmd : Int.tmod (y : Int) (m : Int) = (z : Int) := by rw [← hz, ← Int.ofNat_tmod]
  have hmd2 : (y : Int) % (m : Int) = (z : Int) := by rw [← hz]; rfl
  clear hz
  go_wp2
  go_ret
  exact ⟨z, rfl, hzm, hD⟩
set_option maxRecDepth 100000 in
theorem once_any (w : World) (g : Nat) (a : Option Addr) (n c : Nat) (bs : List Int) (m : Nat) (hm : 2 ≤ m) (hm2 : m ≤ 256) (hR : Rdr w g a n c bs) :
    Calls Tryz.prog 61 #[.pointer (some ⟨g, 0, none⟩), .int .i64 m] w fun e w' => ∃ x : Bool, e = .returned (.bool x) ∧ Drawn w w' g a n c bs := by
  have hN := fun W h => below_any W g a n c bs m hm hm2 h
  go_enter Tryz.func61, Tryz.ntmps61
  go_wp2_with fail
  refine (hN _ hR).mono ?_
  rintro e w1 ⟨x, rfl, hx1, hD⟩
  go_wp2
  go_ret
  exact ⟨_, rfl, hD⟩
set_option maxHeartbeats 1000000 in
set_option maxRecDepth 100000 in
theorem word_any (w : World) (g : Nat) (a : Option Addr) (n c : Nat) (bs : List Int) (hR : Rdr w g a n c bs) :
    Calls Tryz.prog 64 #[.pointer (some ⟨g, 0, none⟩)] w fun e w' => ∃ x : Int, e = .returned (.int .u64 x) ∧ 0 ≤ x ∧ x ≤ 18446744073709551615 ∧ Drawn w w' g a n c bs := by
  have hN := fun W h => next_any W g a n c bs h
  go_enter Tryz.func64, Tryz.ntmps64
  go_wp2
  go_loopw [3, 4] (fun x i wr => ∃ (k : Nat) (y : Int), k ≤ 8 ∧ i = .int .i64 k ∧ x = .int .u64 y ∧ 0 ≤ y ∧ y ≤ 18446744073709551615 ∧ Drawn w wr g a n c bs) (fun _ i _ => 8 - (RowKit.intOf i).toNat)
  case atStart => exact ⟨0, 0, by omega, rfl, rfl, by omega, by omega, Drawn.refl hR⟩
  case round =>
    obtain ⟨k, y, hk, rfl, rfl, hy0, hy1, hD⟩ := hrel
    by_cases hlt : k < 8
    · obtain ⟨Y, hY⟩ : ∃ Y : Nat, IntKind.u64.wrap (y * 256) = (Y : Int) := ⟨(IntKind.u64.wrap (y * 256)).toNat, by simp [IntKind.wrap, IntKind.bits, IntKind.signed]; omega⟩
      have hYb : Y < 18446744073709551616 := by
        have : IntKind.u64.wrap (y * 256) < 18446744073709551616 := by simp [IntKind.wrap, IntKind.bits, IntKind.signed]; omega
        omega
      go_wp2_with fail
      refine (hN _ hD.rd).mono ?_
      rintro e w1 ⟨x, rfl, hx0, hx1, hD1⟩
      obtain ⟨z, hz⟩ : ∃ z : Nat, x = (z : Int) := ⟨x.toNat, by omega⟩
      subst hz
      obtain ⟨R, hRR⟩ : ∃ R, Y ||| z = R := ⟨_, rfl⟩
      have hRb : R < 18446744073709551616 := by
        rw [← hRR]
        exact Nat.or_lt_two_pow (n := 64) hYb (by omega)
      have hor : bits .or .u64 (Y : Int) (z : Int) = (R : Int) := by rw [u64_or_nat _ _ (by omega) (by omega), hRR]
      clear hRR hN
      go_wp2
      go_roundw
      case rel => exact ⟨k + 1, R, by omega, by go_num, rfl, by omega, by omega, hD.trans hD1⟩
      case measure => first | (simp [RowKit.intOf]; done) | (simp [RowKit.intOf]; omega)
    · go_wp2
      go_ret
      exact ⟨y, rfl, hy0, hy1, hD⟩
theorem lit_cell {w w' : World} {g x : Nat} {cs : Array Value} {t : TypeId} {v : Value} (hg : g < w.heap.size) (hgb : (w.alloc (.cells cs t)).grownBy w' (some g)) (hv : cs[x]? = some v) : w'.cell? ⟨w.heap.size, x, none⟩ = some v := by
  refine (World.cell?_of_block (hgb.block w.heap.size (by simp) (by simp; omega))).trans ?_
  rw [World.cell?_alloc_at _ _ w.heap.size x rfl]; exact hv
theorem gb_cell {w w' : World} {g L o : Nat} {v : Value} (hgb : w.grownBy w' (some g)) (hne : L ≠ g) (hl : L < w.heap.size) (h : w.cell? ⟨L, o, none⟩ = some v) : w'.cell? ⟨L, o, none⟩ = some v :=
  (World.cell?_of_block (a := ⟨L, o, none⟩) (hgb.block L hl (by simp; omega))).trans h
theorem gb_frozen {w w' : World} {g L o : Nat} (hgb : w.grownBy w' (some g)) (hne : L ≠ g) (hl : L < w.heap.size) (h : w.frozen? ⟨L, o, none⟩ = false) : w'.frozen? ⟨L, o, none⟩ = false :=
  (World.frozen?_of_block (a := ⟨L, o, none⟩) (hgb.block L hl (by simp; omega))).trans h
theorem tabI (x : Nat) (hx : x < 12) : ∃ y : Int, (#[.int .i64 0, .int .i64 1, .int .i64 (-1), .int .i64 2, .int .i64 2147483648, .int .i64 4294967296, .int .i64 9223372036854775807, .int .i64 (-9223372036854775808), .int .i64 9007199254740992, .int .i64 4095, .int .i64 4096, .int .i64 4097] : Array Value)[x]? = some (.int .i64 y) ∧ -9223372036854775808 ≤ y ∧ y ≤ 9223372036854775807 := by
  match x, hx with
  | 0, _ => exact ⟨_, rfl, by decide, by decide⟩
  | 1, _ => exact ⟨_, rfl, by decide, by decide⟩
  | 2, _ => exact ⟨_, rfl, by decide, by decide⟩
  | 3, _ => exact ⟨_, rfl, by decide, by decide⟩
  | 4, _ => exact ⟨_, rfl, by decide, by decide⟩
  | 5, _ => exact ⟨_, rfl, by decide, by decide⟩
  | 6, _ => exact ⟨_, rfl, by decide, by decide⟩
  | 7, _ => exact ⟨_, rfl, by decide, by decide⟩
  | 8, _ => exact ⟨_, rfl, by decide, by decide⟩
  | 9, _ => exact ⟨_, rfl, by decide, by decide⟩
  | 10, _ => exact ⟨_, rfl, by decide, by decide⟩
  | 11, _ => exact ⟨_, rfl, by decide, by decide⟩
set_option maxHeartbeats 1000000 in
set_option maxRecDepth 100000 in
theorem drawInt_any (w : World) (g : Nat) (a : Option Addr) (n c : Nat) (bs : List Int) (hR : Rdr w g a n c bs) :
    Calls Tryz.prog 63 #[.pointer (some ⟨g, 0, none⟩)] w fun e w' => ∃ x : Int, e = .returned (.int .i64 x) ∧ -9223372036854775808 ≤ x ∧ x ≤ 9223372036854775807 ∧ Drawn w w' g a n c bs := by
  have hN := fun W h => next_any W g a n c bs h
  have hB := fun W h => below_any W g a n c bs 6 (by omega) (by omega) h
  have hB2 := fun W h => below_any W g a n c bs 12 (by omega) (by omega) h
  have hW := fun W h => word_any W g a n c bs h
  go_enter Tryz.func63, Tryz.ntmps63
  go_wp2_with fail
  refine (hB _ hR).mono ?_
  rintro e w1 ⟨k, rfl, hk, hD1⟩
  clear hB
  by_cases k0 : k = 0
  · subst k0
    go_wp2_with fail
    refine (hN _ hD1.rd).mono ?_
    rintro e w2 ⟨x, rfl, hx0, hx1, hD2⟩
    go_wp2
    go_ret
    exact ⟨x - 128, rfl, by omega, by omega, hD1.trans hD2⟩
  · by_cases k1 : k = 1
    · subst k1
      go_wp2_with fail
      refine (hB2 _ (hD1.rd.keep ((Below.refl _ _).alloc (Nat.le_refl _) _))).mono ?_
      rintro e w2 ⟨x, rfl, hx, hD2⟩
      obtain ⟨y, hy, hy0, hy1⟩ := tabI x hx
      have hcl := lit_cell hD1.rd.lt hD2.gb hy
      have hxz : (x : Int) < 12 := by omega
      have hDA := (hD1.below ((Below.refl _ _).alloc (Nat.le_refl _) (Obj.cells #[.int .i64 0, .int .i64 1, .int .i64 (-1), .int .i64 2, .int .i64 2147483648, .int .i64 4294967296, .int .i64 9223372036854775807, .int .i64 (-9223372036854775808), .int .i64 9007199254740992, .int .i64 4095, .int .i64 4096, .int .i64 4097] 2))).trans hD2
      clear hy hB2 hN hW hD2
      go_wp2
      go_ret
      exact ⟨y, rfl, hy0, hy1, hDA⟩
    · by_cases k2 : k = 2
      · subst k2
        go_wp2_with fail
        refine (hW _ hD1.rd).mono ?_
        rintro e w2 ⟨x, rfl, hx0, hx1, hD2⟩
        go_wp2
        go_ret
        exact ⟨_, rfl, by unfold wrap64; omega, by unfold wrap64; omega, hD1.trans hD2⟩
      · have e0 : ((k : Int) == 0) = false := by rw [beq_eq_false_iff_ne]; omega
        have e1 : ((k : Int) == 1) = false := by rw [beq_eq_false_iff_ne]; omega
        have e2 : ((k : Int) == 2) = false := by rw [beq_eq_false_iff_ne]; omega
        go_wp2_with fail
        refine (hN _ hD1.rd).mono ?_
        rintro e w2 ⟨x, rfl, hx0, hx1, hD2⟩
        obtain ⟨y, hy⟩ : ∃ y : Nat, x = (y : Int) := ⟨x.toNat, by omega⟩
        subst hy
        obtain ⟨z, hz⟩ : ∃ z, y % 20 = z := ⟨_, rfl⟩
        have hmd : Int.tmod (y : Int) 20 = (z : Int) := by rw [← hz, show (20 : Int) = ((20 : Nat) : Int) from rfl, ← Int.ofNat_tmod]
        have hzb : z < 20 := by omega
        clear hz
        go_wp2
        go_ret
        exact ⟨z, rfl, by omega, by omega, hD1.trans hD2⟩
structure Src (w : World) (a : Option Addr) (n c : Nat) (bs : List Int) : Prop where
  nb : n ≤ 1048576
  lim : ∀ k, 0 ≤ bs.getD k 0 ∧ bs.getD k 0 < 256
  by_ : 0 < n → ∃ b off, a = some ⟨b, off, none⟩ ∧ b < w.heap.size ∧ ∀ k, k < n → w.cell? ⟨b, off + k, none⟩ = some (.int .u8 (bs.getD k 0))
theorem Src.keep {w w' : World} {a : Option Addr} {n c : Nat} {bs : List Int} (h : Src w a n c bs) (hb : Below w.heap.size w w') : Src w' a n c bs :=
  ⟨h.nb, h.lim, fun h0 => by
    obtain ⟨b, off, e, hlt, hcs⟩ := h.by_ h0
    exact ⟨b, off, e, Nat.lt_of_lt_of_le hlt hb.size, fun k hk => (hb.cell (p := ⟨b, off + k, none⟩) hlt).trans (hcs k hk)⟩⟩
set_option maxRecDepth 100000 in
theorem open_any (w : World) (a : Option Addr) (n c : Nat) (bs : List Int) (h : Src w a n c bs) :
    Calls Tryz.prog 36 #[.slice a n c] w fun e w' => ∃ g, e = .returned (.pointer (some ⟨g, 0, none⟩)) ∧ w.heap.size ≤ g ∧ Rdr w' g a n c bs ∧ Below w.heap.size w w' := by
  go_enter Tryz.func36, Tryz.ntmps36
  go_wp2
  go_ret
  refine ⟨w.heap.size, rfl, Nat.le_refl _, ⟨by simp, ?_, ⟨0, by omega, ?_⟩, World.frozen?_alloc_at _ _ _ _ (by simp), h.nb, h.lim, fun h0 => ?_⟩, (Below.refl _ _).alloc (Nat.le_refl _) _⟩
  · rw [World.cell?_alloc_at _ _ w.heap.size 0 rfl]; rfl
  · rw [World.cell?_alloc_at _ _ w.heap.size 1 rfl]; rfl
  · obtain ⟨b, off, e, hlt, hcs⟩ := h.by_ h0
    exact ⟨b, off, e, by omega, by simp; omega, fun k hk => (((Below.refl w.heap.size w).alloc (Nat.le_refl _) _).cell (p := ⟨b, off + k, none⟩) hlt).trans (hcs k hk)⟩
end Go.Proofs.YtahcpgldpbejiaaGreatDoor.Z

namespace Go.Proofs.YtahcpgldpbejiaaGreatDoor.Z
open Go.RowKit
set_option linter.unusedVariables false
set_option linter.unusedSimpArgs false

set_option maxRecDepth 100000 in
theorem bigOf_any (x : Int) (w : World) (h0 : -9223372036854775808 ≤ x) (h1 : x ≤ 9223372036854775807) :
    Calls Tryz.prog 17 #[.int .i64 x] w fun e w' => ∃ a c, e = .returned (.agg #[.bool (decide (x < 0)), .slice a (lim x.natAbs).length c]) ∧ Own w' w.heap.size (.slice a (lim x.natAbs).length c) (lim x.natAbs) ∧ Below w.heap.size w w' := by
  by_cases hx : x < 0
  · have hK := limbsOf_any (-x) (w.alloc (Obj.cells #[.bool false, .slice none 0 0] 30)) (by omega) (by omega)
    rw [show (-x).natAbs = x.natAbs from by omega] at hK
    rw [show decide (x < 0) = true from by simpa using hx]
    generalize lim x.natAbs = L at hK ⊢
    go_enter Tryz.func17, Tryz.ntmps17
    go_wp2_with fail
    rw [wrap_neg h0 hx]
    refine hK.mono ?_
    rintro e w1 ⟨a1, c1, rfl, hO, hB⟩
    obtain ⟨hz1, p0, p1⟩ := (Box.new w (.bool false) (.slice none 0 0) 30).keep hB
    obtain ⟨_, hf1⟩ := bcell hB
    clear hK
    go_wp2
    refine bodyPost_ret (v := .agg #[.bool true, .slice a1 L.length c1]) (by simp [results, Tryz.results17, go_sem, p0, p1, hz1]) rfl ⟨a1, c1, rfl, ?_, ?_⟩
    · exact (((hO.setBelow (by simp) _).setBelow (by simp) _)).mono (by simp)
    · exact ((below_of_alloc hB).setCell (by simp) _).setCell (by simp) _
  · have hK := limbsOf_any x (w.alloc (Obj.cells #[.bool false, .slice none 0 0] 30)) (by omega) (by omega)
    rw [show decide (x < 0) = false from by simpa using hx]
    generalize lim x.natAbs = L at hK ⊢
    go_enter Tryz.func17, Tryz.ntmps17
    go_wp2_with fail
    refine hK.mono ?_
    rintro e w1 ⟨a1, c1, rfl, hO, hB⟩
    obtain ⟨hz1, p0, p1⟩ := (Box.new w (.bool false) (.slice none 0 0) 30).keep hB
    obtain ⟨_, hf1⟩ := bcell hB
    clear hK
    go_wp2
    refine bodyPost_ret (v := .agg #[.bool false, .slice a1 L.length c1]) (by simp [results, Tryz.results17, go_sem, p0, p1, hz1]) rfl ⟨a1, c1, rfl, ?_, ?_⟩
    · exact (((hO.setBelow (by simp) _).setBelow (by simp) _)).mono (by simp)
    · exact ((below_of_alloc hB).setCell (by simp) _).setCell (by simp) _
end Go.Proofs.YtahcpgldpbejiaaGreatDoor.Z

namespace Go.Proofs.YtahcpgldpbejiaaGreatDoor.Z
open Go.RowKit
set_option linter.unusedVariables false
set_option linter.unusedSimpArgs false

theorem wrap_idR {a : Int} (h0 : 0 ≤ a) (h1 : a < 9223372036854775808) : IntKind.i64.wrap a = a := by
  unfold IntKind.wrap; simp [IntKind.signed, IntKind.bits]; omega
/-- A sign's worth as a digit; 99 for what is no digit. -/
def digN (c : UInt8) : Nat := if 48 ≤ c.toNat ∧ c.toNat ≤ 57 then c.toNat - 48 else if 97 ≤ c.toNat ∧ c.toNat ≤ 122 then c.toNat - 87 else 99
def dval (b : Nat) (L : List UInt8) : Nat := L.foldl (fun m c => m * b + digN c) 0
theorem dval_nil (b : Nat) : dval b [] = 0 := rfl
theorem dval_snoc (b : Nat) (L : List UInt8) (c : UInt8) : dval b (L ++ [c]) = dval b L * b + digN c := by simp [dval]
theorem dval_mono (b : Nat) (hb : 1 ≤ b) (L : List UInt8) (k : Nat) : dval b (L.take k) ≤ dval b L := by
  induction hn : L.length - k generalizing k with
  | zero => rw [List.take_of_length_le (by omega)]; exact Nat.le_refl _
  | succ n ih =>
    have hk : k < L.length := by omega
    have h1 := ih (k + 1) (by omega)
    rw [List.take_succ_eq_append_getElem hk, dval_snoc] at h1
    have h2 : dval b (L.take k) * 1 ≤ dval b (L.take k) * b := Nat.mul_le_mul_left _ hb
    omega
def goodD (b : Nat) (L : List UInt8) : Bool := L.all (fun c => decide (digN c < b))
theorem goodD_nil (b : Nat) : goodD b [] = true := rfl
theorem goodD_snoc (b : Nat) (L : List UInt8) (c : UInt8) : goodD b (L ++ [c]) = (goodD b L && decide (digN c < b)) := by simp [goodD]
theorem goodD_bad {b : Nat} {L : List UInt8} {k : Nat} (hk : k < L.length) (h : b ≤ digN L[k]) : goodD b L = false := by
  unfold goodD
  rw [List.all_eq_false]
  exact ⟨L[k], List.getElem_mem hk, by simp; omega⟩
def rdD (b : Nat) (D : List UInt8) : Option Nat := if D = [] then none else if goodD b D = true then (if (lim (dval b D)).length ≤ 128 then some (dval b D) else none) else none
/-- What BigRead answers: the sign and the size, or none. -/
def readAns (s : ByteArray) (base : Int) : Option (Bool × Nat) :=
  if base < 2 ∨ 36 < base ∨ 5000 < s.size then none
  else if s.data.toList.head? = some 45 then (rdD base.toNat (s.data.toList.drop 1)).map (true, ·) else (rdD base.toNat s.data.toList).map (false, ·)
def rdS : Option (Bool × Nat) → Bool
  | none => false
  | some (g, n) => nz g n
def rdL : Option (Bool × Nat) → List Int
  | none => []
  | some (_, n) => lim n
theorem rdD_nil (b : Nat) : rdD b [] = none := rfl
theorem rdD_bad {b : Nat} {D : List UInt8} (h : goodD b D = false) : rdD b D = none := by
  unfold rdD; split
  · rfl
  · rw [if_neg (by simp [h])]
theorem lim_pow (n : Nat) (h : 128 < (lim n).length) : 4294967296 ^ 128 ≤ n := by
  rcases Nat.lt_or_ge n (4294967296 ^ 128) with h1 | h1
  · have := lim_length_le h1; omega
  · exact h1
theorem rdD_big {b : Nat} {D : List UInt8} (k : Nat) (hb : 1 ≤ b) (h : 128 < (lim (dval b (D.take k))).length) : rdD b D = none := by
  have h1 := lim_length_gt (Nat.le_trans (lim_pow _ h) (dval_mono b hb D k))
  unfold rdD
  split
  · rfl
  · split
    · rw [if_neg (by omega)]
    · rfl
end Go.Proofs.YtahcpgldpbejiaaGreatDoor.Z

namespace Go.Proofs.YtahcpgldpbejiaaGreatDoor.Z
open Go.RowKit
set_option linter.unusedVariables false
set_option linter.unusedSimpArgs false

theorem get_atR (s : ByteArray) (k : Nat) (h : k < s.size) : s[k] = s.data.toList[k]'(by simpa using h) := by
  show s.data[k] = _
  simp
/-- The result's box, as it was made. -/
structure Rbx (w : World) (L : Nat) : Prop where
  lt : L < w.heap.size
  c0 : w.cell? ⟨L, 0, none⟩ = some (.bool false)
  c1 : w.cell? ⟨L, 1, none⟩ = some (.slice none 0 0)
  f0 : w.frozen? ⟨L, 0, none⟩ = false
  f1 : w.frozen? ⟨L, 1, none⟩ = false
theorem Rbx.new (w : World) : Rbx (w.alloc (Obj.cells #[.bool false, .slice none 0 0] 30)) w.heap.size :=
  ⟨by simp, by rw [World.cell?_alloc_at _ _ w.heap.size 0 rfl]; rfl, by rw [World.cell?_alloc_at _ _ w.heap.size 1 rfl]; rfl, World.frozen?_alloc_at _ _ _ _ (by simp), World.frozen?_alloc_at _ _ _ _ (by simp)⟩
theorem Rbx.at {w w' : World} {L B : Nat} (h : Rbx w L) (hb : Below B w w') (hL : L < B) : Rbx w' L :=
  ⟨Nat.lt_of_lt_of_le h.lt hb.size, (hb.cell (p := ⟨L, 0, none⟩) hL).trans h.c0, (hb.cell (p := ⟨L, 1, none⟩) hL).trans h.c1, (hb.frozen (p := ⟨L, 0, none⟩) hL).trans h.f0, (hb.frozen (p := ⟨L, 1, none⟩) hL).trans h.f1⟩
theorem bsz {w W : World} {o : Obj} (h : Below (w.heap.size + 1) (w.alloc o) W) : w.heap.size + 1 ≤ W.heap.size := by have := h.size; simpa using this
theorem lim_mul {N b : Nat} (h : (lim N).length ≤ 128) (hb : b ≤ 36) : (lim (N * b)).length ≤ 129 := by
  have h1 : N < 4294967296 ^ 128 := Nat.lt_of_not_le (fun h2 => by have := lim_length_gt h2; omega)
  refine lim_length_le ?_
  rw [Nat.pow_succ]
  exact Nat.lt_of_le_of_lt (Nat.mul_le_mul_left N (show b ≤ 4294967296 by omega)) (Nat.mul_lt_mul_of_pos_right h1 (by decide))
theorem rd_none (W : World) (B : Nat) (w : World) (h : Below B w W) : ∃ a c, Ending.returned (.tuple #[.agg #[.bool false, .slice none 0 0], .bool false]) = .returned (.tuple #[.agg #[.bool (rdS none), .slice a (rdL none).length c], .bool (none : Option (Bool × Nat)).isSome]) ∧ Own W B (.slice a (rdL none).length c) (rdL none) ∧ Below B w W := ⟨none, 0, rfl, Own.nil _ _, h⟩

end Go.Proofs.YtahcpgldpbejiaaGreatDoor.Z

namespace Go.Proofs.YtahcpgldpbejiaaGreatDoor.Z
open Go.RowKit
set_option linter.unusedVariables false
set_option linter.unusedSimpArgs false

theorem Own.drawn {w w' : World} {B g : Nat} {a : Option Addr} {n c : Nat} {bs : List Int} {v : Value} {xs : List Int} (h : Own w B v xs) (hB : g < B) (hD : Drawn w w' g a n c bs) : Own w' B v xs :=
  h.but hD.gb (.inr (fun e => by have := (h.lt _ e).1; omega))
/-- A step of our own beside the reader. -/
theorem Drawn.belowB {w w1 w2 : World} {g : Nat} {a : Option Addr} {n c : Nat} {bs : List Int} (h : Drawn w w1 g a n c bs) (hR : Rdr w g a n c bs) (k : Below w.heap.size w1 w2) : Drawn w w2 g a n c bs := by
  have hs := h.gb.size
  have hl := hR.lt
  refine ⟨⟨Nat.lt_of_lt_of_le h.rd.lt k.size, (k.cell (p := ⟨g, 0, none⟩) hl).trans h.rd.c0, ?_, ?_, h.rd.nb, h.rd.lim, fun h0 => ?_⟩, ?_⟩
  · obtain ⟨p, hp, hc⟩ := h.rd.c1; exact ⟨p, hp, (k.cell (p := ⟨g, 1, none⟩) hl).trans hc⟩
  · exact (k.frozen (p := ⟨g, 1, none⟩) hl).trans h.rd.fz
  · obtain ⟨b, off, e, hne, hlt, hcs⟩ := h.rd.by_ h0
    obtain ⟨b', off', e', _, hlt', _⟩ := hR.by_ h0
    rw [e] at e'
    simp only [Option.some.injEq, Addr.mk.injEq, and_true] at e'
    obtain ⟨rfl, rfl⟩ := e'
    exact ⟨b, off, e, hne, Nat.lt_of_lt_of_le hlt k.size, fun j hj => (k.cell (p := ⟨b, off + j, none⟩) hlt').trans (hcs j hj)⟩
  · exact ⟨k.os.trans h.gb.os, k.tape.trans h.gb.tape, k.output.trans h.gb.output, Nat.le_trans h.gb.size k.size, fun i hi hne2 => (k.block i hi).trans (h.gb.block i hi hne2)⟩
theorem tabQ (x : Nat) (hx : x < 4) : ∃ y : Int, (#[.int .u32 0, .int .u32 1, .int .u32 4294967295, .int .u32 2147483648] : Array Value)[x]? = some (.int .u32 y) ∧ 0 ≤ y ∧ y < 4294967296 := by
  match x, hx with
  | 0, _ => exact ⟨_, rfl, by decide, by decide⟩
  | 1, _ => exact ⟨_, rfl, by decide, by decide⟩
  | 2, _ => exact ⟨_, rfl, by decide, by decide⟩
  | 3, _ => exact ⟨_, rfl, by decide, by decide⟩

theorem Rbx.gb {w w' : World} {L g : Nat} (h : Rbx w L) (hgb : w.grownBy w' (some g)) (ne : L ≠ g) : Rbx w' L :=
  ⟨Nat.lt_of_lt_of_le h.lt hgb.size, gb_cell hgb ne h.lt h.c0, gb_cell hgb ne h.lt h.c1, gb_frozen hgb ne h.lt h.f0, gb_frozen hgb ne h.lt h.f1⟩
theorem dig_end {w w3 : World} {g : Nat} {a : Option Addr} {n c : Nat} {bs : List Int} {ad : Option Addr} {cp : Nat} {xs : List Int} (hR : Rdr w g a n c bs) (hD : Drawn w w3 g a n c bs) (p : Bool) (u0 u1 : Value) (hO : Own w3 (w.heap.size + 1) (.slice ad xs.length cp) xs) (hl : xs.length ≤ 129) :
    ∃ p' ad' cp' xs', Ending.returned (.agg #[.bool p, .slice ad xs.length cp]) = .returned (.agg #[.bool p', .slice ad' xs'.length cp']) ∧ xs'.length ≤ 129 ∧ Own ((w3.setCell ⟨w.heap.size, 0, none⟩ u0).setCell ⟨w.heap.size, 1, none⟩ u1) w.heap.size (.slice ad' xs'.length cp') xs' ∧ Drawn w ((w3.setCell ⟨w.heap.size, 0, none⟩ u0).setCell ⟨w.heap.size, 1, none⟩ u1) g a n c bs := by
  refine ⟨p, ad, cp, xs, rfl, hl, ((hO.setBelow (a := ⟨w.heap.size, 0, none⟩) (Nat.lt_succ_self _) u0).setBelow (a := ⟨w.heap.size, 1, none⟩) (Nat.lt_succ_self _) u1).mono (by omega), hD.belowB hR ?_⟩
  have h1 : Below w.heap.size w3 (w3.setCell ⟨w.heap.size, 0, none⟩ u0) := (Below.refl _ w3).setCell (show w.heap.size ≤ (⟨w.heap.size, 0, none⟩ : Addr).block from Nat.le_refl _) u0
  exact h1.setCell (show w.heap.size ≤ (⟨w.heap.size, 1, none⟩ : Addr).block from Nat.le_refl _) u1

set_option maxRecDepth 100000 in
set_option maxHeartbeats 2000000 in
theorem drawBig_any (w : World) (g : Nat) (a : Option Addr) (n c : Nat) (bs : List Int) (hR : Rdr w g a n c bs) :
    Calls Tryz.prog 37 #[.pointer (some ⟨g, 0, none⟩)] w fun e w' => ∃ p ad cp xs, e = .returned (.agg #[.bool p, .slice ad xs.length cp]) ∧ xs.length ≤ 129 ∧ Own w' w.heap.size (.slice ad xs.length cp) xs ∧ Drawn w w' g a n c bs := by
  have hB12 := fun W h => below_any W g a n c bs 12 (by omega) (by omega) h
  have hB4 := fun W h => below_any W g a n c bs 4 (by omega) (by omega) h
  have hB3 := fun W h => below_any W g a n c bs 3 (by omega) (by omega) h
  have hB60 := fun W h => below_any W g a n c bs 60 (by omega) (by omega) h
  have hI := fun W h => drawInt_any W g a n c bs h
  have hW := fun W h => word_any W g a n c bs h
  have hO4 := fun W h => once_any W g a n c bs 4 (by omega) (by omega) h
  have hO2 := fun W h => once_any W g a n c bs 2 (by omega) (by omega) h
  have hgl := hR.lt
  go_enter Tryz.func37, Tryz.ntmps37
  have hA0 : Below w.heap.size w (w.alloc (Obj.cells #[.bool false, .slice none 0 0] 30)) := (Below.refl _ w).alloc (Nat.le_refl _) _
  have hX0 := Rbx.new w
  have hD0 := (Drawn.refl hR).below hA0
  have hz0 : (w.alloc (Obj.cells #[.bool false, .slice none 0 0] 30)).heap.size = w.heap.size + 1 := by simp
  go_wp2_with fail
  generalize hW0 : w.alloc (Obj.cells #[.bool false, .slice none 0 0] 30) = W0 at *
  clear hW0
  refine (hB12 _ hD0.rd).mono ?_
  rintro e w1 ⟨k, rfl, hk, hD1⟩
  have hs1 := hD1.gb.size
  have hX1 := hX0.gb hD1.gb (by omega)
  have hDA := hD0.trans hD1
  clear hX0 hD0 hD1 hA0 hB12
  by_cases k4 : k < 4
  · have k4i : (k : Int) < 4 := by omega
    go_wp2_with fail
    refine (hI _ hDA.rd).mono ?_
    rintro e w2 ⟨x, rfl, hx0, hx1, hD2⟩
    have hD := hDA.trans hD2
    have hX2 := hX1.gb hD2.gb (by omega)
    have hs2 := hD2.gb.size
    go_wp2_with fail
    refine (bigOfS_any x _ hx0 hx1).mono ?_
    rintro e w3 ⟨ad, cp, rfl, hO, hB⟩
    obtain ⟨lb, c0, c1, f0, f1⟩ := hX2.at hB hX2.lt
    have hl : (lim x.natAbs).length ≤ 2 := lim_length_le (show x.natAbs < 4294967296 ^ 2 by omega)
    go_wp2
    refine bodyPost_ret (v := .agg #[.bool (decide (x < 0)), .slice ad (lim x.natAbs).length cp]) (by simp [results, Tryz.results37, go_sem, c0, c1, lb, f0, f1]) rfl (dig_end hR (hD.below hB) _ _ _ (hO.mono (by omega)) (by omega))
  · have k4i : ¬ (k : Int) < 4 := by omega
    go_wp2_with fail
    refine (hB4 _ hDA.rd).mono ?_
    rintro e w2 ⟨x, rfl, hx, hD2⟩
    have hD := hDA.trans hD2
    have hX2 := hX1.gb hD2.gb (by omega)
    have hs2 := hD2.gb.size
    clear hX1 hDA hD2
    go_upto_if 19 with fail
    go_cut [4] from 8 (fun v wc => ∃ N : Nat, v = .int .i64 N ∧ 1 ≤ N ∧ N ≤ 129 ∧ Drawn w wc g a n c bs ∧ Rbx wc w.heap.size ∧ w.heap.size + 1 ≤ wc.heap.size)
    case first =>
      by_cases e4 : k = 4
      · subst e4
        go_wp2_with fail
        refine (hB3 _ hD.rd).mono ?_
        rintro e w3 ⟨y, rfl, hy, hD3⟩
        have hs3 := hD3.gb.size
        go_wp2_with fail
        go_meet
        case rel => exact ⟨127 + y, by go_num, by omega, by omega, hD.trans hD3, hX2.gb hD3.gb (by omega), by omega⟩
      · have f4 : ((k : Int) == 4) = false := by rw [beq_eq_false_iff_ne]; omega
        by_cases e5 : k = 5
        · subst e5
          go_wp2_with fail
          refine (hB60 _ hD.rd).mono ?_
          rintro e w3 ⟨y, rfl, hy, hD3⟩
          have hs3 := hD3.gb.size
          go_wp2_with fail
          go_meet
          case rel => exact ⟨20 + y, by go_num, by omega, by omega, hD.trans hD3, hX2.gb hD3.gb (by omega), by omega⟩
        · have f5 : ((k : Int) == 5) = false := by rw [beq_eq_false_iff_ne]; omega
          go_wp2_with fail
          go_meet
          case rel => exact ⟨1 + x, by go_num, by omega, by omega, hD, hX2, by omega⟩
    case rest =>
      obtain ⟨N, rfl, hN1, hN2, hDc, hXc, hzc⟩ := hcut
      clear hD hX2 hs2 hB60 hB3 hI
      have bE : Below w.heap.size wc (wc.alloc (.cells #[] 72)) := (Below.refl _ wc).alloc (by omega) _
      have bE' : Below wc.heap.size wc (wc.alloc (.cells #[] 72)) := (Below.refl _ wc).alloc (Nat.le_refl _) _
      have oE : Own (wc.alloc (.cells #[] 72)) (w.heap.size + 1) (.slice (some ⟨wc.heap.size, 0, none⟩) 0 0) [] := (Own.empty wc).mono hzc
      go_wp2_with fail
      go_loopw [5, 6] (fun v i wr => ∃ (j : Nat) (xs : List Int), i = .int .i64 j ∧ j ≤ N ∧ xs.length = j ∧ Own wr (w.heap.size + 1) v xs ∧ Drawn w wr g a n c bs ∧ Rbx wr w.heap.size ∧ w.heap.size + 1 ≤ wr.heap.size) (fun _ i _ => N - (RowKit.intOf i).toNat)
      case atStart => exact ⟨0, [], rfl, Nat.zero_le _, rfl, oE, hDc.below bE', hXc.at bE' hXc.lt, by have := bE'.size; omega⟩
      case round =>
        obtain ⟨j, xs, rfl, hj, hxl, hO, hD, hX, hz⟩ := hrel
        clear hDc hXc bE bE' oE hzc
        obtain ⟨va, vc, hv⟩ := hO.form
        have HL : Hid (xs.length = j) := hxl
        rw [hxl] at hv
        subst hv
        by_cases hlt : j < N
        · have hlti : (j : Int) < (N : Int) := by omega
          clear hxl
          go_wp2_with fail
          refine (hW _ hD.rd).mono ?_
          rintro e w3 ⟨y, rfl, hy0, hy1, hD3⟩
          have hs3 := hD3.gb.size
          have hO3 := hO.drawn (by omega) hD3
          have hX3 := hX.gb hD3.gb (by omega)
          have hDD := hD.trans hD3
          clear hO hD hD3 hX
          go_wp2_with fail
          refine (hO4 _ hDD.rd).mono ?_
          rintro e w4 ⟨t, rfl, hD4⟩
          have hs4 := hD4.gb.size
          have hO4' := hO3.drawn (by omega) hD4
          have hX4 := hX3.gb hD4.gb (by omega)
          have hDE := hDD.trans hD4
          clear hO3 hDD hD4 hX3
          cases t
          · have hq0 : 0 ≤ y % 4294967296 := by omega
            have hq1 : y % 4294967296 < 4294967296 := by omega
            have bL : Below w4.heap.size w4 (w4.alloc (.cells #[.int .u32 (y % 4294967296)] 72)) := (Below.refl _ w4).alloc (Nat.le_refl _) _
            go_wp2_with (at_builtin; refine wpList_append_rd rfl _ _ 25 rfl Tryz.underlying25 (w.heap.size + 1) _ _ xs [y % 4294967296] rfl rfl (hO4'.alloc _) (Rd.one w4 w4.heap.size rfl 72 hq0 hq1) (by have := HL.out; simp; omega) (by simp; omega) ?_; intro a1 c1 w5 hO5 hB5)
            go_roundw
            case rel => exact ⟨j + 1, xs ++ [y % 4294967296], by go_num, by omega, by have := HL.out; simp; omega, by simpa using hO5, (hDE.below bL).belowB hR (hB5.mono (by omega)), (hX4.at bL hX4.lt).at hB5 (Nat.lt_succ_self _), by have := hB5.size; simp at this; omega⟩
            case measure => simp [RowKit.intOf]; omega
          · have bL : Below w4.heap.size w4 (w4.alloc (.cells #[.int .u32 0, .int .u32 1, .int .u32 4294967295, .int .u32 2147483648] 72)) := (Below.refl _ w4).alloc (Nat.le_refl _) _
            have hO6 := hO4'.alloc (.cells #[.int .u32 0, .int .u32 1, .int .u32 4294967295, .int .u32 2147483648] 72)
            have hD6 := hDE.below bL
            have hX6 := hX4.at bL hX4.lt
            go_wp2_with fail
            refine (hB4 _ hD6.rd).mono ?_
            rintro e w5 ⟨x, rfl, hx, hD7⟩
            obtain ⟨z, hz', hz0, hz1⟩ := tabQ x hx
            have hcl := lit_cell hDE.rd.lt hD7.gb hz'
            have hxz : (x : Int) < 4 := by omega
            have hO7 := hO6.drawn (by omega) hD7
            have hX7 := hX6.gb hD7.gb (by omega)
            have hD8 := hD6.trans hD7
            have hs7 := hD7.gb.size
            simp only [World.size_alloc] at hs7
            have bM : Below w5.heap.size w5 (w5.alloc (.cells #[.int .u32 z] 72)) := (Below.refl _ w5).alloc (Nat.le_refl _) _
            clear hz' hO6 hD6 hX6 bL hO4' hDE hX4 hD7
            go_wp2_with (at_builtin; refine wpList_append_rd rfl _ _ 25 rfl Tryz.underlying25 (w.heap.size + 1) _ _ xs [z] rfl rfl (hO7.alloc _) (Rd.one w5 w5.heap.size rfl 72 hz0 hz1) (by have := HL.out; simp; omega) (by simp; omega) ?_; intro a1 c1 w6 hO5 hB5)
            go_roundw
            case rel => exact ⟨j + 1, xs ++ [z], by go_num, by omega, by have := HL.out; simp; omega, by simpa using hO5, (hD8.below bM).belowB hR (hB5.mono (by omega)), (hX7.at bM hX7.lt).at hB5 (Nat.lt_succ_self _), by have := hB5.size; simp at this; omega⟩
            case measure => simp [RowKit.intOf]; omega
        · obtain rfl : N = j := by omega
          clear hxl
          by_cases e6 : k = 6
          · subst e6
            go_wp2_with fail
            refine (hO2 _ hD.rd).mono ?_
            rintro e w3 ⟨t, rfl, hD3⟩
            have hs3 := hD3.gb.size
            obtain ⟨lb, c0, c1, f0, f1⟩ := hX.gb hD3.gb (by omega)
            have hO3 := hO.drawn (by omega) hD3
            have hE := dig_end (xs := xs) hR (hD.trans hD3) t (.bool t) (.slice va N vc) (by rw [HL.out]; exact hO3) (by rw [HL.out]; omega)
            rw [HL.out] at hE
            go_wp2
            refine bodyPost_ret (v := .agg #[.bool t, .slice va N vc]) (by simp [results, Tryz.results37, go_sem, c0, c1, lb, f0, f1]) rfl hE
          · have f6 : ((k : Int) == 6) = false := by rw [beq_eq_false_iff_ne]; omega
            obtain ⟨e1, e2⟩ | ⟨b, bc, e1, hbB, hbz, hbl⟩ := hO.shape
            · exact absurd HL.out (by rw [e2]; simp; omega)
            simp only [Value.slice.injEq] at e1
            obtain ⟨e1, -, e3⟩ := e1
            subst e1 e3
            obtain ⟨P, rfl⟩ : ∃ P, N = P + 1 := ⟨N - 1, by omega⟩
            have hPl : P < xs.length := by rw [HL.out]; omega
            have hcP := hO.cell P hPl
            have hfP := hO.frozen P
            have hPi : (P : Int) < (P : Int) + 1 := by omega
            have hP0 : (0 : Int) ≤ (P : Int) := by omega
            have hPw : IntKind.i64.wrap ((P : Int) + 1 - 1) = (P : Int) := by simp [IntKind.wrap, IntKind.bits, IntKind.signed]; omega
            have hPn : ((P : Int) + 1 - 1) = (P : Int) := by omega
            generalize hzP : xs.getD P 0 = z at hcP
            clear hzP
            have o1 := hO.store P (z := 1) (by omega) (by omega)
            by_cases hz1 : z = 0
            · subst hz1
              have bS : Below (w.heap.size + 1) wr (wr.setCell ⟨b, P, none⟩ (.int .u32 1)) := (Below.refl _ wr).setCell (show w.heap.size + 1 ≤ (⟨b, P, none⟩ : Addr).block from hbB) _
              have hDs := hD.belowB hR (bS.mono (by omega))
              have hXs := hX.at bS (Nat.lt_succ_self _)
              go_wp2_with fail
              refine (hO2 _ hDs.rd).mono ?_
              rintro e w3 ⟨t, rfl, hD3⟩
              obtain ⟨lb, c0, c1, f0, f1⟩ := hXs.gb hD3.gb (by omega)
              have hO3 := o1.drawn (by omega) hD3
              have hE := dig_end (xs := xs.set P 1) hR (hDs.trans hD3) t (.bool t) (.slice (some ⟨b, 0, none⟩) (P + 1) vc) (by rw [List.length_set, HL.out]; exact hO3) (by rw [List.length_set, HL.out]; omega)
              rw [List.length_set, HL.out] at hE
              go_wp2
              refine bodyPost_ret (v := .agg #[.bool t, .slice (some ⟨b, 0, none⟩) (P + 1) vc]) (by simp [results, Tryz.results37, go_sem, c0, c1, lb, f0, f1]) rfl hE
            · have hz2 : (z == 0) = false := by rw [beq_eq_false_iff_ne]; exact hz1
              clear hz1 o1
              go_wp2_with fail
              refine (hO2 _ hD.rd).mono ?_
              rintro e w3 ⟨t, rfl, hD3⟩
              obtain ⟨lb, c0, c1, f0, f1⟩ := hX.gb hD3.gb (by omega)
              have hO3 := hO.drawn (by omega) hD3
              have hE := dig_end (xs := xs) hR (hD.trans hD3) t (.bool t) (.slice (some ⟨b, 0, none⟩) (P + 1) vc) (by rw [HL.out]; exact hO3) (by rw [HL.out]; omega)
              rw [HL.out] at hE
              go_wp2
              refine bodyPost_ret (v := .agg #[.bool t, .slice (some ⟨b, 0, none⟩) (P + 1) vc]) (by simp [results, Tryz.results37, go_sem, c0, c1, lb, f0, f1]) rfl hE

set_option maxRecDepth 100000 in
theorem drawBigOk_any (w : World) (a : Option Addr) (n c : Nat) (bs : List Int) (h : Src w a n c bs) :
    Calls Tryz.prog 15 #[.slice a n c] w fun e w' => ∃ p ad cp xs, e = .returned (.agg #[.bool p, .slice ad xs.length cp]) ∧ xs.length ≤ 129 ∧ Own w' w.heap.size (.slice ad xs.length cp) xs ∧ Below w.heap.size w w' := by
  have hA0 : Below w.heap.size w (w.alloc (Obj.cells #[.bool false, .slice none 0 0] 30)) := (Below.refl _ w).alloc (Nat.le_refl _) _
  have hX0 := Rbx.new w
  have h0 := h.keep hA0
  go_enter Tryz.func15, Tryz.ntmps15
  go_wp2_with fail
  refine (open_any _ a n c bs h0).mono ?_
  rintro e w1 ⟨g, rfl, hg, hR, hB1⟩
  have hX1 := hX0.at hB1 hX0.lt
  have hs1 := hB1.size
  go_wp2_with fail
  refine (drawBig_any w1 g a n c bs hR).mono ?_
  rintro e w2 ⟨p, ad, cp, xs, rfl, hl, hO, hD⟩
  have hgl := hR.lt
  simp only [World.size_alloc] at hg hs1
  have hX2 := hX1.gb hD.gb (by omega)
  obtain ⟨lb, c0, c1, f0, f1⟩ := id hX2
  have b2 : Below w.heap.size w w2 := (hA0.trans (hB1.mono (by simp))).trans (gb_to hD.gb (fun k hk => by cases hk; omega) (by omega))
  have h1 : Below w.heap.size w (w2.setCell ⟨w.heap.size, 0, none⟩ (.bool p)) := b2.setCell (show w.heap.size ≤ (⟨w.heap.size, 0, none⟩ : Addr).block from Nat.le_refl _) _
  have h2 : Below w.heap.size w ((w2.setCell ⟨w.heap.size, 0, none⟩ (.bool p)).setCell ⟨w.heap.size, 1, none⟩ (.slice ad xs.length cp)) := h1.setCell (show w.heap.size ≤ (⟨w.heap.size, 1, none⟩ : Addr).block from Nat.le_refl _) _
  have hO2 := ((hO.setBelow (a := ⟨w.heap.size, 0, none⟩) (show w.heap.size < w1.heap.size by omega) (.bool p)).setBelow (a := ⟨w.heap.size, 1, none⟩) (show w.heap.size < w1.heap.size by omega) (.slice ad xs.length cp)).mono (B' := w.heap.size) (by omega)
  generalize hXL : xs.length = XL at *
  go_wp2
  refine bodyPost_ret (v := .agg #[.bool p, .slice ad XL cp]) (by simp [results, Tryz.results15, go_sem, c0, c1, lb, f0, f1]) rfl ⟨p, ad, cp, xs, by rw [hXL], by omega, by rw [hXL]; exact hO2, h2⟩
end Go.Proofs.YtahcpgldpbejiaaGreatDoor.Z
