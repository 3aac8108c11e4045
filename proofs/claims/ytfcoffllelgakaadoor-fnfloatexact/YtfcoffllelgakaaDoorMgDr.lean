import Derived.Test.YtfcoffllelgakaaDoorBase
import Derived.Deep.RegionHeld3
import Derived.Laws.BitsAllLaws
import Derived.Test.YtfcoffllelgakaaDoorOfB
import Derived.Test.YtfcoffllelgakaaDoorBrdS
import Derived.Deep.Cut
import Derived.BigQuiet
namespace Go.Proofs.YtfcoffllelgakaaDoor
open Go.RowKit
set_option linter.unusedVariables false
set_option linter.unusedSimpArgs false

/-- What a draw reads from: the bytes and the place. -/
structure Rdr (w : World) (g : Nat) (a : Option Addr) (n c : Nat) (bs : List Int) : Prop where
  lt : g < w.heap.size
  c0 : w.cell? ⟨g, 0, none⟩ = some (.slice a n c)
  c1 : ∃ p : Nat, p ≤ n ∧ w.cell? ⟨g, 1, none⟩ = some (.int .i64 p)
  fz : w.frozen? ⟨g, 1, none⟩ = false
  nb : n ≤ 1048576
  lim : ∀ k, 0 ≤ bs.getD k 0 ∧ bs.getD k 0 < 256
  by_ : 0 < n → ∃ b off, a = some ⟨b, off, none⟩ ∧ b ≠ g ∧ b < w.heap.size ∧ ∀ k, k < n → w.cell? ⟨b, off + k, none⟩ = some (.int .u8 (bs.getD k 0))
theorem Rdr.keep {w w' : World} {g : Nat} {a : Option Addr} {n c : Nat} {bs : List Int} (h : Rdr w g a n c bs) (hb : Below w.heap.size w w') : Rdr w' g a n c bs := by
  obtain ⟨p, hp, hc⟩ := h.c1
  refine ⟨Nat.lt_of_lt_of_le h.lt hb.size, (hb.cell (p := ⟨g, 0, none⟩) h.lt).trans h.c0, ⟨p, hp, (hb.cell (p := ⟨g, 1, none⟩) h.lt).trans hc⟩, (hb.frozen (p := ⟨g, 1, none⟩) h.lt).trans h.fz, h.nb, h.lim, fun h0 => ?_⟩
  obtain ⟨b, off, e, hne, hlt, hcs⟩ := h.by_ h0
  exact ⟨b, off, e, hne, Nat.lt_of_lt_of_le hlt hb.size, fun k hk => (hb.cell (p := ⟨b, off + k, none⟩) hlt).trans (hcs k hk)⟩
/-- A step: the reader alone has turned. -/
structure Drawn (w w' : World) (g : Nat) (a : Option Addr) (n c : Nat) (bs : List Int) : Prop where
  rd : Rdr w' g a n c bs
  gb : w.grownBy w' (some g)
theorem Drawn.trans {w w1 w2 : World} {g : Nat} {a : Option Addr} {n c : Nat} {bs : List Int} (h : Drawn w w1 g a n c bs) (k : Drawn w1 w2 g a n c bs) : Drawn w w2 g a n c bs := ⟨k.rd, h.gb.trans k.gb⟩
theorem Drawn.below {w w1 w2 : World} {g : Nat} {a : Option Addr} {n c : Nat} {bs : List Int} (h : Drawn w w1 g a n c bs) (k : Below w1.heap.size w1 w2) : Drawn w w2 g a n c bs := ⟨h.rd.keep k, h.gb.trans (gb_below _ k)⟩
theorem Drawn.refl {w : World} {g : Nat} {a : Option Addr} {n c : Nat} {bs : List Int} (h : Rdr w g a n c bs) : Drawn w w g a n c bs := ⟨h, World.grownBy.refl _ _⟩
theorem Rdr.put {w : World} {g : Nat} {a : Option Addr} {n c : Nat} {bs : List Int} (h : Rdr w g a n c bs) (q : Nat) (hq : q ≤ n) : Drawn w (w.setCell ⟨g, 1, none⟩ (.int .i64 q)) g a n c bs := by
  obtain ⟨p, hp, hc⟩ := h.c1
  refine ⟨⟨by simp [h.lt], ?_, ⟨q, hq, World.cell?_setCell_same (w := w) (a := ⟨g, 1, none⟩) (v := .int .i64 q) hc⟩, by simp [h.fz], h.nb, h.lim, fun h0 => ?_⟩, gb_set _ _ _ _⟩
  · rw [World.cell?_setCell_other (w := w) (a := ⟨g, 1, none⟩) (b := ⟨g, 0, none⟩) (v := .int .i64 q) (by simp)]; exact h.c0
  · obtain ⟨b, off, e, hne, hlt, hcs⟩ := h.by_ h0
    exact ⟨b, off, e, hne, by simp [hlt], fun k hk => by rw [World.cell?_setCell_far _ _ _ _ (fun e => hne e.symm)]; exact hcs k hk⟩
set_option maxHeartbeats 1000000 in
set_option maxRecDepth 100000 in
theorem next_any (w : World) (g : Nat) (a : Option Addr) (n c : Nat) (bs : List Int) (hR : Rdr w g a n c bs) :
    Calls Tryd.prog 73 #[.pointer (some ⟨g, 0, none⟩)] w fun e w' => ∃ x : Int, e = .returned (.int .i64 x) ∧ 0 ≤ x ∧ x < 256 ∧ Drawn w w' g a n c bs := by
  obtain ⟨p, hp, hc1⟩ := hR.c1
  have hc0 := hR.c0
  have hfz := hR.fz
  have hnb := hR.nb
  by_cases hpn : p < n
  · obtain ⟨b, off, rfl, hne, hlt, hcs⟩ := hR.by_ (by omega)
    have hcb := hcs p hpn
    have hl := hR.lim p
    obtain ⟨x, hx⟩ : ∃ x, bs.getD p 0 = x := ⟨_, rfl⟩
    rw [hx] at hcb hl
    have hpz : ¬ (n : Int) ≤ (p : Int) := by omega
    have hgl := hR.lt
    have hgne : ¬ (b = g) := hne
    have hgne2 : ¬ (g = b) := fun e => hne e.symm
    clear hcs
    have hpw : wrap64 ((p : Int) + 1) = (p : Int) + 1 := by unfold wrap64; omega
    obtain ⟨q, hq⟩ : ∃ q : Nat, q = p + 1 := ⟨_, rfl⟩
    have hqz : (p : Int) + 1 = (q : Int) := by omega
    have hqm : (q : Int) - 1 = (p : Int) := by omega
    rw [hqz] at hpw
    have HQ : Hid (q = p + 1) := hq
    have hqn : q ≤ n := by omega
    clear hq hqm
    go_enter Tryd.func73, Tryd.ntmps73
    go_wp2
    go_region_held3 (fun W => W.cell? ⟨g, 0, none⟩ = some (.slice (some ⟨b, off, none⟩) n c) ∧ W.cell? ⟨g, 1, none⟩ = some (.int .i64 p)) (go_keep) (fail)
    all_goals (try go_wp2)
    have hP := (hR.put q hqn).below (Below.refl _ _).drew
    have k0 := hP.rd.c0
    have k1 : (w.setCell ⟨g, 1, none⟩ (.int .i64 q)).drew.cell? ⟨g, 1, none⟩ = some (.int .i64 q) := World.cell?_setCell_same (w := w) (a := ⟨g, 1, none⟩) (v := .int .i64 q) hc1
    have kb : (w.setCell ⟨g, 1, none⟩ (.int .i64 q)).drew.cell? ⟨b, off + p, none⟩ = some (.int .u8 x) := (World.cell?_setCell_far w ⟨g, 1, none⟩ ⟨b, off + p, none⟩ _ hgne2).trans hcb
    have hqm : (q : Int) - 1 = (p : Int) := by omega
    have hqw : IntKind.i64.wrap ((q : Int) - 1) = (p : Int) := by simp [IntKind.wrap, IntKind.bits, IntKind.signed]; omega
    have hqx : wrap64 ((q : Int) - 1) = (p : Int) := by unfold wrap64; omega
    have hpw2 : IntKind.i64.wrap (p : Int) = (p : Int) := by simp [IntKind.wrap, IntKind.bits, IntKind.signed]; omega
    have hxw : IntKind.i64.wrap x = x := by simp [IntKind.wrap, IntKind.bits, IntKind.signed]; omega
    have hp0 : (0 : Int) ≤ (p : Int) := by omega
    have hpn2 : (p : Int) < (n : Int) := by omega
    clear hcb hc0 hc1 hfz hR hpw hqz HQ
    generalize (w.setCell ⟨g, 1, none⟩ (.int .i64 q)).drew = w2 at hP k0 k1 kb ⊢
    go_region_held3 (fun W => W.cell? ⟨g, 0, none⟩ = some (.slice (some ⟨b, off, none⟩) n c) ∧ W.cell? ⟨g, 1, none⟩ = some (.int .i64 q) ∧ W.cell? ⟨b, off + p, none⟩ = some (.int .u8 x)) (go_keep) (fail)
    all_goals (try go_wp2)
    all_goals go_ret
    all_goals exact ⟨x, rfl, hl.1, hl.2, hP.below (Below.refl _ _).drew⟩
  · obtain rfl : p = n := by omega
    go_enter Tryd.func73, Tryd.ntmps73
    go_wp2
    go_region_held3 (fun W => W.cell? ⟨g, 0, none⟩ = some (.slice a p c) ∧ W.cell? ⟨g, 1, none⟩ = some (.int .i64 p)) (go_keep) (fail)
    all_goals (try go_wp2)
    all_goals go_ret
    all_goals exact ⟨0, rfl, by omega, by omega, (Drawn.refl hR).below (Below.refl _ _).drew⟩
set_option maxRecDepth 100000 in
theorem below_any (w : World) (g : Nat) (a : Option Addr) (n c : Nat) (bs : List Int) (m : Nat) (hm : 2 ≤ m) (hm2 : m ≤ 256) (hR : Rdr w g a n c bs) :
    Calls Tryd.prog 72 #[.pointer (some ⟨g, 0, none⟩), .int .i64 m] w fun e w' => ∃ x : Nat, e = .returned (.int .i64 x) ∧ x < m ∧ Drawn w w' g a n c bs := by
  have hN := fun W h => next_any W g a n c bs h
  have h1 : ¬ (m : Int) ≤ 1 := by omega
  have h2 : (m : Int) ≤ 256 := by omega
  have h3 : (m : Int) ≠ 0 := by omega
  go_enter Tryd.func72, Tryd.ntmps72
  go_wp2_with fail
  refine (hN _ hR).mono ?_
  rintro e w1 ⟨x, rfl, hx0, hx1, hD⟩
  obtain ⟨y, hy⟩ : ∃ y : Nat, x = (y : Int) := ⟨x.toNat, by omega⟩
  subst hy
  obtain ⟨z, hz⟩ : ∃ z, y % m = z := ⟨_, rfl⟩
  have hzm : z < m := by rw [← hz]; exact Nat.mod_lt _ (by omega)
  have hmd : Int.tmod (y : Int) (m : Int) = (z : Int) := by rw [← hz, ← Int.ofNat_tmod]
  have hmd2 : (y : Int) % (m : Int) = (z : Int) := by rw [← hz]; rfl
  clear hz
  go_wp2
  go_ret
  exact ⟨z, rfl, hzm, hD⟩
set_option maxHeartbeats 1000000 in
set_option maxRecDepth 100000 in
theorem word_any (w : World) (g : Nat) (a : Option Addr) (n c : Nat) (bs : List Int) (hR : Rdr w g a n c bs) :
    Calls Tryd.prog 74 #[.pointer (some ⟨g, 0, none⟩)] w fun e w' => ∃ x : Int, e = .returned (.int .u64 x) ∧ 0 ≤ x ∧ x ≤ 18446744073709551615 ∧ Drawn w w' g a n c bs := by
  have hN := fun W h => next_any W g a n c bs h
  go_enter Tryd.func74, Tryd.ntmps74
  go_wp2
  go_loopw [3, 4] (fun x i wr => ∃ (k : Nat) (y : Int), k ≤ 8 ∧ i = .int .i64 k ∧ x = .int .u64 y ∧ 0 ≤ y ∧ y ≤ 18446744073709551615 ∧ Drawn w wr g a n c bs) (fun _ i _ => 8 - (RowKit.intOf i).toNat)
  case atStart => exact ⟨0, 0, by omega, rfl, rfl, by omega, by omega, Drawn.refl hR⟩
  case round =>
    obtain ⟨k, y, hk, rfl, rfl, hy0, hy1, hD⟩ := hrel
    by_cases hlt : k < 8
    · obtain ⟨Y, hY⟩ : ∃ Y : Nat, IntKind.u64.wrap (y * 256) = (Y : Int) := ⟨(IntKind.u64.wrap (y * 256)).toNat, by simp [IntKind.wrap, IntKind.bits, IntKind.signed]; omega⟩
      have hYb : Y < 18446744073709551616 := by
        have : IntKind.u64.wrap (y * 256) < 18446744073709551616 := by simp [IntKind.wrap, IntKind.bits, IntKind.signed]; omega
        omega
      go_wp2_with fail
      refine (hN _ hD.rd).mono ?_
      rintro e w1 ⟨x, rfl, hx0, hx1, hD1⟩
      obtain ⟨z, hz⟩ : ∃ z : Nat, x = (z : Int) := ⟨x.toNat, by omega⟩
      subst hz
      obtain ⟨R, hRR⟩ : ∃ R, Y ||| z = R := ⟨_, rfl⟩
      have hRb : R < 18446744073709551616 := by
        rw [← hRR]
        exact Nat.or_lt_two_pow (n := 64) hYb (by omega)
      have hor : bits .or .u64 (Y : Int) (z : Int) = (R : Int) := by rw [u64_or_nat _ _ (by omega) (by omega), hRR]
      clear hRR hN
      go_wp2
      go_roundw
      case rel => exact ⟨k + 1, R, by omega, by go_num, rfl, by omega, by omega, hD.trans hD1⟩
      case measure => first | (simp [RowKit.intOf]; done) | (simp [RowKit.intOf]; omega)
    · go_wp2
      go_ret
      exact ⟨y, rfl, hy0, hy1, hD⟩
theorem lit_cell {w w' : World} {g x : Nat} {cs : Array Value} {t : TypeId} {v : Value} (hg : g < w.heap.size) (hgb : (w.alloc (.cells cs t)).grownBy w' (some g)) (hv : cs[x]? = some v) : w'.cell? ⟨w.heap.size, x, none⟩ = some v := by
  refine (World.cell?_of_block (hgb.block w.heap.size (by simp) (by simp; omega))).trans ?_
  rw [World.cell?_alloc_at _ _ w.heap.size x rfl]; exact hv
theorem gb_cell {w w' : World} {g L o : Nat} {v : Value} (hgb : w.grownBy w' (some g)) (hne : L ≠ g) (hl : L < w.heap.size) (h : w.cell? ⟨L, o, none⟩ = some v) : w'.cell? ⟨L, o, none⟩ = some v :=
  (World.cell?_of_block (a := ⟨L, o, none⟩) (hgb.block L hl (by simp; omega))).trans h
theorem gb_frozen {w w' : World} {g L o : Nat} (hgb : w.grownBy w' (some g)) (hne : L ≠ g) (hl : L < w.heap.size) (h : w.frozen? ⟨L, o, none⟩ = false) : w'.frozen? ⟨L, o, none⟩ = false :=
  (World.frozen?_of_block (a := ⟨L, o, none⟩) (hgb.block L hl (by simp; omega))).trans h
theorem tabI (x : Nat) (hx : x < 12) : ∃ y : Int, (#[.int .i64 0, .int .i64 1, .int .i64 (-1), .int .i64 2, .int .i64 2147483648, .int .i64 4294967296, .int .i64 9223372036854775807, .int .i64 (-9223372036854775808), .int .i64 9007199254740992, .int .i64 4095, .int .i64 4096, .int .i64 4097] : Array Value)[x]? = some (.int .i64 y) ∧ -9223372036854775808 ≤ y ∧ y ≤ 9223372036854775807 := by
  match x, hx with
  | 0, _ => exact ⟨_, rfl, by decide, by decide⟩
  | 1, _ => exact ⟨_, rfl, by decide, by decide⟩
  | 2, _ => exact ⟨_, rfl, by decide, by decide⟩
  | 3, _ => exact ⟨_, rfl, by decide, by decide⟩
  | 4, _ => exact ⟨_, rfl, by decide, by decide⟩
  | 5, _ => exact ⟨_, rfl, by decide, by decide⟩
  | 6, _ => exact ⟨_, rfl, by decide, by decide⟩
  | 7, _ => exact ⟨_, rfl, by decide, by decide⟩
  | 8, _ => exact ⟨_, rfl, by decide, by decide⟩
  | 9, _ => exact ⟨_, rfl, by decide, by decide⟩
  | 10, _ => exact ⟨_, rfl, by decide, by decide⟩
  | 11, _ => exact ⟨_, rfl, by decide, by decide⟩
set_option maxHeartbeats 1000000 in
set_option maxRecDepth 100000 in
theorem drawInt_any (w : World) (g : Nat) (a : Option Addr) (n c : Nat) (bs : List Int) (hR : Rdr w g a n c bs) :
    Calls Tryd.prog 39 #[.pointer (some ⟨g, 0, none⟩)] w fun e w' => ∃ x : Int, e = .returned (.int .i64 x) ∧ -9223372036854775808 ≤ x ∧ x ≤ 9223372036854775807 ∧ Drawn w w' g a n c bs := by
  have hN := fun W h => next_any W g a n c bs h
  have hB := fun W h => below_any W g a n c bs 6 (by omega) (by omega) h
  have hB2 := fun W h => below_any W g a n c bs 12 (by omega) (by omega) h
  have hW := fun W h => word_any W g a n c bs h
  go_enter Tryd.func39, Tryd.ntmps39
  go_wp2_with fail
  refine (hB _ hR).mono ?_
  rintro e w1 ⟨k, rfl, hk, hD1⟩
  clear hB
  by_cases k0 : k = 0
  · subst k0
    go_wp2_with fail
    refine (hN _ hD1.rd).mono ?_
    rintro e w2 ⟨x, rfl, hx0, hx1, hD2⟩
    go_wp2
    go_ret
    exact ⟨x - 128, rfl, by omega, by omega, hD1.trans hD2⟩
  · by_cases k1 : k = 1
    · subst k1
      go_wp2_with fail
      refine (hB2 _ (hD1.rd.keep ((Below.refl _ _).alloc (Nat.le_refl _) _))).mono ?_
      rintro e w2 ⟨x, rfl, hx, hD2⟩
      obtain ⟨y, hy, hy0, hy1⟩ := tabI x hx
      have hcl := lit_cell hD1.rd.lt hD2.gb hy
      have hxz : (x : Int) < 12 := by omega
      have hDA := (hD1.below ((Below.refl _ _).alloc (Nat.le_refl _) (Obj.cells #[.int .i64 0, .int .i64 1, .int .i64 (-1), .int .i64 2, .int .i64 2147483648, .int .i64 4294967296, .int .i64 9223372036854775807, .int .i64 (-9223372036854775808), .int .i64 9007199254740992, .int .i64 4095, .int .i64 4096, .int .i64 4097] 2))).trans hD2
      clear hy hB2 hN hW hD2
      go_wp2
      go_ret
      exact ⟨y, rfl, hy0, hy1, hDA⟩
    · by_cases k2 : k = 2
      · subst k2
        go_wp2_with fail
        refine (hW _ hD1.rd).mono ?_
        rintro e w2 ⟨x, rfl, hx0, hx1, hD2⟩
        go_wp2
        go_ret
        exact ⟨_, rfl, by unfold wrap64; omega, by unfold wrap64; omega, hD1.trans hD2⟩
      · have e0 : ((k : Int) == 0) = false := by rw [beq_eq_false_iff_ne]; omega
        have e1 : ((k : Int) == 1) = false := by rw [beq_eq_false_iff_ne]; omega
        have e2 : ((k : Int) == 2) = false := by rw [beq_eq_false_iff_ne]; omega
        go_wp2_with fail
        refine (hN _ hD1.rd).mono ?_
        rintro e w2 ⟨x, rfl, hx0, hx1, hD2⟩
        obtain ⟨y, hy⟩ : ∃ y : Nat, x = (y : Int) := ⟨x.toNat, by omega⟩
        subst hy
        obtain ⟨z, hz⟩ : ∃ z, y % 20 = z := ⟨_, rfl⟩
        have hmd : Int.tmod (y : Int) 20 = (z : Int) := by rw [← hz, show (20 : Int) = ((20 : Nat) : Int) from rfl, ← Int.ofNat_tmod]
        have hzb : z < 20 := by omega
        clear hz
        go_wp2
        go_ret
        exact ⟨z, rfl, by omega, by omega, hD1.trans hD2⟩
structure Src (w : World) (a : Option Addr) (n c : Nat) (bs : List Int) : Prop where
  nb : n ≤ 1048576
  lim : ∀ k, 0 ≤ bs.getD k 0 ∧ bs.getD k 0 < 256
  by_ : 0 < n → ∃ b off, a = some ⟨b, off, none⟩ ∧ b < w.heap.size ∧ ∀ k, k < n → w.cell? ⟨b, off + k, none⟩ = some (.int .u8 (bs.getD k 0))
theorem Src.keep {w w' : World} {a : Option Addr} {n c : Nat} {bs : List Int} (h : Src w a n c bs) (hb : Below w.heap.size w w') : Src w' a n c bs :=
  ⟨h.nb, h.lim, fun h0 => by
    obtain ⟨b, off, e, hlt, hcs⟩ := h.by_ h0
    exact ⟨b, off, e, Nat.lt_of_lt_of_le hlt hb.size, fun k hk => (hb.cell (p := ⟨b, off + k, none⟩) hlt).trans (hcs k hk)⟩⟩
set_option maxRecDepth 100000 in
theorem open_any (w : World) (a : Option Addr) (n c : Nat) (bs : List Int) (h : Src w a n c bs) :
    Calls Tryd.prog 40 #[.slice a n c] w fun e w' => ∃ g, e = .returned (.pointer (some ⟨g, 0, none⟩)) ∧ w.heap.size ≤ g ∧ Rdr w' g a n c bs ∧ Below w.heap.size w w' := by
  go_enter Tryd.func40, Tryd.ntmps40
  go_wp2
  go_ret
  refine ⟨w.heap.size, rfl, Nat.le_refl _, ⟨by simp, ?_, ⟨0, by omega, ?_⟩, World.frozen?_alloc_at _ _ _ _ (by simp), h.nb, h.lim, fun h0 => ?_⟩, (Below.refl _ _).alloc (Nat.le_refl _) _⟩
  · rw [World.cell?_alloc_at _ _ w.heap.size 0 rfl]; rfl
  · rw [World.cell?_alloc_at _ _ w.heap.size 1 rfl]; rfl
  · obtain ⟨b, off, e, hlt, hcs⟩ := h.by_ h0
    exact ⟨b, off, e, by omega, by simp; omega, fun k hk => (((Below.refl w.heap.size w).alloc (Nat.le_refl _) _).cell (p := ⟨b, off + k, none⟩) hlt).trans (hcs k hk)⟩
end Go.Proofs.YtfcoffllelgakaaDoor

namespace Go.Proofs.YtfcoffllelgakaaDoor
open Go.RowKit
set_option linter.unusedVariables false
set_option linter.unusedSimpArgs false

theorem Own.drawn {w w' : World} {B g : Nat} {a : Option Addr} {n c : Nat} {bs : List Int} {v : Value} {xs : List Int} (h : Own w B v xs) (hB : g < B) (hD : Drawn w w' g a n c bs) : Own w' B v xs :=
  h.but hD.gb (.inr (fun e => by have := (h.lt _ e).1; omega))
theorem Rbx.gb {w w' : World} {L g : Nat} (h : Rbx w L) (hgb : w.grownBy w' (some g)) (ne : L ≠ g) : Rbx w' L :=
  ⟨Nat.lt_of_lt_of_le h.lt hgb.size, gb_cell hgb ne h.lt h.c0, gb_cell hgb ne h.lt h.c1, gb_frozen hgb ne h.lt h.f0, gb_frozen hgb ne h.lt h.f1⟩
set_option maxRecDepth 100000 in
theorem drawBigOf_any (w : World) (a : Option Addr) (n c : Nat) (bs : List Int) (h : Src w a n c bs) :
    Calls Tryd.prog 14 #[.slice a n c] w fun e w' => ∃ x : Int, e = .returned (.int .i64 x) ∧ -9223372036854775808 ≤ x ∧ x ≤ 9223372036854775807 ∧ Below w.heap.size w w' := by
  go_enter Tryd.func14, Tryd.ntmps14
  go_wp2_with fail
  refine (open_any _ a n c bs h).mono ?_
  rintro e w1 ⟨g, rfl, hg, hR, hB1⟩
  go_wp2_with fail
  refine (drawInt_any w1 g a n c bs hR).mono ?_
  rintro e w2 ⟨x, rfl, hx0, hx1, hD⟩
  go_wp2
  go_ret
  exact ⟨x, rfl, hx0, hx1, hB1.trans (gb_to hD.gb (fun k hk => by cases hk; omega) hB1.size)⟩
end Go.Proofs.YtfcoffllelgakaaDoor

namespace Go.Proofs.YtfcoffllelgakaaDoor
open Go.RowKit
set_option linter.unusedVariables false
set_option linter.unusedSimpArgs false

theorem below_dD {B : Nat} {a w : World} (h : Below B a w) (n : Nat) : Below B a (w.drewN n) := h.trans ⟨rfl, rfl, rfl, Nat.le_refl _, fun _ _ => rfl⟩
theorem bigD_any (w : World) (a : Option Addr) (n c : Nat) :
    Calls Tryd.prog 13 #[.slice a n c] w fun e w' => e = .returned (.bool (decide ((1048576 : Int) < (n : Int)))) ∧ w' = w := by
  go_enter Tryd.func13, Tryd.ntmps13
  go_wp2
  go_ret
  exact ⟨by simp, rfl⟩

set_option maxRecDepth 100000 in
set_option maxHeartbeats 1000000 in
theorem sameBig_any (p : Bool) (v u : Value) (xs : List Int) (w : World) (hx : Rd w v xs) (hy : Rd w u xs) :
    Calls Tryd.prog 18 #[.agg #[.bool p, v], .agg #[.bool p, u]] w fun e w' => e = .returned (.bool true) ∧ Below w.heap.size w w' := by
  obtain ⟨a1, c1, rfl, hl1, hz1, hn1, hc1⟩ := hx
  obtain ⟨a2, c2, rfl, hl2, hz2, hn2, hc2⟩ := hy
  go_enter Tryd.func18, Tryd.ntmps18
  go_wp2_with fail
  have bA := Box.new w (.bool p) (.slice a1 xs.length c1) 29
  have bW : Below w.heap.size w ((w.alloc (Obj.cells #[.bool p, .slice a1 xs.length c1] 29)).alloc (Obj.cells #[.bool p, .slice a2 xs.length c2] 29)) := ((Below.refl _ w).alloc (Nat.le_refl _) _).alloc (by simp) _
  have bB := Box.new (w.alloc (Obj.cells #[.bool p, .slice a1 xs.length c1] 29)) (.bool p) (.slice a2 xs.length c2) 29
  have bA2 := bA.alloc (Obj.cells #[.bool p, .slice a2 xs.length c2] 29)
  simp only [World.size_alloc] at bB
  generalize ((w.alloc (Obj.cells #[.bool p, .slice a1 xs.length c1] 29)).alloc (Obj.cells #[.bool p, .slice a2 xs.length c2] 29)) = W0 at *
  go_loopw [5] (fun i wr => ∃ k : Nat, k ≤ xs.length ∧ i = .int .i64 k ∧ Below W0.heap.size W0 wr) (fun i _ => xs.length - (RowKit.intOf i).toNat)
  case atStart => exact ⟨0, Nat.zero_le _, rfl, Below.refl _ _⟩
  case round =>
    obtain ⟨k, hk, rfl, hB⟩ := hrel
    obtain ⟨l1, q0, q1⟩ := bA2.keep hB
    obtain ⟨l2, r0, r1⟩ := bB.keep hB
    by_cases hlt : k < xs.length
    · obtain ⟨b1, o1, rfl, hb1, hd1⟩ := hc1 (by omega)
      obtain ⟨b2, o2, rfl, hb2, hd2⟩ := hc2 (by omega)
      have x1 := (hB.cell (p := ⟨b1, o1 + k, none⟩) (by have := bW.size; show b1 < _; omega)).trans ((bW.cell (p := ⟨b1, o1 + k, none⟩) hb1).trans (hd1 k hlt))
      have x2 := (hB.cell (p := ⟨b2, o2 + k, none⟩) (by have := bW.size; show b2 < _; omega)).trans ((bW.cell (p := ⟨b2, o2 + k, none⟩) hb2).trans (hd2 k hlt))
      generalize xs.getD k 0 = z at x1 x2
      clear hd1 hd2 hc1 hc2
      go_wp2_with fail
      go_quiet (fail)
      go_wp2_with fail
      go_roundw
      case rel => exact ⟨k + 1, by omega, by go_num, below_dD hB _⟩
      case measure => simp [RowKit.intOf]; omega
    · obtain rfl : k = xs.length := by omega
      go_wp2
      go_ret
      exact ⟨rfl, bW.trans (hB.mono bW.size)⟩


end Go.Proofs.YtfcoffllelgakaaDoor
