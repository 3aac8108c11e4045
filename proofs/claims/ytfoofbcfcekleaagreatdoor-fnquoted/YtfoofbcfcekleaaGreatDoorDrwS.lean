import Derived.Test.YtfoofbcfcekleaaGreatDoorBaseI
import Derived.Test.YtfoofbcfcekleaaGreatDoorBaseU
import Derived.Deep.RegionHeld3
import Derived.Laws.BitsAllLaws
namespace Go.Proofs.YtfoofbcfcekleaaGreatDoor
open Go.RowKit
set_option linter.unusedVariables false
set_option linter.unusedSimpArgs false

/-- What a draw reads from: the bytes and the place. -/
structure Rdr (w : World) (g : Nat) (a : Option Addr) (n c : Nat) (bs : List Int) : Prop where
  lt : g < w.heap.size
  c0 : w.cell? ⟨g, 0, none⟩ = some (.slice a n c)
  c1 : ∃ p : Nat, p ≤ n ∧ w.cell? ⟨g, 1, none⟩ = some (.int .i64 p)
  fz : w.frozen? ⟨g, 1, none⟩ = false
  nb : n ≤ 1048576
  lim : ∀ k, 0 ≤ bs.getD k 0 ∧ bs.getD k 0 < 256
  by_ : 0 < n → ∃ b off, a = some ⟨b, off, none⟩ ∧ b ≠ g ∧ b < w.heap.size ∧ ∀ k, k < n → w.cell? ⟨b, off + k, none⟩ = some (.int .u8 (bs.getD k 0))
theorem Rdr.keep {w w' : World} {g : Nat} {a : Option Addr} {n c : Nat} {bs : List Int} (h : Rdr w g a n c bs) (hb : Below w.heap.size w w') : Rdr w' g a n c bs := by
  obtain ⟨p, hp, hc⟩ := h.c1
  refine ⟨Nat.lt_of_lt_of_le h.lt hb.size, (hb.cell (p := ⟨g, 0, none⟩) h.lt).trans h.c0, ⟨p, hp, (hb.cell (p := ⟨g, 1, none⟩) h.lt).trans hc⟩, (hb.frozen (p := ⟨g, 1, none⟩) h.lt).trans h.fz, h.nb, h.lim, fun h0 => ?_⟩
  obtain ⟨b, off, e, hne, hlt, hcs⟩ := h.by_ h0
  exact ⟨b, off, e, hne, Nat.lt_of_lt_of_le hlt hb.size, fun k hk => (hb.cell (p := ⟨b, off + k, none⟩) hlt).trans (hcs k hk)⟩
/-- A step: the reader alone has turned. -/
structure Drawn (w w' : World) (g : Nat) (a : Option Addr) (n c : Nat) (bs : List Int) : Prop where
  rd : Rdr w' g a n c bs
  gb : w.grownBy w' (some g)
theorem Drawn.trans {w w1 w2 : World} {g : Nat} {a : Option Addr} {n c : Nat} {bs : List Int} (h : Drawn w w1 g a n c bs) (k : Drawn w1 w2 g a n c bs) : Drawn w w2 g a n c bs := ⟨k.rd, h.gb.trans k.gb⟩
theorem Drawn.below {w w1 w2 : World} {g : Nat} {a : Option Addr} {n c : Nat} {bs : List Int} (h : Drawn w w1 g a n c bs) (k : Below w1.heap.size w1 w2) : Drawn w w2 g a n c bs := ⟨h.rd.keep k, h.gb.trans (gb_below _ k)⟩
theorem Drawn.refl {w : World} {g : Nat} {a : Option Addr} {n c : Nat} {bs : List Int} (h : Rdr w g a n c bs) : Drawn w w g a n c bs := ⟨h, World.grownBy.refl _ _⟩
theorem Rdr.put {w : World} {g : Nat} {a : Option Addr} {n c : Nat} {bs : List Int} (h : Rdr w g a n c bs) (q : Nat) (hq : q ≤ n) : Drawn w (w.setCell ⟨g, 1, none⟩ (.int .i64 q)) g a n c bs := by
  obtain ⟨p, hp, hc⟩ := h.c1
  refine ⟨⟨by simp [h.lt], ?_, ⟨q, hq, World.cell?_setCell_same (w := w) (a := ⟨g, 1, none⟩) (v := .int .i64 q) hc⟩, by simp [h.fz], h.nb, h.lim, fun h0 => ?_⟩, gb_set _ _ _ _⟩
  · rw [World.cell?_setCell_other (w := w) (a := ⟨g, 1, none⟩) (b := ⟨g, 0, none⟩) (v := .int .i64 q) (by simp)]; exact h.c0
  · obtain ⟨b, off, e, hne, hlt, hcs⟩ := h.by_ h0
    exact ⟨b, off, e, hne, by simp [hlt], fun k hk => by rw [World.cell?_setCell_far _ _ _ _ (fun e => hne e.symm)]; exact hcs k hk⟩
set_option maxHeartbeats 1000000 in
set_option maxRecDepth 100000 in
theorem next_any (w : World) (g : Nat) (a : Option Addr) (n c : Nat) (bs : List Int) (hR : Rdr w g a n c bs) :
    Calls Tryz.prog 38 #[.pointer (some ⟨g, 0, none⟩)] w fun e w' => ∃ x : Int, e = .returned (.int .i64 x) ∧ 0 ≤ x ∧ x < 256 ∧ Drawn w w' g a n c bs := by
  obtain ⟨p, hp, hc1⟩ := hR.c1
  have hc0 := hR.c0
  have hfz := hR.fz
  have hnb := hR.nb
  by_cases hpn : p < n
  · obtain ⟨b, off, rfl, hne, hlt, hcs⟩ := hR.by_ (by omega)
    have hcb := hcs p hpn
    have hl := hR.lim p
    obtain ⟨x, hx⟩ : ∃ x, bs.getD p 0 = x := ⟨_, rfl⟩
    rw [hx] at hcb hl
    have hpz : ¬ (n : Int) ≤ (p : Int) := by omega
    have hgl := hR.lt
    have hgne : ¬ (b = g) := hne
    have hgne2 : ¬ (g = b) := fun e => hne e.symm
    clear hcs
    have hpw : wrap64 ((p : Int) + 1) = (p : Int) + 1 := by unfold wrap64; omega
    obtain ⟨q, hq⟩ : ∃ q : Nat, q = p + 1 := ⟨_, rfl⟩
    have hqz : (p : Int) + 1 = (q : Int) := by omega
    have hqm : (q : Int) - 1 = (p : Int) := by omega
    rw [hqz] at hpw
    have HQ : Hid (q = p + 1) := hq
    have hqn : q ≤ n := by omega
    clear hq hqm
    go_enter Tryz.func38, Tryz.ntmps38
    go_wp2
    go_region_held3 (fun W => W.cell? ⟨g, 0, none⟩ = some (.slice (some ⟨b, off, none⟩) n c) ∧ W.cell? ⟨g, 1, none⟩ = some (.int .i64 p)) (go_keep) (fail)
    all_goals (try go_wp2)
    have hP := (hR.put q hqn).below (Below.refl _ _).drew
    have k0 := hP.rd.c0
    have k1 : (w.setCell ⟨g, 1, none⟩ (.int .i64 q)).drew.cell? ⟨g, 1, none⟩ = some (.int .i64 q) := World.cell?_setCell_same (w := w) (a := ⟨g, 1, none⟩) (v := .int .i64 q) hc1
    have kb : (w.setCell ⟨g, 1, none⟩ (.int .i64 q)).drew.cell? ⟨b, off + p, none⟩ = some (.int .u8 x) := (World.cell?_setCell_far w ⟨g, 1, none⟩ ⟨b, off + p, none⟩ _ hgne2).trans hcb
    have hqm : (q : Int) - 1 = (p : Int) := by omega
    have hqw : IntKind.i64.wrap ((q : Int) - 1) = (p : Int) := by simp [IntKind.wrap, IntKind.bits, IntKind.signed]; omega
    have hqx : wrap64 ((q : Int) - 1) = (p : Int) := by unfold wrap64; omega
    have hpw2 : IntKind.i64.wrap (p : Int) = (p : Int) := by simp [IntKind.wrap, IntKind.bits, IntKind.signed]; omega
    have hxw : IntKind.i64.wrap x = x := by simp [IntKind.wrap, IntKind.bits, IntKind.signed]; omega
    have hp0 : (0 : Int) ≤ (p : Int) := by omega
    have hpn2 : (p : Int) < (n : Int) := by omega
    clear hcb hc0 hc1 hfz hR hpw hqz HQ
    generalize (w.setCell ⟨g, 1, none⟩ (.int .i64 q)).drew = w2 at hP k0 k1 kb ⊢
    go_region_held3 (fun W => W.cell? ⟨g, 0, none⟩ = some (.slice (some ⟨b, off, none⟩) n c) ∧ W.cell? ⟨g, 1, none⟩ = some (.int .i64 q) ∧ W.cell? ⟨b, off + p, none⟩ = some (.int .u8 x)) (go_keep) (fail)
    all_goals (try go_wp2)
    all_goals go_ret
    all_goals exact ⟨x, rfl, hl.1, hl.2, hP.below (Below.refl _ _).drew⟩
  · obtain rfl : p = n := by omega
    go_enter Tryz.func38, Tryz.ntmps38
    go_wp2
    go_region_held3 (fun W => W.cell? ⟨g, 0, none⟩ = some (.slice a p c) ∧ W.cell? ⟨g, 1, none⟩ = some (.int .i64 p)) (go_keep) (fail)
    all_goals (try go_wp2)
    all_goals go_ret
    all_goals exact ⟨0, rfl, by omega, by omega, (Drawn.refl hR).below (Below.refl _ _).drew⟩
set_option maxRecDepth 100000 in
theorem below_any (w : World) (g : Nat) (a : Option Addr) (n c : Nat) (bs : List Int) (m : Nat) (hm : 2 ≤ m) (hm2 : m ≤ 256) (hR : Rdr w g a n c bs) :
    Calls Tryz.prog 22 #[.pointer (some ⟨g, 0, none⟩), .int .i64 m] w fun e w' => ∃ x : Nat, e = .returned (.int .i64 x) ∧ x < m ∧ Drawn w w' g a n c bs := by
  have hN := fun W h => next_any W g a n c bs h
  have h1 : ¬ (m : Int) ≤ 1 := by omega
  have h2 : (m : Int) ≤ 256 := by omega
  have h3 : (m : Int) ≠ 0 := by omega
  go_enter Tryz.func22, Tryz.ntmps22
  go_wp2_with fail
  refine (hN _ hR).mono ?_
  rintro e w1 ⟨x, rfl, hx0, hx1, hD⟩
  obtain ⟨y, hy⟩ : ∃ y : Nat, x = (y : Int) := ⟨x.toNat, by omega⟩
  subst hy
  obtain ⟨z, hz⟩ : ∃ z, y % m = z := ⟨_, rfl⟩
  have hzm : z < m := by rw [← hz]; exact Nat.mod_lt _ (by omega)
  have hmd : Int.tmod (y : Int) (m : Int) = (z : Int) := by rw [← hz, ← Int.ofNat_tmod]
  have hmd2 : (y : Int) % (m : Int) = (z : Int) := by rw [← hz]; rfl
  clear hz
  go_wp2
  go_ret
  exact ⟨z, rfl, hzm, hD⟩
set_option maxRecDepth 100000 in
theorem once_any (w : World) (g : Nat) (a : Option Addr) (n c : Nat) (bs : List Int) (m : Nat) (hm : 2 ≤ m) (hm2 : m ≤ 256) (hR : Rdr w g a n c bs) :
    Calls Tryz.prog 24 #[.pointer (some ⟨g, 0, none⟩), .int .i64 m] w fun e w' => ∃ x : Bool, e = .returned (.bool x) ∧ Drawn w w' g a n c bs := by
  have hN := fun W h => below_any W g a n c bs m hm hm2 h
  go_enter Tryz.func24, Tryz.ntmps24
  go_wp2_with fail
  refine (hN _ hR).mono ?_
  rintro e w1 ⟨x, rfl, hx1, hD⟩
  go_wp2
  go_ret
  exact ⟨_, rfl, hD⟩
theorem lit_cell {w w' : World} {g x : Nat} {cs : Array Value} {t : TypeId} {v : Value} (hg : g < w.heap.size) (hgb : (w.alloc (.cells cs t)).grownBy w' (some g)) (hv : cs[x]? = some v) : w'.cell? ⟨w.heap.size, x, none⟩ = some v := by
  refine (World.cell?_of_block (hgb.block w.heap.size (by simp) (by simp; omega))).trans ?_
  rw [World.cell?_alloc_at _ _ w.heap.size x rfl]; exact hv
theorem gb_cell {w w' : World} {g L o : Nat} {v : Value} (hgb : w.grownBy w' (some g)) (hne : L ≠ g) (hl : L < w.heap.size) (h : w.cell? ⟨L, o, none⟩ = some v) : w'.cell? ⟨L, o, none⟩ = some v :=
  (World.cell?_of_block (a := ⟨L, o, none⟩) (hgb.block L hl (by simp; omega))).trans h
theorem gb_frozen {w w' : World} {g L o : Nat} (hgb : w.grownBy w' (some g)) (hne : L ≠ g) (hl : L < w.heap.size) (h : w.frozen? ⟨L, o, none⟩ = false) : w'.frozen? ⟨L, o, none⟩ = false :=
  (World.frozen?_of_block (a := ⟨L, o, none⟩) (hgb.block L hl (by simp; omega))).trans h
theorem tabI (x : Nat) (hx : x < 12) : ∃ y : Int, (#[.int .i64 0, .int .i64 1, .int .i64 (-1), .int .i64 2, .int .i64 2147483648, .int .i64 4294967296, .int .i64 9223372036854775807, .int .i64 (-9223372036854775808), .int .i64 9007199254740992, .int .i64 4095, .int .i64 4096, .int .i64 4097] : Array Value)[x]? = some (.int .i64 y) ∧ -9223372036854775808 ≤ y ∧ y ≤ 9223372036854775807 := by
  match x, hx with
  | 0, _ => exact ⟨_, rfl, by decide, by decide⟩
  | 1, _ => exact ⟨_, rfl, by decide, by decide⟩
  | 2, _ => exact ⟨_, rfl, by decide, by decide⟩
  | 3, _ => exact ⟨_, rfl, by decide, by decide⟩
  | 4, _ => exact ⟨_, rfl, by decide, by decide⟩
  | 5, _ => exact ⟨_, rfl, by decide, by decide⟩
  | 6, _ => exact ⟨_, rfl, by decide, by decide⟩
  | 7, _ => exact ⟨_, rfl, by decide, by decide⟩
  | 8, _ => exact ⟨_, rfl, by decide, by decide⟩
  | 9, _ => exact ⟨_, rfl, by decide, by decide⟩
  | 10, _ => exact ⟨_, rfl, by decide, by decide⟩
  | 11, _ => exact ⟨_, rfl, by decide, by decide⟩
theorem tabP (x : Nat) (hx : x < 22) : ∃ y : ByteArray, (#[.string ⟨#[97]⟩, .string ⟨#[98]⟩, .string ⟨#[97, 98]⟩, .string ⟨#[97, 97]⟩, .string ⟨#[32]⟩, .string ⟨#[10]⟩, .string ⟨#[9]⟩, .string ⟨#[195, 169]⟩, .string ⟨#[230, 151, 165]⟩, .string ⟨#[240, 159, 152, 128]⟩, .string ⟨#[39]⟩, .string ⟨#[34]⟩, .string ⟨#[92]⟩, .string ⟨#[120]⟩, .string ⟨#[90]⟩, .string ⟨#[123]⟩, .string ⟨#[125]⟩, .string ⟨#[48]⟩, .string ⟨#[45]⟩, .string ⟨#[44]⟩, .string ⟨#[127]⟩, .string ⟨#[1]⟩] : Array Value)[x]? = some (.string y) ∧ y.size ≤ 4 := by
  match x, hx with
  | 0, _ => exact ⟨_, rfl, by decide⟩
  | 1, _ => exact ⟨_, rfl, by decide⟩
  | 2, _ => exact ⟨_, rfl, by decide⟩
  | 3, _ => exact ⟨_, rfl, by decide⟩
  | 4, _ => exact ⟨_, rfl, by decide⟩
  | 5, _ => exact ⟨_, rfl, by decide⟩
  | 6, _ => exact ⟨_, rfl, by decide⟩
  | 7, _ => exact ⟨_, rfl, by decide⟩
  | 8, _ => exact ⟨_, rfl, by decide⟩
  | 9, _ => exact ⟨_, rfl, by decide⟩
  | 10, _ => exact ⟨_, rfl, by decide⟩
  | 11, _ => exact ⟨_, rfl, by decide⟩
  | 12, _ => exact ⟨_, rfl, by decide⟩
  | 13, _ => exact ⟨_, rfl, by decide⟩
  | 14, _ => exact ⟨_, rfl, by decide⟩
  | 15, _ => exact ⟨_, rfl, by decide⟩
  | 16, _ => exact ⟨_, rfl, by decide⟩
  | 17, _ => exact ⟨_, rfl, by decide⟩
  | 18, _ => exact ⟨_, rfl, by decide⟩
  | 19, _ => exact ⟨_, rfl, by decide⟩
  | 20, _ => exact ⟨_, rfl, by decide⟩
  | 21, _ => exact ⟨_, rfl, by decide⟩
  | n + 22, h => exact absurd h (by omega)
theorem tabB (x : Nat) (hx : x < 6) : ∃ y : ByteArray, (#[.string ⟨#[255]⟩, .string ⟨#[195]⟩, .string ⟨#[237, 160, 128]⟩, .string ⟨#[192, 128]⟩, .string ⟨#[244, 144, 128, 128]⟩, .string ⟨#[226, 130]⟩] : Array Value)[x]? = some (.string y) ∧ y.size ≤ 4 := by
  match x, hx with
  | 0, _ => exact ⟨_, rfl, by decide⟩
  | 1, _ => exact ⟨_, rfl, by decide⟩
  | 2, _ => exact ⟨_, rfl, by decide⟩
  | 3, _ => exact ⟨_, rfl, by decide⟩
  | 4, _ => exact ⟨_, rfl, by decide⟩
  | 5, _ => exact ⟨_, rfl, by decide⟩
set_option maxHeartbeats 1000000 in
set_option maxRecDepth 100000 in
theorem drawPiece_any (w : World) (g : Nat) (a : Option Addr) (n c : Nat) (bs : List Int) (hR : Rdr w g a n c bs) :
    Calls Tryz.prog 23 #[.pointer (some ⟨g, 0, none⟩)] w fun e w' => ∃ s : ByteArray, e = .returned (.string s) ∧ s.size ≤ 4 ∧ Drawn w w' g a n c bs := by
  have hB := fun W h => below_any W g a n c bs 22 (by omega) (by omega) h
  go_enter Tryz.func23, Tryz.ntmps23
  go_wp2_with fail
  refine (hB _ (hR.keep ((Below.refl _ _).alloc (Nat.le_refl _) _))).mono ?_
  rintro e w2 ⟨x, rfl, hx, hD2⟩
  obtain ⟨y, hy, hy0⟩ := tabP x hx
  have hcl := lit_cell hR.lt hD2.gb hy
  have hxz : (x : Int) < 22 := by omega
  have hDA := ((Drawn.refl hR).below ((Below.refl _ _).alloc (Nat.le_refl _) (Obj.cells #[.string ⟨#[97]⟩, .string ⟨#[98]⟩, .string ⟨#[97, 98]⟩, .string ⟨#[97, 97]⟩, .string ⟨#[32]⟩, .string ⟨#[10]⟩, .string ⟨#[9]⟩, .string ⟨#[195, 169]⟩, .string ⟨#[230, 151, 165]⟩, .string ⟨#[240, 159, 152, 128]⟩, .string ⟨#[39]⟩, .string ⟨#[34]⟩, .string ⟨#[92]⟩, .string ⟨#[120]⟩, .string ⟨#[90]⟩, .string ⟨#[123]⟩, .string ⟨#[125]⟩, .string ⟨#[48]⟩, .string ⟨#[45]⟩, .string ⟨#[44]⟩, .string ⟨#[127]⟩, .string ⟨#[1]⟩] 9))).trans hD2
  clear hy hB hD2
  go_wp2
  go_ret
  exact ⟨y, rfl, hy0, hDA⟩
end Go.Proofs.YtfoofbcfcekleaaGreatDoor
