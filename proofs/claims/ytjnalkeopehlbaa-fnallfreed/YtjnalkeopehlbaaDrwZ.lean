import Derived.Test.YtjnalkeopehlbaaBaseZ
import Derived.Deep.RegionHeld3
import Derived.Laws.BitsAllLaws
namespace Go.Proofs.Ytjnalkeopehlbaa
open Go.RowKit
set_option linter.unusedVariables false
set_option linter.unusedSimpArgs false

/-- What a draw reads from: the bytes and the place. -/
structure Rdr (w : World) (g : Nat) (a : Option Addr) (n c : Nat) (bs : List Int) : Prop where
  lt : g < w.heap.size
  c0 : w.cell? ⟨g, 0, none⟩ = some (.slice a n c)
  c1 : ∃ p : Nat, p ≤ n ∧ w.cell? ⟨g, 1, none⟩ = some (.int .i64 p)
  fz : w.frozen? ⟨g, 1, none⟩ = false
  nb : n ≤ 1048576
  lim : ∀ k, 0 ≤ bs.getD k 0 ∧ bs.getD k 0 < 256
  by_ : 0 < n → ∃ b off, a = some ⟨b, off, none⟩ ∧ b ≠ g ∧ b < w.heap.size ∧ ∀ k, k < n → w.cell? ⟨b, off + k, none⟩ = some (.int .u8 (bs.getD k 0))
theorem Rdr.keep {w w' : World} {g : Nat} {a : Option Addr} {n c : Nat} {bs : List Int} (h : Rdr w g a n c bs) (hb : Below w.heap.size w w') : Rdr w' g a n c bs := by
  obtain ⟨p, hp, hc⟩ := h.c1
  refine ⟨Nat.lt_of_lt_of_le h.lt hb.size, (hb.cell (p := ⟨g, 0, none⟩) h.lt).trans h.c0, ⟨p, hp, (hb.cell (p := ⟨g, 1, none⟩) h.lt).trans hc⟩, (hb.frozen (p := ⟨g, 1, none⟩) h.lt).trans h.fz, h.nb, h.lim, fun h0 => ?_⟩
  obtain ⟨b, off, e, hne, hlt, hcs⟩ := h.by_ h0
  exact ⟨b, off, e, hne, Nat.lt_of_lt_of_le hlt hb.size, fun k hk => (hb.cell (p := ⟨b, off + k, none⟩) hlt).trans (hcs k hk)⟩
/-- A step: the reader alone has turned. -/
structure Drawn (w w' : World) (g : Nat) (a : Option Addr) (n c : Nat) (bs : List Int) : Prop where
  rd : Rdr w' g a n c bs
  gb : w.grownBy w' (some g)
theorem Drawn.trans {w w1 w2 : World} {g : Nat} {a : Option Addr} {n c : Nat} {bs : List Int} (h : Drawn w w1 g a n c bs) (k : Drawn w1 w2 g a n c bs) : Drawn w w2 g a n c bs := ⟨k.rd, h.gb.trans k.gb⟩
theorem Drawn.below {w w1 w2 : World} {g : Nat} {a : Option Addr} {n c : Nat} {bs : List Int} (h : Drawn w w1 g a n c bs) (k : Below w1.heap.size w1 w2) : Drawn w w2 g a n c bs := ⟨h.rd.keep k, h.gb.trans (gb_below _ k)⟩
theorem Drawn.refl {w : World} {g : Nat} {a : Option Addr} {n c : Nat} {bs : List Int} (h : Rdr w g a n c bs) : Drawn w w g a n c bs := ⟨h, World.grownBy.refl _ _⟩
theorem Rdr.put {w : World} {g : Nat} {a : Option Addr} {n c : Nat} {bs : List Int} (h : Rdr w g a n c bs) (q : Nat) (hq : q ≤ n) : Drawn w (w.setCell ⟨g, 1, none⟩ (.int .i64 q)) g a n c bs := by
  obtain ⟨p, hp, hc⟩ := h.c1
  refine ⟨⟨by simp [h.lt], ?_, ⟨q, hq, World.cell?_setCell_same (w := w) (a := ⟨g, 1, none⟩) (v := .int .i64 q) hc⟩, by simp [h.fz], h.nb, h.lim, fun h0 => ?_⟩, gb_set _ _ _ _⟩
  · rw [World.cell?_setCell_other (w := w) (a := ⟨g, 1, none⟩) (b := ⟨g, 0, none⟩) (v := .int .i64 q) (by simp)]; exact h.c0
  · obtain ⟨b, off, e, hne, hlt, hcs⟩ := h.by_ h0
    exact ⟨b, off, e, hne, by simp [hlt], fun k hk => by rw [World.cell?_setCell_far _ _ _ _ (fun e => hne e.symm)]; exact hcs k hk⟩
set_option maxHeartbeats 1000000 in
set_option maxRecDepth 100000 in
theorem dr_next_any (w : World) (g : Nat) (a : Option Addr) (n c : Nat) (bs : List Int) (hR : Rdr w g a n c bs) :
    Calls Try.prog 52 #[.pointer (some ⟨g, 0, none⟩)] w fun e w' => ∃ x : Int, e = .returned (.int .i64 x) ∧ 0 ≤ x ∧ x < 256 ∧ Drawn w w' g a n c bs := by
  obtain ⟨p, hp, hc1⟩ := hR.c1
  have hc0 := hR.c0
  have hfz := hR.fz
  have hnb := hR.nb
  by_cases hpn : p < n
  · obtain ⟨b, off, rfl, hne, hlt, hcs⟩ := hR.by_ (by omega)
    have hcb := hcs p hpn
    have hl := hR.lim p
    obtain ⟨x, hx⟩ : ∃ x, bs.getD p 0 = x := ⟨_, rfl⟩
    rw [hx] at hcb hl
    have hpz : ¬ (n : Int) ≤ (p : Int) := by omega
    have hgl := hR.lt
    have hgne : ¬ (b = g) := hne
    have hgne2 : ¬ (g = b) := fun e => hne e.symm
    clear hcs
    have hpw : wrap64 ((p : Int) + 1) = (p : Int) + 1 := by unfold wrap64; omega
    obtain ⟨q, hq⟩ : ∃ q : Nat, q = p + 1 := ⟨_, rfl⟩
    have hqz : (p : Int) + 1 = (q : Int) := by omega
    have hqm : (q : Int) - 1 = (p : Int) := by omega
    rw [hqz] at hpw
    have HQ : Hid (q = p + 1) := hq
    have hqn : q ≤ n := by omega
    clear hq hqm
    go_enter Try.func52, Try.ntmps52
    go_wp2
    go_region_held3 (fun W => W.cell? ⟨g, 0, none⟩ = some (.slice (some ⟨b, off, none⟩) n c) ∧ W.cell? ⟨g, 1, none⟩ = some (.int .i64 p)) (go_keep) (fail)
    all_goals (try go_wp2)
    have hP := (hR.put q hqn).below (Below.refl _ _).drew
    have k0 := hP.rd.c0
    have k1 : (w.setCell ⟨g, 1, none⟩ (.int .i64 q)).drew.cell? ⟨g, 1, none⟩ = some (.int .i64 q) := World.cell?_setCell_same (w := w) (a := ⟨g, 1, none⟩) (v := .int .i64 q) hc1
    have kb : (w.setCell ⟨g, 1, none⟩ (.int .i64 q)).drew.cell? ⟨b, off + p, none⟩ = some (.int .u8 x) := (World.cell?_setCell_far w ⟨g, 1, none⟩ ⟨b, off + p, none⟩ _ hgne2).trans hcb
    have hqm : (q : Int) - 1 = (p : Int) := by omega
    have hqw : IntKind.i64.wrap ((q : Int) - 1) = (p : Int) := by simp [IntKind.wrap, IntKind.bits, IntKind.signed]; omega
    have hqx : wrap64 ((q : Int) - 1) = (p : Int) := by unfold wrap64; omega
    have hpw2 : IntKind.i64.wrap (p : Int) = (p : Int) := by simp [IntKind.wrap, IntKind.bits, IntKind.signed]; omega
    have hxw : IntKind.i64.wrap x = x := by simp [IntKind.wrap, IntKind.bits, IntKind.signed]; omega
    have hp0 : (0 : Int) ≤ (p : Int) := by omega
    have hpn2 : (p : Int) < (n : Int) := by omega
    clear hcb hc0 hc1 hfz hR hpw hqz HQ
    generalize (w.setCell ⟨g, 1, none⟩ (.int .i64 q)).drew = w2 at hP k0 k1 kb ⊢
    go_region_held3 (fun W => W.cell? ⟨g, 0, none⟩ = some (.slice (some ⟨b, off, none⟩) n c) ∧ W.cell? ⟨g, 1, none⟩ = some (.int .i64 q) ∧ W.cell? ⟨b, off + p, none⟩ = some (.int .u8 x)) (go_keep) (fail)
    all_goals (try go_wp2)
    all_goals go_ret
    all_goals exact ⟨x, rfl, hl.1, hl.2, hP.below (Below.refl _ _).drew⟩
  · obtain rfl : p = n := by omega
    go_enter Try.func52, Try.ntmps52
    go_wp2
    go_region_held3 (fun W => W.cell? ⟨g, 0, none⟩ = some (.slice a p c) ∧ W.cell? ⟨g, 1, none⟩ = some (.int .i64 p)) (go_keep) (fail)
    all_goals (try go_wp2)
    all_goals go_ret
    all_goals exact ⟨0, rfl, by omega, by omega, (Drawn.refl hR).below (Below.refl _ _).drew⟩
set_option maxRecDepth 100000 in
theorem dr_below_any (w : World) (g : Nat) (a : Option Addr) (n c : Nat) (bs : List Int) (m : Nat) (hm : 2 ≤ m) (hm2 : m ≤ 256) (hR : Rdr w g a n c bs) :
    Calls Try.prog 38 #[.pointer (some ⟨g, 0, none⟩), .int .i64 m] w fun e w' => ∃ x : Nat, e = .returned (.int .i64 x) ∧ x < m ∧ Drawn w w' g a n c bs := by
  have hN := fun W h => dr_next_any W g a n c bs h
  have h1 : ¬ (m : Int) ≤ 1 := by omega
  have h2 : (m : Int) ≤ 256 := by omega
  have h3 : (m : Int) ≠ 0 := by omega
  go_enter Try.func38, Try.ntmps38
  go_wp2_with fail
  refine (hN _ hR).mono ?_
  rintro e w1 ⟨x, rfl, hx0, hx1, hD⟩
  obtain ⟨y, hy⟩ : ∃ y : Nat, x = (y : Int) := ⟨x.toNat, by omega⟩
  subst hy
  obtain ⟨z, hz⟩ : ∃ z, y % m = z := ⟨_, rfl⟩
  have hzm : z < m := by rw [← hz]; exact Nat.mod_lt _ (by omega)
  have hmd : Int.tmod (y : Int) (m : Int) = (z : Int) := by rw [← hz, ← Int.ofNat_tmod]
  have hmd2 : (y : Int) % (m : Int) = (z : Int) := by rw [← hz]; rfl
  clear hz
  go_wp2
  go_ret
  exact ⟨z, rfl, hzm, hD⟩
set_option maxRecDepth 100000 in
theorem dr_once_any (w : World) (g : Nat) (a : Option Addr) (n c : Nat) (bs : List Int) (m : Nat) (hm : 2 ≤ m) (hm2 : m ≤ 256) (hR : Rdr w g a n c bs) :
    Calls Try.prog 39 #[.pointer (some ⟨g, 0, none⟩), .int .i64 m] w fun e w' => ∃ x : Bool, e = .returned (.bool x) ∧ Drawn w w' g a n c bs := by
  have hN := fun W h => dr_below_any W g a n c bs m hm hm2 h
  go_enter Try.func39, Try.ntmps39
  go_wp2_with fail
  refine (hN _ hR).mono ?_
  rintro e w1 ⟨x, rfl, hx1, hD⟩
  go_wp2
  go_ret
  exact ⟨_, rfl, hD⟩
theorem dr_lit_cell {w w' : World} {g x : Nat} {cs : Array Value} {t : TypeId} {v : Value} (hg : g < w.heap.size) (hgb : (w.alloc (.cells cs t)).grownBy w' (some g)) (hv : cs[x]? = some v) : w'.cell? ⟨w.heap.size, x, none⟩ = some v := by
  refine (World.cell?_of_block (hgb.block w.heap.size (by simp) (by simp; omega))).trans ?_
  rw [World.cell?_alloc_at _ _ w.heap.size x rfl]; exact hv
theorem dr_gb_cell {w w' : World} {g L o : Nat} {v : Value} (hgb : w.grownBy w' (some g)) (hne : L ≠ g) (hl : L < w.heap.size) (h : w.cell? ⟨L, o, none⟩ = some v) : w'.cell? ⟨L, o, none⟩ = some v :=
  (World.cell?_of_block (a := ⟨L, o, none⟩) (hgb.block L hl (by simp; omega))).trans h
theorem dr_gb_frozen {w w' : World} {g L o : Nat} (hgb : w.grownBy w' (some g)) (hne : L ≠ g) (hl : L < w.heap.size) (h : w.frozen? ⟨L, o, none⟩ = false) : w'.frozen? ⟨L, o, none⟩ = false :=
  (World.frozen?_of_block (a := ⟨L, o, none⟩) (hgb.block L hl (by simp; omega))).trans h
/-- Bytes that came in. -/
structure Src (w : World) (a : Option Addr) (n c : Nat) (bs : List Int) : Prop where
  nb : n ≤ 1048576
  lim : ∀ k, 0 ≤ bs.getD k 0 ∧ bs.getD k 0 < 256
  by_ : 0 < n → ∃ b off, a = some ⟨b, off, none⟩ ∧ b < w.heap.size ∧ ∀ k, k < n → w.cell? ⟨b, off + k, none⟩ = some (.int .u8 (bs.getD k 0))
theorem Src.keep {w w' : World} {a : Option Addr} {n c : Nat} {bs : List Int} (h : Src w a n c bs) (hb : Below w.heap.size w w') : Src w' a n c bs :=
  ⟨h.nb, h.lim, fun h0 => by
    obtain ⟨b, off, e, hlt, hcs⟩ := h.by_ h0
    exact ⟨b, off, e, Nat.lt_of_lt_of_le hlt hb.size, fun k hk => (hb.cell (p := ⟨b, off + k, none⟩) hlt).trans (hcs k hk)⟩⟩
set_option maxRecDepth 100000 in
theorem dr_open_any (w : World) (a : Option Addr) (n c : Nat) (bs : List Int) (h : Src w a n c bs) :
    Calls Try.prog 36 #[.slice a n c] w fun e w' => ∃ g, e = .returned (.pointer (some ⟨g, 0, none⟩)) ∧ w.heap.size ≤ g ∧ Rdr w' g a n c bs ∧ Below w.heap.size w w' := by
  go_enter Try.func36, Try.ntmps36
  go_wp2
  go_ret
  refine ⟨w.heap.size, rfl, Nat.le_refl _, ⟨by simp, ?_, ⟨0, by omega, ?_⟩, World.frozen?_alloc_at _ _ _ _ (by simp), h.nb, h.lim, fun h0 => ?_⟩, (Below.refl _ _).alloc (Nat.le_refl _) _⟩
  · rw [World.cell?_alloc_at _ _ w.heap.size 0 rfl]; rfl
  · rw [World.cell?_alloc_at _ _ w.heap.size 1 rfl]; rfl
  · obtain ⟨b, off, e, hlt, hcs⟩ := h.by_ h0
    exact ⟨b, off, e, by omega, by simp; omega, fun k hk => (((Below.refl w.heap.size w).alloc (Nat.le_refl _) _).cell (p := ⟨b, off + k, none⟩) hlt).trans (hcs k hk)⟩

set_option maxRecDepth 100000 in
/-- below at any number. -/
theorem dr_belowG_any (w : World) (g : Nat) (a : Option Addr) (n c : Nat) (bs : List Int) (m : Nat) (hm2 : m ≤ 256) (hR : Rdr w g a n c bs) :
    Calls Try.prog 38 #[.pointer (some ⟨g, 0, none⟩), .int .i64 m] w fun e w' => ∃ x : Nat, e = .returned (.int .i64 x) ∧ (x < m ∨ (x = 0 ∧ m ≤ 1)) ∧ Drawn w w' g a n c bs := by
  by_cases hm : 2 ≤ m
  · exact (dr_below_any w g a n c bs m hm hm2 hR).mono (by rintro e w' ⟨x, h1, h2, h3⟩; exact ⟨x, h1, .inl h2, h3⟩)
  · have h1 : (m : Int) ≤ 1 := by omega
    go_enter Try.func38, Try.ntmps38
    go_wp2
    go_ret
    exact ⟨0, rfl, .inr ⟨rfl, by omega⟩, Drawn.refl hR⟩
set_option maxRecDepth 100000 in
/-- size: at least one, at most so many. -/
theorem dr_size_any (w : World) (g : Nat) (a : Option Addr) (n c : Nat) (bs : List Int) (p m : Nat) (hp : 1 ≤ p) (hpm : p ≤ 1000) (hm : 1 ≤ m) (hm2 : m ≤ 256) (hR : Rdr w g a n c bs) :
    Calls Try.prog 37 #[.pointer (some ⟨g, 0, none⟩), .int .i64 p, .int .i64 m] w fun e w' => ∃ x : Nat, e = .returned (.int .i64 x) ∧ 1 ≤ x ∧ x ≤ m ∧ Drawn w w' g a n c bs := by
  have hN := fun W k hk h => dr_belowG_any W g a n c bs k hk h
  have hc0 := hR.c0
  have hnb := hR.nb
  obtain ⟨q, hq⟩ : ∃ q : Nat, n / p = q := ⟨_, rfl⟩
  have hqn : q ≤ n := by rw [← hq]; exact Nat.div_le_self _ _
  have hd : Int.tdiv (n : Int) (p : Int) = (q : Int) := by rw [← hq, ← Int.ofNat_tdiv]
  have hd2 : (n : Int) / (p : Int) = (q : Int) := by rw [← hq]; rfl
  have hp0 : (p : Int) ≠ 0 := by omega
  have hp1 : (p : Int) ≠ -1 := by omega
  clear hq
  obtain ⟨r, hr⟩ : ∃ r : Nat, r = q + 1 := ⟨_, rfl⟩
  have hrz : 1 + (q : Int) = (r : Int) := by omega
  have hrw : IntKind.i64.wrap (1 + (q : Int)) = (r : Int) := by simp [IntKind.wrap, IntKind.bits, IntKind.signed]; omega
  have HRr : Hid (r = q + 1) := hr
  have hrb : r ≤ 2000000 := by omega
  have hr1 : 1 ≤ r := by omega
  clear hr
  by_cases h : m < r
  · have hg : (m : Int) < (r : Int) := by omega
    go_enter Try.func37, Try.ntmps37
    go_wp2_with fail
    refine (hN _ m hm2 hR).mono ?_
    rintro e w1 ⟨x, rfl, hx, hD⟩
    have hxm : x + 1 ≤ m := by omega
    go_wp2
    go_ret
    exact ⟨x + 1, by go_num, by omega, by omega, hD⟩
  · have hg : ¬ (m : Int) < (r : Int) := by omega
    go_enter Try.func37, Try.ntmps37
    go_wp2_with fail
    refine (hN _ r (by omega) hR).mono ?_
    rintro e w1 ⟨x, rfl, hx, hD⟩
    have hxm : x + 1 ≤ r := by omega
    go_wp2
    go_ret
    exact ⟨x + 1, by go_num, by omega, by omega, hD⟩
end Go.Proofs.Ytjnalkeopehlbaa
