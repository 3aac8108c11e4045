import Derived.Test.YtipoafmabiahoaaDmF
import Derived.Test.YtipoafmabiahoaaCut
import Derived.Deep.RegionHeld3
import Derived.Deep.CutRange
namespace Go.Proofs.Ytipoafmabiahoaa
open Go.RowKit
set_option linter.unusedVariables false
set_option linter.unusedSimpArgs false

/-- A box that a region lays beside its calls: empty, not below lo. -/
def BX2 (W : World) (lo b : Nat) : Prop := Box W b (.bool false) (.slice none 0 0) ∧ Unf W b ∧ lo ≤ b
theorem BX2.keep {W W' : World} {lo b : Nat} (h : BX2 W lo b) (hB : Below W.heap.size W W') : BX2 W' lo b := ⟨h.1.keep hB, h.2.1.keep hB, h.2.2⟩
theorem BX2.alloc {W : World} {lo b : Nat} (h : BX2 W lo b) (o : Obj) : BX2 (W.alloc o) lo b := h.keep ((Below.refl _ _).alloc (Nat.le_refl _) o)
theorem BX2.drew {W : World} {lo b : Nat} (h : BX2 W lo b) : BX2 W.drew lo b := h.keep (Below.refl _ _).drew
theorem BX2.new (W : World) (lo b : Nat) (hb : b = W.heap.size) (h : lo ≤ b) : BX2 (W.alloc (Obj.cells #[.bool false, .slice none 0 0] 26)) lo b := by
  subst hb; exact ⟨Box.new W _ _ _, Unf.new W _ _, h⟩
theorem ne_twoB {W : World} {lo b c : Nat} (h1 : BX2 W lo b) (h2 : BX2 W lo c) (h : b < c) : ¬ b = c ∧ ¬ c = b := by omega
theorem ne_leB {a b c : Nat} (h : a < b) (h2 : b ≤ c) : ¬ a = c ∧ ¬ c = a ∧ ¬ a = c + 1 ∧ ¬ c + 1 = a := by omega
theorem bx2_ne {W : World} {lo x b : Nat} (h : BX2 W lo b) (hl : x + 1 < lo) : ¬ b = x ∧ ¬ x = b ∧ ¬ b = x + 1 ∧ ¬ x + 1 = b := by have := h.2.2; omega
theorem keepA4 {W : World} {b c : Nat} {x y u v : Value} {o : Obj} (h : W.cell? ⟨b, 0, none⟩ = some x ∧ W.cell? ⟨b, 1, none⟩ = some y ∧ W.cell? ⟨c, 0, none⟩ = some u ∧ W.cell? ⟨c, 1, none⟩ = some v) : (W.alloc o).cell? ⟨b, 0, none⟩ = some x ∧ (W.alloc o).cell? ⟨b, 1, none⟩ = some y ∧ (W.alloc o).cell? ⟨c, 0, none⟩ = some u ∧ (W.alloc o).cell? ⟨c, 1, none⟩ = some v :=
  ⟨(World.cell?_alloc_some W _ o (by rw [h.1]; rfl)).trans h.1, (World.cell?_alloc_some W _ o (by rw [h.2.1]; rfl)).trans h.2.1, (World.cell?_alloc_some W _ o (by rw [h.2.2.1]; rfl)).trans h.2.2.1, (World.cell?_alloc_some W _ o (by rw [h.2.2.2]; rfl)).trans h.2.2.2⟩
theorem keepD4 {W : World} {b c : Nat} {x y u v : Value} {o : Obj} (h : W.drew.cell? ⟨b, 0, none⟩ = some x ∧ W.drew.cell? ⟨b, 1, none⟩ = some y ∧ W.drew.cell? ⟨c, 0, none⟩ = some u ∧ W.drew.cell? ⟨c, 1, none⟩ = some v) : (W.alloc o).drew.cell? ⟨b, 0, none⟩ = some x ∧ (W.alloc o).drew.cell? ⟨b, 1, none⟩ = some y ∧ (W.alloc o).drew.cell? ⟨c, 0, none⟩ = some u ∧ (W.alloc o).drew.cell? ⟨c, 1, none⟩ = some v := keepA4 (W := W) h
theorem keepS4 {W : World} {b c d : Nat} {x y u v s t : Value} (h : W.cell? ⟨b, 0, none⟩ = some x ∧ W.cell? ⟨b, 1, none⟩ = some y ∧ W.cell? ⟨c, 0, none⟩ = some u ∧ W.cell? ⟨c, 1, none⟩ = some v) (h1 : ¬ d = b) (h2 : ¬ d = c) : ((W.setCell ⟨d, 0, none⟩ s).setCell ⟨d, 1, none⟩ t).cell? ⟨b, 0, none⟩ = some x ∧ ((W.setCell ⟨d, 0, none⟩ s).setCell ⟨d, 1, none⟩ t).cell? ⟨b, 1, none⟩ = some y ∧ ((W.setCell ⟨d, 0, none⟩ s).setCell ⟨d, 1, none⟩ t).cell? ⟨c, 0, none⟩ = some u ∧ ((W.setCell ⟨d, 0, none⟩ s).setCell ⟨d, 1, none⟩ t).cell? ⟨c, 1, none⟩ = some v := by
  refine ⟨?_, ?_, ?_, ?_⟩
  · rw [World.cell?_setCell_far _ _ _ _ h1, World.cell?_setCell_far _ _ _ _ h1]; exact h.1
  · rw [World.cell?_setCell_far _ _ _ _ h1, World.cell?_setCell_far _ _ _ _ h1]; exact h.2.1
  · rw [World.cell?_setCell_far _ _ _ _ h2, World.cell?_setCell_far _ _ _ _ h2]; exact h.2.2.1
  · rw [World.cell?_setCell_far _ _ _ _ h2, World.cell?_setCell_far _ _ _ _ h2]; exact h.2.2.2

theorem rd_limbs {w : World} {v : Value} {zs : List Int} (h : Rd w v zs) : Limbs zs := by
  obtain ⟨_, _, _, _, hz, _⟩ := h; exact hz
theorem ltB2 {x y B : Nat} (h : x < y) (h2 : y ≤ B) : x < B := Nat.lt_of_lt_of_le h h2
theorem BX2.box {W : World} {lo b : Nat} (h : BX2 W lo b) : Box W b (.bool false) (.slice none 0 0) := h.1
theorem BX2.lo {W : World} {lo b : Nat} (h : BX2 W lo b) : lo ≤ b := h.2.2
theorem dmL_len {p q : Bool} {xs ys : List Int} (hzx : Limbs xs) (hzy : Limbs ys) : (dmL1 p q xs ys).length ≤ 128 ∧ (dmL2 p q xs ys).length ≤ 128 := by
  unfold dmL1 dmL2
  by_cases h : dmOk p q xs ys = true
  · rw [if_pos h, if_pos h]
    unfold dmOk at h
    simp only [Bool.and_eq_true, Bool.not_eq_true', decide_eq_false_iff_not] at h
    obtain ⟨hoA, hoB, h0⟩ := h
    have hnA := okB_norm hoA
    have hnB := okB_norm hoB
    have hYp : 0 < val ys := by have := le_val hzy hnB.1 (by omega); have h1 : 0 < 4294967296 ^ (ys.length - 1) := Nat.pow_pos (by decide); omega
    exact ⟨Nat.le_trans (lim_length_le (Nat.lt_of_le_of_lt (flQ_le2 p q hYp) (val_lt hzx))) hnA.2, Nat.le_trans (lim_length_le (Nat.lt_of_lt_of_le (flR_lt p q hYp) (Nat.le_of_lt (val_lt hzy)))) hnB.2⟩
  · rw [if_neg h, if_neg h]; simp

theorem far_two {x lo c : Nat} (h : x + 1 < lo) (h2 : lo ≤ c) : ¬ c = x ∧ ¬ x = c ∧ ¬ c = x + 1 ∧ ¬ x + 1 = c ∧ ¬ c + 1 = x ∧ ¬ x = c + 1 ∧ ¬ c + 1 = x + 1 ∧ ¬ x + 1 = c + 1 := by omega

set_option maxHeartbeats 100000000 in
set_option maxRecDepth 100000 in
theorem law_divmod (p : Bool) (a : Option Addr) (cap : Nat) (xs : List Int) (q : Bool) (a' : Option Addr) (cap' : Nat) (ys : List Int) (w : World) (hrx : xs.length ≤ 1048576 → Rd w (.slice a xs.length cap) xs) (hlx : xs.length ≤ 9223372036854775807) (hry : ys.length ≤ 1048576 → Rd w (.slice a' ys.length cap') ys) (hly : ys.length ≤ 9223372036854775807) :
    Calls Try.prog 4 #[.agg #[.bool p, .slice a xs.length cap], .agg #[.bool q, .slice a' ys.length cap']] w fun e w' => e = .returned (.bool true) ∧ Below w.heap.size w w' := by
  have hW := ((Below.refl w.heap.size w).alloc (Nat.le_refl _) (Obj.cells #[.bool p, .slice a xs.length cap] 24)).alloc (by simp) (Obj.cells #[.bool q, .slice a' ys.length cap'] 24)
  have bA := (Box.new w (.bool p) (.slice a xs.length cap) 24).alloc (Obj.cells #[.bool q, .slice a' ys.length cap'] 24)
  have bB := Box.new (w.alloc (Obj.cells #[.bool p, .slice a xs.length cap] 24)) (.bool q) (.slice a' ys.length cap') 24
  simp only [World.size_alloc] at bB
  by_cases hbig : (1048576 : Int) < xs.length
  · go_enter Try.func4, Try.ntmps4
    go_wp2_with fail
    refine (szBig_any _ _ _ _ _ _ hlx (by omega) (by omega)).mono ?_
    rw [if_pos hbig]
    rintro e w1 ⟨rfl, hB⟩
    go_wp2
    go_ret
    exact ⟨rfl, hW.trans (hB.mono hW.size)⟩
  · by_cases hbig2 : (1048576 : Int) - xs.length < ys.length
    · go_enter Try.func4, Try.ntmps4
      go_wp2_with fail
      refine (szBig_any _ _ _ _ _ _ hlx (by omega) (by omega)).mono ?_
      rw [if_neg (by omega)]
      rintro e w1 ⟨rfl, hB⟩
      replace hW := hW.trans (hB.mono hW.size)
      replace bB := bB.keep hB
      obtain ⟨-, k2, k3⟩ := id bB
      go_wp2_with fail
      refine (szBig_any _ _ _ _ _ _ hly (by omega) (by omega)).mono ?_
      rw [if_pos hbig2]
      rintro e w2 ⟨rfl, hB⟩
      go_wp2
      go_ret
      exact ⟨rfl, hW.trans (hB.mono hW.size)⟩
    · have hx0 : Rd w (.slice a xs.length cap) xs := hrx (by omega)
      have hy0 : Rd w (.slice a' ys.length cap') ys := hry (by omega)
      have hsum : xs.length + ys.length ≤ 1048576 := by omega
      have hS := fun W v u h1 h2 => bigDivModS_any p q v u xs ys W h1 h2
      have hG := fun W v u h1 h2 => bigDivMod_any p q v u xs ys W h1 h2
      obtain ⟨hL1, hL2⟩ := dmL_len (p := p) (q := q) (rd_limbs hx0) (rd_limbs hy0)
      generalize dmS1 p q xs ys = s1 at hS hG
      generalize dmL1 p q xs ys = L1 at hS hG hL1
      generalize dmS2 p q xs ys = s2 at hS hG
      generalize dmL2 p q xs ys = L2 at hS hG hL2
      generalize dmC p q xs ys = C at hS hG
      clear hrx hry
      go_enter Try.func4, Try.ntmps4
      go_wp2_with fail
      refine (szBig_any _ _ _ _ _ _ hlx (by omega) (by omega)).mono ?_
      rw [if_neg (by omega)]
      rintro e w1 ⟨rfl, hB⟩
      replace hW := hW.trans (hB.mono hW.size)
      replace bA := bA.keep hB
      replace bB := bB.keep hB
      clear hB
      obtain ⟨-, k2, k3⟩ := id bB
      go_wp2_with fail
      refine (szBig_any _ _ _ _ _ _ hly (by omega) (by omega)).mono ?_
      rw [if_neg (by omega)]
      rintro e w2 ⟨rfl, hB⟩
      clear k2 k3
      replace hW := hW.trans (hB.mono hW.size)
      replace bA := bA.keep hB
      replace bB := bB.keep hB
      clear hB
      have hs0 : w.heap.size + 1 < w2.heap.size := bB.1
      obtain ⟨hzap, k0, k1⟩ := id bA
      obtain ⟨hzbp, k2, k3⟩ := id bB
      have hxp := hx0.keep hW
      have hyp := hy0.keep hW
      have hRW := Below.refl w2.heap.size w2
      go_upto_region 8 with fail
      go_cut [6, 7, 8] from 30 to 38 (fun s6 s7 s8 wc => ∃ (b1 b2 : Nat) (a5 : Option Addr) (c5 : Nat) (a6 : Option Addr) (c6 : Nat), s6 = .pointer (some ⟨b1, 0, none⟩) ∧ s7 = .pointer (some ⟨b2, 0, none⟩) ∧ s8 = .int .i64 C ∧ FIN2 w2 wc b1 b2 (.bool s1) (.slice a5 L1.length c5) (.bool s2) (.slice a6 L2.length c6) L1 L2)
      case first =>
        clear hx0 hy0 hW hlx hly hG
        go_region_held3 (fun W => W.cell? ⟨w.heap.size, 0, none⟩ = some (.bool p) ∧ W.cell? ⟨w.heap.size, 1, none⟩ = some (.slice a xs.length cap) ∧ W.cell? ⟨w.heap.size + 1, 0, none⟩ = some (.bool q) ∧ W.cell? ⟨w.heap.size + 1, 1, none⟩ = some (.slice a' ys.length cap')) (first | (with_reducible exact ⟨x50, x51, y50, y51⟩) | (with_reducible exact ⟨x40, x41, y40, y41⟩) | (with_reducible exact ⟨x30, x31, y30, y31⟩) | (with_reducible exact keepD4 (by assumption)) | (with_reducible exact keepA4 (by assumption)) | (with_reducible exact keepS4 (by assumption) (by assumption) (by assumption)) | go_keep) (first | (go_at_call_of 7 (Value.agg #[Value.bool q, Value.slice a' ys.length cap']); refine (toBig_any _ _ ys _ (by first | with_reducible exact hyp.keep H3.out.2.2 | with_reducible exact (hyp.keep H3.out.2.2).alloc _ | with_reducible exact ((hyp.keep H3.out.2.2).alloc _).alloc _)).mono ?_; rintro e v4 ⟨a4, c4, rfl, oB, hB4⟩; first | (have oA4 := (oA).keep hB4; (have hB4' : Below (v3).heap.size v3 v4 := (by with_reducible exact hB4); have hs4 := hB4.size; (try simp only [World.size_alloc, World.size_drew] at hs4); have hWb : Below w2.heap.size w2 v3 := H3.out.2.2; have H4 : Hid (Box v4 w.heap.size (.bool p) (.slice a xs.length cap) ∧ Box v4 (w.heap.size + 1) (.bool q) (.slice a' ys.length cap') ∧ Below w2.heap.size w2 v4) := ⟨((H3.out.1)).keep hB4, ((H3.out.2.1)).keep hB4, hWb.trans (hB4.mono hWb.size)⟩; obtain ⟨-, x40, x41⟩ := H4.out.1; obtain ⟨-, y40, y41⟩ := H4.out.2.1; have HS4 : Hid (v3.heap.size ≤ v4.heap.size) := hs4; (try (revert HD3; intro HD3; have HD4 := (show Hid (BX2 v4 _ _ ∧ _) from ⟨(HD3.out.1).keep hB4, Nat.lt_of_lt_of_le HD3.out.2 (Nat.le_trans (by first | exact Nat.le_refl _ | exact Nat.le_add_right _ _ | exact Nat.le_add_right _ 2) hs4)⟩))); (try (revert HE3; intro HE3; have HE4 := (show Hid (BX2 v4 _ _ ∧ _) from ⟨(HE3.out.1).keep hB4, Nat.lt_of_lt_of_le HE3.out.2 (Nat.le_trans (by first | exact Nat.le_refl _ | exact Nat.le_add_right _ _ | exact Nat.le_add_right _ 2) hs4)⟩))); clear hB4 hB4' hs4 hWb)) | (have oA4 := ((oA).alloc (Obj.cells #[.bool false, .slice none 0 0] 26)).keep hB4; (have hB4' : Below ((v3.alloc (Obj.cells #[.bool false, .slice none 0 0] 26))).heap.size (v3.alloc (Obj.cells #[.bool false, .slice none 0 0] 26)) v4 := (by with_reducible exact hB4); have hs4 := hB4.size; (try simp only [World.size_alloc, World.size_drew] at hs4); have hWb : Below w2.heap.size w2 (v3.alloc (Obj.cells #[.bool false, .slice none 0 0] 26)) := (H3.out.2.2.alloc H3.out.2.2.size (Obj.cells #[.bool false, .slice none 0 0] 26)); have H4 : Hid (Box v4 w.heap.size (.bool p) (.slice a xs.length cap) ∧ Box v4 (w.heap.size + 1) (.bool q) (.slice a' ys.length cap') ∧ Below w2.heap.size w2 v4) := ⟨(((H3.out.1).alloc (Obj.cells #[.bool false, .slice none 0 0] 26))).keep hB4, (((H3.out.2.1).alloc (Obj.cells #[.bool false, .slice none 0 0] 26))).keep hB4, hWb.trans (hB4.mono hWb.size)⟩; obtain ⟨-, x40, x41⟩ := H4.out.1; obtain ⟨-, y40, y41⟩ := H4.out.2.1; have HS4 : Hid (v3.heap.size + 1 ≤ v4.heap.size) := hs4; (try (revert HD3; intro HD3; have HD4 := (show Hid (BX2 v4 _ _ ∧ _) from ⟨((HD3.out.1).alloc (Obj.cells #[.bool false, .slice none 0 0] 26)).keep hB4, Nat.lt_of_lt_of_le HD3.out.2 (Nat.le_trans (by first | exact Nat.le_refl _ | exact Nat.le_add_right _ _ | exact Nat.le_add_right _ 2) hs4)⟩))); (try (revert HE3; intro HE3; have HE4 := (show Hid (BX2 v4 _ _ ∧ _) from ⟨((HE3.out.1).alloc (Obj.cells #[.bool false, .slice none 0 0] 26)).keep hB4, Nat.lt_of_lt_of_le HE3.out.2 (Nat.le_trans (by first | exact Nat.le_refl _ | exact Nat.le_add_right _ _ | exact Nat.le_add_right _ 2) hs4)⟩))); have HF4 : Hid (BX2 v4 w2.heap.size (v3.heap.size) ∧ v3.heap.size < v4.heap.size) := ⟨((BX2.new v3 w2.heap.size (v3.heap.size) (by simp) (by have hq := H3.out.2.2.size; omega))).keep hB4, (by omega)⟩; clear hB4 hB4' hs4 hWb)) | (have oA4 := (((oA).alloc (Obj.cells #[.bool false, .slice none 0 0] 26)).alloc (Obj.cells #[.bool false, .slice none 0 0] 26)).keep hB4; (have hB4' : Below (((v3.alloc (Obj.cells #[.bool false, .slice none 0 0] 26)).alloc (Obj.cells #[.bool false, .slice none 0 0] 26))).heap.size ((v3.alloc (Obj.cells #[.bool false, .slice none 0 0] 26)).alloc (Obj.cells #[.bool false, .slice none 0 0] 26)) v4 := (by with_reducible exact hB4); have hs4 := hB4.size; (try simp only [World.size_alloc, World.size_drew] at hs4); have hWb : Below w2.heap.size w2 ((v3.alloc (Obj.cells #[.bool false, .slice none 0 0] 26)).alloc (Obj.cells #[.bool false, .slice none 0 0] 26)) := ((H3.out.2.2.alloc H3.out.2.2.size (Obj.cells #[.bool false, .slice none 0 0] 26)).alloc (by have := H3.out.2.2.size; simp only [World.size_alloc]; omega) (Obj.cells #[.bool false, .slice none 0 0] 26)); have H4 : Hid (Box v4 w.heap.size (.bool p) (.slice a xs.length cap) ∧ Box v4 (w.heap.size + 1) (.bool q) (.slice a' ys.length cap') ∧ Below w2.heap.size w2 v4) := ⟨((((H3.out.1).alloc (Obj.cells #[.bool false, .slice none 0 0] 26)).alloc (Obj.cells #[.bool false, .slice none 0 0] 26))).keep hB4, ((((H3.out.2.1).alloc (Obj.cells #[.bool false, .slice none 0 0] 26)).alloc (Obj.cells #[.bool false, .slice none 0 0] 26))).keep hB4, hWb.trans (hB4.mono hWb.size)⟩; obtain ⟨-, x40, x41⟩ := H4.out.1; obtain ⟨-, y40, y41⟩ := H4.out.2.1; have HS4 : Hid (v3.heap.size + 1 + 1 ≤ v4.heap.size) := hs4; (try (revert HD3; intro HD3; have HD4 := (show Hid (BX2 v4 _ _ ∧ _) from ⟨(((HD3.out.1).alloc (Obj.cells #[.bool false, .slice none 0 0] 26)).alloc (Obj.cells #[.bool false, .slice none 0 0] 26)).keep hB4, Nat.lt_of_lt_of_le HD3.out.2 (Nat.le_trans (by first | exact Nat.le_refl _ | exact Nat.le_add_right _ _ | exact Nat.le_add_right _ 2) hs4)⟩))); (try (revert HE3; intro HE3; have HE4 := (show Hid (BX2 v4 _ _ ∧ _) from ⟨(((HE3.out.1).alloc (Obj.cells #[.bool false, .slice none 0 0] 26)).alloc (Obj.cells #[.bool false, .slice none 0 0] 26)).keep hB4, Nat.lt_of_lt_of_le HE3.out.2 (Nat.le_trans (by first | exact Nat.le_refl _ | exact Nat.le_add_right _ _ | exact Nat.le_add_right _ 2) hs4)⟩))); have HF4 : Hid (BX2 v4 w2.heap.size (v3.heap.size) ∧ v3.heap.size < v4.heap.size) := ⟨(((BX2.new v3 w2.heap.size (v3.heap.size) (by simp) (by have hq := H3.out.2.2.size; omega)).alloc (Obj.cells #[.bool false, .slice none 0 0] 26))).keep hB4, (by omega)⟩; have HG4 : Hid (BX2 v4 w2.heap.size (v3.heap.size + 1) ∧ v3.heap.size + 1 < v4.heap.size) := ⟨((BX2.new (v3.alloc (Obj.cells #[.bool false, .slice none 0 0] 26)) w2.heap.size (v3.heap.size + 1) (by simp) (by have hq := H3.out.2.2.size; omega))).keep hB4, (by omega)⟩; clear hB4 hB4' hs4 hWb))) | (go_at_call_of 7 (Value.agg #[Value.bool p, Value.slice a xs.length cap]); refine (toBig_any _ _ xs _ (by first | with_reducible exact hxp.drew | with_reducible exact (hxp.alloc _).drew | with_reducible exact ((hxp.alloc _).alloc _).drew)).mono ?_; rintro e v3 ⟨a3, c3, rfl, oA, hB3⟩; first | (have hB3' : Below (w2.drew).heap.size w2.drew v3 := (by with_reducible exact hB3); have hs3 := hB3.size; (try simp only [World.size_alloc, World.size_drew] at hs3); have hWb : Below w2.heap.size w2 w2.drew := (Below.refl w2.heap.size w2).drew; have H3 : Hid (Box v3 w.heap.size (.bool p) (.slice a xs.length cap) ∧ Box v3 (w.heap.size + 1) (.bool q) (.slice a' ys.length cap') ∧ Below w2.heap.size w2 v3) := ⟨((bA).drew).keep hB3, ((bB).drew).keep hB3, hWb.trans (hB3.mono hWb.size)⟩; obtain ⟨-, x30, x31⟩ := H3.out.1; obtain ⟨-, y30, y31⟩ := H3.out.2.1; have HS3 : Hid (w2.heap.size ≤ v3.heap.size) := hs3; clear hB3 hB3' hs3 hWb) | (have hB3' : Below ((w2.alloc (Obj.cells #[.bool false, .slice none 0 0] 26)).drew).heap.size (w2.alloc (Obj.cells #[.bool false, .slice none 0 0] 26)).drew v3 := (by with_reducible exact hB3); have hs3 := hB3.size; (try simp only [World.size_alloc, World.size_drew] at hs3); have hWb : Below w2.heap.size w2 (w2.alloc (Obj.cells #[.bool false, .slice none 0 0] 26)).drew := ((Below.refl w2.heap.size w2).alloc (by (try simp only [World.size_alloc]); omega) (Obj.cells #[.bool false, .slice none 0 0] 26)).drew; have H3 : Hid (Box v3 w.heap.size (.bool p) (.slice a xs.length cap) ∧ Box v3 (w.heap.size + 1) (.bool q) (.slice a' ys.length cap') ∧ Below w2.heap.size w2 v3) := ⟨(((bA).alloc (Obj.cells #[.bool false, .slice none 0 0] 26)).drew).keep hB3, (((bB).alloc (Obj.cells #[.bool false, .slice none 0 0] 26)).drew).keep hB3, hWb.trans (hB3.mono hWb.size)⟩; obtain ⟨-, x30, x31⟩ := H3.out.1; obtain ⟨-, y30, y31⟩ := H3.out.2.1; have HS3 : Hid (w2.heap.size + 1 ≤ v3.heap.size) := hs3; have HD3 : Hid (BX2 v3 w2.heap.size (w2.heap.size) ∧ w2.heap.size < v3.heap.size) := ⟨((BX2.new w2 w2.heap.size (w2.heap.size) (by simp) (by have hq := hRW.size; omega)).drew).keep hB3, (by omega)⟩; clear hB3 hB3' hs3 hWb) | (have hB3' : Below (((w2.alloc (Obj.cells #[.bool false, .slice none 0 0] 26)).alloc (Obj.cells #[.bool false, .slice none 0 0] 26)).drew).heap.size ((w2.alloc (Obj.cells #[.bool false, .slice none 0 0] 26)).alloc (Obj.cells #[.bool false, .slice none 0 0] 26)).drew v3 := (by with_reducible exact hB3); have hs3 := hB3.size; (try simp only [World.size_alloc, World.size_drew] at hs3); have hWb : Below w2.heap.size w2 ((w2.alloc (Obj.cells #[.bool false, .slice none 0 0] 26)).alloc (Obj.cells #[.bool false, .slice none 0 0] 26)).drew := (((Below.refl w2.heap.size w2).alloc (by (try simp only [World.size_alloc]); omega) (Obj.cells #[.bool false, .slice none 0 0] 26)).alloc (by (try simp only [World.size_alloc]); omega) (Obj.cells #[.bool false, .slice none 0 0] 26)).drew; have H3 : Hid (Box v3 w.heap.size (.bool p) (.slice a xs.length cap) ∧ Box v3 (w.heap.size + 1) (.bool q) (.slice a' ys.length cap') ∧ Below w2.heap.size w2 v3) := ⟨((((bA).alloc (Obj.cells #[.bool false, .slice none 0 0] 26)).alloc (Obj.cells #[.bool false, .slice none 0 0] 26)).drew).keep hB3, ((((bB).alloc (Obj.cells #[.bool false, .slice none 0 0] 26)).alloc (Obj.cells #[.bool false, .slice none 0 0] 26)).drew).keep hB3, hWb.trans (hB3.mono hWb.size)⟩; obtain ⟨-, x30, x31⟩ := H3.out.1; obtain ⟨-, y30, y31⟩ := H3.out.2.1; have HS3 : Hid (w2.heap.size + 1 + 1 ≤ v3.heap.size) := hs3; have HD3 : Hid (BX2 v3 w2.heap.size (w2.heap.size) ∧ w2.heap.size < v3.heap.size) := ⟨(((BX2.new w2 w2.heap.size (w2.heap.size) (by simp) (by have hq := hRW.size; omega)).alloc (Obj.cells #[.bool false, .slice none 0 0] 26)).drew).keep hB3, (by omega)⟩; have HE3 : Hid (BX2 v3 w2.heap.size (w2.heap.size + 1) ∧ w2.heap.size + 1 < v3.heap.size) := ⟨((BX2.new (w2.alloc (Obj.cells #[.bool false, .slice none 0 0] 26)) w2.heap.size (w2.heap.size + 1) (by simp) (by have hq := hRW.size; omega)).drew).keep hB3, (by omega)⟩; clear hB3 hB3' hs3 hWb)) | (go_at_call 12; refine (hS _ _ _ (by first | with_reducible exact oA4.rd | with_reducible exact oA4.rd.alloc _ | with_reducible exact (oA4.rd.alloc _).alloc _) (by first | with_reducible exact oB.rd | with_reducible exact oB.rd.alloc _ | with_reducible exact (oB.rd.alloc _).alloc _)).mono ?_; rintro e v5 ⟨a5, c5, a6, c6, rfl, oS1, oS2, hB5⟩; first | (have hB5' : Below (v4).heap.size v4 v5 := (by with_reducible exact hB5); have hs5 := hB5.size; (try simp only [World.size_alloc, World.size_drew] at hs5); have hWb : Below w2.heap.size w2 v4 := H4.out.2.2; have H5 : Hid (Box v5 w.heap.size (.bool p) (.slice a xs.length cap) ∧ Box v5 (w.heap.size + 1) (.bool q) (.slice a' ys.length cap') ∧ Below w2.heap.size w2 v5) := ⟨((H4.out.1)).keep hB5, ((H4.out.2.1)).keep hB5, hWb.trans (hB5.mono hWb.size)⟩; obtain ⟨-, x50, x51⟩ := H5.out.1; obtain ⟨-, y50, y51⟩ := H5.out.2.1; have HS5 : Hid (v4.heap.size ≤ v5.heap.size) := hs5; (try (revert HD4; intro HD4; have HD5 := (show Hid (BX2 v5 _ _ ∧ _) from ⟨(HD4.out.1).keep hB5, Nat.lt_of_lt_of_le HD4.out.2 (Nat.le_trans (by first | exact Nat.le_refl _ | exact Nat.le_add_right _ _ | exact Nat.le_add_right _ 2) hs5)⟩))); (try (revert HE4; intro HE4; have HE5 := (show Hid (BX2 v5 _ _ ∧ _) from ⟨(HE4.out.1).keep hB5, Nat.lt_of_lt_of_le HE4.out.2 (Nat.le_trans (by first | exact Nat.le_refl _ | exact Nat.le_add_right _ _ | exact Nat.le_add_right _ 2) hs5)⟩))); (try (revert HF4; intro HF4; have HF5 := (show Hid (BX2 v5 _ _ ∧ _) from ⟨(HF4.out.1).keep hB5, Nat.lt_of_lt_of_le HF4.out.2 (Nat.le_trans (by first | exact Nat.le_refl _ | exact Nat.le_add_right _ _ | exact Nat.le_add_right _ 2) hs5)⟩))); (try (revert HG4; intro HG4; have HG5 := (show Hid (BX2 v5 _ _ ∧ _) from ⟨(HG4.out.1).keep hB5, Nat.lt_of_lt_of_le HG4.out.2 (Nat.le_trans (by first | exact Nat.le_refl _ | exact Nat.le_add_right _ _ | exact Nat.le_add_right _ 2) hs5)⟩))); obtain ⟨B5, hB5e, o51, o52⟩ : ∃ B5, B5 = v4.heap.size ∧ Own v5 B5 (.slice a5 L1.length c5) L1 ∧ Own v5 B5 (.slice a6 L2.length c6) L2 := ⟨_, rfl, oS1.mono (by simp), oS2.mono (by simp)⟩; have g3 := HS3.out; have g4 := HS4.out; have g5 := HS5.out; have gz : w2.heap.size ≤ v5.heap.size := H5.out.2.2.size; have gy := H4.out.2.2.size; have P5 : PK2 w2 v5 B5 (.slice a5 L1.length c5) (.slice a6 L2.length c6) L1 L2 := ⟨H5.out.2.2, o51, o52, (by omega), (by omega)⟩; (try (revert HD5; intro HD5; have KD5 := (show Hid (_ < B5) from ltB2 HD4.out.2 (by omega)))); (try (revert HE5; intro HE5; have KE5 := (show Hid (_ < B5) from ltB2 HE4.out.2 (by omega)))); (try (revert HF5; intro HF5; have KF5 := (show Hid (_ < B5) from ltB2 HF4.out.2 (by omega)))); (try (revert HG5; intro HG5; have KG5 := (show Hid (_ < B5) from ltB2 HG4.out.2 (by omega)))); (try (revert HD5 HE5; intro HD5 HE5; obtain ⟨jDE, jED⟩ := ne_twoB HD5.out.1 HE5.out.1 (Nat.lt_succ_self _))); (try (revert HD5 HF5; intro HD5 HF5; obtain ⟨jDF, jFD⟩ := ne_twoB HD5.out.1 HF5.out.1 (Nat.lt_of_lt_of_le HD3.out.2 (Nat.le_refl _)))); (try (revert HD5 HH5; intro HD5 HH5; have jl : w2.heap.size < v4.heap.size := (by omega); have jDH : ¬ w2.heap.size = v4.heap.size := Nat.ne_of_lt jl; have jHD : ¬ v4.heap.size = w2.heap.size := Nat.ne_of_gt jl; clear jl)); (try (revert HF5 HG5; intro HF5 HG5; obtain ⟨jFG, jGF⟩ := ne_twoB HF5.out.1 HG5.out.1 (Nat.lt_succ_self _))); (try (revert HF5 HH5; intro HF5 HH5; have jl : v3.heap.size < v4.heap.size := (by omega); have jFH : ¬ v3.heap.size = v4.heap.size := Nat.ne_of_lt jl; have jHF : ¬ v4.heap.size = v3.heap.size := Nat.ne_of_gt jl; clear jl)); (try (revert HH5 HI5; intro HH5 HI5; obtain ⟨jHI, jIH⟩ := ne_twoB HH5.out.1 HI5.out.1 (Nat.lt_succ_self _))); (try (obtain ⟨⟨⟨-, dD0, dD1⟩, ⟨-, dDf⟩, -⟩, dDh⟩ := HD5.out)); (try (revert HD5; intro HD5; obtain ⟨kD7, k7D, kD8, k8D⟩ := ne_leB (c := v5.heap.size) HD5.out.2 (Nat.le_refl _); obtain ⟨nD0, n0D, nD1, n1D⟩ := bx2_ne HD5.out.1 hs0)); (try (revert HD5; intro HD5; obtain ⟨⟨-, mD0, mD1⟩, ⟨-, mDf⟩, -⟩ := HD5.out.1.alloc (Obj.cells #[.bool false, .slice none 0 0] 26))); (try (revert HD5; intro HD5; obtain ⟨⟨-, sD0, sD1⟩, ⟨-, sDf⟩, -⟩ := HD5.out.1.alloc (Obj.cells #[.bool s1, .slice a5 L1.length c5] 26))); (try (revert HD5; intro HD5; obtain ⟨⟨-, tD0, tD1⟩, ⟨-, tDf⟩, -⟩ := HD5.out.1.alloc (Obj.cells #[.bool s2, .slice a6 L2.length c6] 26))); (try (obtain ⟨⟨⟨-, dE0, dE1⟩, ⟨-, dEf⟩, -⟩, dEh⟩ := HE5.out)); (try (revert HE5; intro HE5; obtain ⟨kE7, k7E, kE8, k8E⟩ := ne_leB (c := v5.heap.size) HE5.out.2 (Nat.le_refl _); obtain ⟨nE0, n0E, nE1, n1E⟩ := bx2_ne HE5.out.1 hs0)); (try (revert HE5; intro HE5; obtain ⟨⟨-, mE0, mE1⟩, ⟨-, mEf⟩, -⟩ := HE5.out.1.alloc (Obj.cells #[.bool false, .slice none 0 0] 26))); (try (revert HE5; intro HE5; obtain ⟨⟨-, sE0, sE1⟩, ⟨-, sEf⟩, -⟩ := HE5.out.1.alloc (Obj.cells #[.bool s1, .slice a5 L1.length c5] 26))); (try (revert HE5; intro HE5; obtain ⟨⟨-, tE0, tE1⟩, ⟨-, tEf⟩, -⟩ := HE5.out.1.alloc (Obj.cells #[.bool s2, .slice a6 L2.length c6] 26))); (try (obtain ⟨⟨⟨-, dF0, dF1⟩, ⟨-, dFf⟩, -⟩, dFh⟩ := HF5.out)); (try (revert HF5; intro HF5; obtain ⟨kF7, k7F, kF8, k8F⟩ := ne_leB (c := v5.heap.size) HF5.out.2 (Nat.le_refl _); obtain ⟨nF0, n0F, nF1, n1F⟩ := bx2_ne HF5.out.1 hs0)); (try (revert HF5; intro HF5; obtain ⟨⟨-, mF0, mF1⟩, ⟨-, mFf⟩, -⟩ := HF5.out.1.alloc (Obj.cells #[.bool false, .slice none 0 0] 26))); (try (revert HF5; intro HF5; obtain ⟨⟨-, sF0, sF1⟩, ⟨-, sFf⟩, -⟩ := HF5.out.1.alloc (Obj.cells #[.bool s1, .slice a5 L1.length c5] 26))); (try (revert HF5; intro HF5; obtain ⟨⟨-, tF0, tF1⟩, ⟨-, tFf⟩, -⟩ := HF5.out.1.alloc (Obj.cells #[.bool s2, .slice a6 L2.length c6] 26))); (try (obtain ⟨⟨⟨-, dG0, dG1⟩, ⟨-, dGf⟩, -⟩, dGh⟩ := HG5.out)); (try (revert HG5; intro HG5; obtain ⟨kG7, k7G, kG8, k8G⟩ := ne_leB (c := v5.heap.size) HG5.out.2 (Nat.le_refl _); obtain ⟨nG0, n0G, nG1, n1G⟩ := bx2_ne HG5.out.1 hs0)); (try (revert HG5; intro HG5; obtain ⟨⟨-, mG0, mG1⟩, ⟨-, mGf⟩, -⟩ := HG5.out.1.alloc (Obj.cells #[.bool false, .slice none 0 0] 26))); (try (revert HG5; intro HG5; obtain ⟨⟨-, sG0, sG1⟩, ⟨-, sGf⟩, -⟩ := HG5.out.1.alloc (Obj.cells #[.bool s1, .slice a5 L1.length c5] 26))); (try (revert HG5; intro HG5; obtain ⟨⟨-, tG0, tG1⟩, ⟨-, tGf⟩, -⟩ := HG5.out.1.alloc (Obj.cells #[.bool s2, .slice a6 L2.length c6] 26))); (try (obtain ⟨⟨⟨-, dH0, dH1⟩, ⟨-, dHf⟩, -⟩, dHh⟩ := HH5.out)); (try (revert HH5; intro HH5; obtain ⟨kH7, k7H, kH8, k8H⟩ := ne_leB (c := v5.heap.size) HH5.out.2 (Nat.le_refl _); obtain ⟨nH0, n0H, nH1, n1H⟩ := bx2_ne HH5.out.1 hs0)); (try (revert HH5; intro HH5; obtain ⟨⟨-, mH0, mH1⟩, ⟨-, mHf⟩, -⟩ := HH5.out.1.alloc (Obj.cells #[.bool false, .slice none 0 0] 26))); (try (revert HH5; intro HH5; obtain ⟨⟨-, sH0, sH1⟩, ⟨-, sHf⟩, -⟩ := HH5.out.1.alloc (Obj.cells #[.bool s1, .slice a5 L1.length c5] 26))); (try (revert HH5; intro HH5; obtain ⟨⟨-, tH0, tH1⟩, ⟨-, tHf⟩, -⟩ := HH5.out.1.alloc (Obj.cells #[.bool s2, .slice a6 L2.length c6] 26))); (try (obtain ⟨⟨⟨-, dI0, dI1⟩, ⟨-, dIf⟩, -⟩, dIh⟩ := HI5.out)); (try (revert HI5; intro HI5; obtain ⟨kI7, k7I, kI8, k8I⟩ := ne_leB (c := v5.heap.size) HI5.out.2 (Nat.le_refl _); obtain ⟨nI0, n0I, nI1, n1I⟩ := bx2_ne HI5.out.1 hs0)); (try (revert HI5; intro HI5; obtain ⟨⟨-, mI0, mI1⟩, ⟨-, mIf⟩, -⟩ := HI5.out.1.alloc (Obj.cells #[.bool false, .slice none 0 0] 26))); (try (revert HI5; intro HI5; obtain ⟨⟨-, sI0, sI1⟩, ⟨-, sIf⟩, -⟩ := HI5.out.1.alloc (Obj.cells #[.bool s1, .slice a5 L1.length c5] 26))); (try (revert HI5; intro HI5; obtain ⟨⟨-, tI0, tI1⟩, ⟨-, tIf⟩, -⟩ := HI5.out.1.alloc (Obj.cells #[.bool s2, .slice a6 L2.length c6] 26))); have lA := Box.new v5 (.bool false) (.slice none 0 0) 26; have lAf := Unf.new v5 #[.bool false, .slice none 0 0] 26; have lB := lA.alloc (Obj.cells #[.bool false, .slice none 0 0] 26); have lBf := lAf.keep ((Below.refl _ _).alloc (Nat.le_refl _) (Obj.cells #[.bool false, .slice none 0 0] 26)); have lC := Box.new (v5.alloc (Obj.cells #[.bool false, .slice none 0 0] 26)) (.bool false) (.slice none 0 0) 26; have lCf := Unf.new (v5.alloc (Obj.cells #[.bool false, .slice none 0 0] 26)) #[.bool false, .slice none 0 0] 26; simp only [World.size_alloc] at lC lCf; obtain ⟨-, lA0, lA1⟩ := lA; obtain ⟨-, lAg⟩ := lAf; obtain ⟨-, lB0, lB1⟩ := lB; obtain ⟨-, lBg⟩ := lBf; obtain ⟨-, lC0, lC1⟩ := lC; obtain ⟨-, lCg⟩ := lCf; obtain ⟨za0, za0', za1, za1', zb0, zb0', zb1, zb1'⟩ := far_two hs0 gz; clear hB5 hB5' hs5 hWb oS1 oS2 o51 o52 gy) | (have hB5' : Below ((v4.alloc (Obj.cells #[.bool false, .slice none 0 0] 26))).heap.size (v4.alloc (Obj.cells #[.bool false, .slice none 0 0] 26)) v5 := (by with_reducible exact hB5); have hs5 := hB5.size; (try simp only [World.size_alloc, World.size_drew] at hs5); have hWb : Below w2.heap.size w2 (v4.alloc (Obj.cells #[.bool false, .slice none 0 0] 26)) := (H4.out.2.2.alloc H4.out.2.2.size (Obj.cells #[.bool false, .slice none 0 0] 26)); have H5 : Hid (Box v5 w.heap.size (.bool p) (.slice a xs.length cap) ∧ Box v5 (w.heap.size + 1) (.bool q) (.slice a' ys.length cap') ∧ Below w2.heap.size w2 v5) := ⟨(((H4.out.1).alloc (Obj.cells #[.bool false, .slice none 0 0] 26))).keep hB5, (((H4.out.2.1).alloc (Obj.cells #[.bool false, .slice none 0 0] 26))).keep hB5, hWb.trans (hB5.mono hWb.size)⟩; obtain ⟨-, x50, x51⟩ := H5.out.1; obtain ⟨-, y50, y51⟩ := H5.out.2.1; have HS5 : Hid (v4.heap.size + 1 ≤ v5.heap.size) := hs5; (try (revert HD4; intro HD4; have HD5 := (show Hid (BX2 v5 _ _ ∧ _) from ⟨((HD4.out.1).alloc (Obj.cells #[.bool false, .slice none 0 0] 26)).keep hB5, Nat.lt_of_lt_of_le HD4.out.2 (Nat.le_trans (by first | exact Nat.le_refl _ | exact Nat.le_add_right _ _ | exact Nat.le_add_right _ 2) hs5)⟩))); (try (revert HE4; intro HE4; have HE5 := (show Hid (BX2 v5 _ _ ∧ _) from ⟨((HE4.out.1).alloc (Obj.cells #[.bool false, .slice none 0 0] 26)).keep hB5, Nat.lt_of_lt_of_le HE4.out.2 (Nat.le_trans (by first | exact Nat.le_refl _ | exact Nat.le_add_right _ _ | exact Nat.le_add_right _ 2) hs5)⟩))); (try (revert HF4; intro HF4; have HF5 := (show Hid (BX2 v5 _ _ ∧ _) from ⟨((HF4.out.1).alloc (Obj.cells #[.bool false, .slice none 0 0] 26)).keep hB5, Nat.lt_of_lt_of_le HF4.out.2 (Nat.le_trans (by first | exact Nat.le_refl _ | exact Nat.le_add_right _ _ | exact Nat.le_add_right _ 2) hs5)⟩))); (try (revert HG4; intro HG4; have HG5 := (show Hid (BX2 v5 _ _ ∧ _) from ⟨((HG4.out.1).alloc (Obj.cells #[.bool false, .slice none 0 0] 26)).keep hB5, Nat.lt_of_lt_of_le HG4.out.2 (Nat.le_trans (by first | exact Nat.le_refl _ | exact Nat.le_add_right _ _ | exact Nat.le_add_right _ 2) hs5)⟩))); have HH5 : Hid (BX2 v5 w2.heap.size (v4.heap.size) ∧ v4.heap.size < v5.heap.size) := ⟨((BX2.new v4 w2.heap.size (v4.heap.size) (by simp) (by have hq := H4.out.2.2.size; omega))).keep hB5, (by omega)⟩; obtain ⟨B5, hB5e, o51, o52⟩ : ∃ B5, B5 = v4.heap.size + 1 ∧ Own v5 B5 (.slice a5 L1.length c5) L1 ∧ Own v5 B5 (.slice a6 L2.length c6) L2 := ⟨_, rfl, oS1.mono (by simp), oS2.mono (by simp)⟩; have g3 := HS3.out; have g4 := HS4.out; have g5 := HS5.out; have gz : w2.heap.size ≤ v5.heap.size := H5.out.2.2.size; have gy := H4.out.2.2.size; have P5 : PK2 w2 v5 B5 (.slice a5 L1.length c5) (.slice a6 L2.length c6) L1 L2 := ⟨H5.out.2.2, o51, o52, (by omega), (by omega)⟩; (try (revert HD5; intro HD5; have KD5 := (show Hid (_ < B5) from ltB2 HD4.out.2 (by omega)))); (try (revert HE5; intro HE5; have KE5 := (show Hid (_ < B5) from ltB2 HE4.out.2 (by omega)))); (try (revert HF5; intro HF5; have KF5 := (show Hid (_ < B5) from ltB2 HF4.out.2 (by omega)))); (try (revert HG5; intro HG5; have KG5 := (show Hid (_ < B5) from ltB2 HG4.out.2 (by omega)))); have KH5 : Hid (v4.heap.size < B5) := (by show _ < _; omega); (try (revert HD5 HE5; intro HD5 HE5; obtain ⟨jDE, jED⟩ := ne_twoB HD5.out.1 HE5.out.1 (Nat.lt_succ_self _))); (try (revert HD5 HF5; intro HD5 HF5; obtain ⟨jDF, jFD⟩ := ne_twoB HD5.out.1 HF5.out.1 (Nat.lt_of_lt_of_le HD3.out.2 (Nat.le_refl _)))); (try (revert HD5 HH5; intro HD5 HH5; have jl : w2.heap.size < v4.heap.size := (by omega); have jDH : ¬ w2.heap.size = v4.heap.size := Nat.ne_of_lt jl; have jHD : ¬ v4.heap.size = w2.heap.size := Nat.ne_of_gt jl; clear jl)); (try (revert HF5 HG5; intro HF5 HG5; obtain ⟨jFG, jGF⟩ := ne_twoB HF5.out.1 HG5.out.1 (Nat.lt_succ_self _))); (try (revert HF5 HH5; intro HF5 HH5; have jl : v3.heap.size < v4.heap.size := (by omega); have jFH : ¬ v3.heap.size = v4.heap.size := Nat.ne_of_lt jl; have jHF : ¬ v4.heap.size = v3.heap.size := Nat.ne_of_gt jl; clear jl)); (try (revert HH5 HI5; intro HH5 HI5; obtain ⟨jHI, jIH⟩ := ne_twoB HH5.out.1 HI5.out.1 (Nat.lt_succ_self _))); (try (obtain ⟨⟨⟨-, dD0, dD1⟩, ⟨-, dDf⟩, -⟩, dDh⟩ := HD5.out)); (try (revert HD5; intro HD5; obtain ⟨kD7, k7D, kD8, k8D⟩ := ne_leB (c := v5.heap.size) HD5.out.2 (Nat.le_refl _); obtain ⟨nD0, n0D, nD1, n1D⟩ := bx2_ne HD5.out.1 hs0)); (try (revert HD5; intro HD5; obtain ⟨⟨-, mD0, mD1⟩, ⟨-, mDf⟩, -⟩ := HD5.out.1.alloc (Obj.cells #[.bool false, .slice none 0 0] 26))); (try (revert HD5; intro HD5; obtain ⟨⟨-, sD0, sD1⟩, ⟨-, sDf⟩, -⟩ := HD5.out.1.alloc (Obj.cells #[.bool s1, .slice a5 L1.length c5] 26))); (try (revert HD5; intro HD5; obtain ⟨⟨-, tD0, tD1⟩, ⟨-, tDf⟩, -⟩ := HD5.out.1.alloc (Obj.cells #[.bool s2, .slice a6 L2.length c6] 26))); (try (obtain ⟨⟨⟨-, dE0, dE1⟩, ⟨-, dEf⟩, -⟩, dEh⟩ := HE5.out)); (try (revert HE5; intro HE5; obtain ⟨kE7, k7E, kE8, k8E⟩ := ne_leB (c := v5.heap.size) HE5.out.2 (Nat.le_refl _); obtain ⟨nE0, n0E, nE1, n1E⟩ := bx2_ne HE5.out.1 hs0)); (try (revert HE5; intro HE5; obtain ⟨⟨-, mE0, mE1⟩, ⟨-, mEf⟩, -⟩ := HE5.out.1.alloc (Obj.cells #[.bool false, .slice none 0 0] 26))); (try (revert HE5; intro HE5; obtain ⟨⟨-, sE0, sE1⟩, ⟨-, sEf⟩, -⟩ := HE5.out.1.alloc (Obj.cells #[.bool s1, .slice a5 L1.length c5] 26))); (try (revert HE5; intro HE5; obtain ⟨⟨-, tE0, tE1⟩, ⟨-, tEf⟩, -⟩ := HE5.out.1.alloc (Obj.cells #[.bool s2, .slice a6 L2.length c6] 26))); (try (obtain ⟨⟨⟨-, dF0, dF1⟩, ⟨-, dFf⟩, -⟩, dFh⟩ := HF5.out)); (try (revert HF5; intro HF5; obtain ⟨kF7, k7F, kF8, k8F⟩ := ne_leB (c := v5.heap.size) HF5.out.2 (Nat.le_refl _); obtain ⟨nF0, n0F, nF1, n1F⟩ := bx2_ne HF5.out.1 hs0)); (try (revert HF5; intro HF5; obtain ⟨⟨-, mF0, mF1⟩, ⟨-, mFf⟩, -⟩ := HF5.out.1.alloc (Obj.cells #[.bool false, .slice none 0 0] 26))); (try (revert HF5; intro HF5; obtain ⟨⟨-, sF0, sF1⟩, ⟨-, sFf⟩, -⟩ := HF5.out.1.alloc (Obj.cells #[.bool s1, .slice a5 L1.length c5] 26))); (try (revert HF5; intro HF5; obtain ⟨⟨-, tF0, tF1⟩, ⟨-, tFf⟩, -⟩ := HF5.out.1.alloc (Obj.cells #[.bool s2, .slice a6 L2.length c6] 26))); (try (obtain ⟨⟨⟨-, dG0, dG1⟩, ⟨-, dGf⟩, -⟩, dGh⟩ := HG5.out)); (try (revert HG5; intro HG5; obtain ⟨kG7, k7G, kG8, k8G⟩ := ne_leB (c := v5.heap.size) HG5.out.2 (Nat.le_refl _); obtain ⟨nG0, n0G, nG1, n1G⟩ := bx2_ne HG5.out.1 hs0)); (try (revert HG5; intro HG5; obtain ⟨⟨-, mG0, mG1⟩, ⟨-, mGf⟩, -⟩ := HG5.out.1.alloc (Obj.cells #[.bool false, .slice none 0 0] 26))); (try (revert HG5; intro HG5; obtain ⟨⟨-, sG0, sG1⟩, ⟨-, sGf⟩, -⟩ := HG5.out.1.alloc (Obj.cells #[.bool s1, .slice a5 L1.length c5] 26))); (try (revert HG5; intro HG5; obtain ⟨⟨-, tG0, tG1⟩, ⟨-, tGf⟩, -⟩ := HG5.out.1.alloc (Obj.cells #[.bool s2, .slice a6 L2.length c6] 26))); (try (obtain ⟨⟨⟨-, dH0, dH1⟩, ⟨-, dHf⟩, -⟩, dHh⟩ := HH5.out)); (try (revert HH5; intro HH5; obtain ⟨kH7, k7H, kH8, k8H⟩ := ne_leB (c := v5.heap.size) HH5.out.2 (Nat.le_refl _); obtain ⟨nH0, n0H, nH1, n1H⟩ := bx2_ne HH5.out.1 hs0)); (try (revert HH5; intro HH5; obtain ⟨⟨-, mH0, mH1⟩, ⟨-, mHf⟩, -⟩ := HH5.out.1.alloc (Obj.cells #[.bool false, .slice none 0 0] 26))); (try (revert HH5; intro HH5; obtain ⟨⟨-, sH0, sH1⟩, ⟨-, sHf⟩, -⟩ := HH5.out.1.alloc (Obj.cells #[.bool s1, .slice a5 L1.length c5] 26))); (try (revert HH5; intro HH5; obtain ⟨⟨-, tH0, tH1⟩, ⟨-, tHf⟩, -⟩ := HH5.out.1.alloc (Obj.cells #[.bool s2, .slice a6 L2.length c6] 26))); (try (obtain ⟨⟨⟨-, dI0, dI1⟩, ⟨-, dIf⟩, -⟩, dIh⟩ := HI5.out)); (try (revert HI5; intro HI5; obtain ⟨kI7, k7I, kI8, k8I⟩ := ne_leB (c := v5.heap.size) HI5.out.2 (Nat.le_refl _); obtain ⟨nI0, n0I, nI1, n1I⟩ := bx2_ne HI5.out.1 hs0)); (try (revert HI5; intro HI5; obtain ⟨⟨-, mI0, mI1⟩, ⟨-, mIf⟩, -⟩ := HI5.out.1.alloc (Obj.cells #[.bool false, .slice none 0 0] 26))); (try (revert HI5; intro HI5; obtain ⟨⟨-, sI0, sI1⟩, ⟨-, sIf⟩, -⟩ := HI5.out.1.alloc (Obj.cells #[.bool s1, .slice a5 L1.length c5] 26))); (try (revert HI5; intro HI5; obtain ⟨⟨-, tI0, tI1⟩, ⟨-, tIf⟩, -⟩ := HI5.out.1.alloc (Obj.cells #[.bool s2, .slice a6 L2.length c6] 26))); have lA := Box.new v5 (.bool false) (.slice none 0 0) 26; have lAf := Unf.new v5 #[.bool false, .slice none 0 0] 26; have lB := lA.alloc (Obj.cells #[.bool false, .slice none 0 0] 26); have lBf := lAf.keep ((Below.refl _ _).alloc (Nat.le_refl _) (Obj.cells #[.bool false, .slice none 0 0] 26)); have lC := Box.new (v5.alloc (Obj.cells #[.bool false, .slice none 0 0] 26)) (.bool false) (.slice none 0 0) 26; have lCf := Unf.new (v5.alloc (Obj.cells #[.bool false, .slice none 0 0] 26)) #[.bool false, .slice none 0 0] 26; simp only [World.size_alloc] at lC lCf; obtain ⟨-, lA0, lA1⟩ := lA; obtain ⟨-, lAg⟩ := lAf; obtain ⟨-, lB0, lB1⟩ := lB; obtain ⟨-, lBg⟩ := lBf; obtain ⟨-, lC0, lC1⟩ := lC; obtain ⟨-, lCg⟩ := lCf; obtain ⟨za0, za0', za1, za1', zb0, zb0', zb1, zb1'⟩ := far_two hs0 gz; clear hB5 hB5' hs5 hWb oS1 oS2 o51 o52 gy) | (have hB5' : Below (((v4.alloc (Obj.cells #[.bool false, .slice none 0 0] 26)).alloc (Obj.cells #[.bool false, .slice none 0 0] 26))).heap.size ((v4.alloc (Obj.cells #[.bool false, .slice none 0 0] 26)).alloc (Obj.cells #[.bool false, .slice none 0 0] 26)) v5 := (by with_reducible exact hB5); have hs5 := hB5.size; (try simp only [World.size_alloc, World.size_drew] at hs5); have hWb : Below w2.heap.size w2 ((v4.alloc (Obj.cells #[.bool false, .slice none 0 0] 26)).alloc (Obj.cells #[.bool false, .slice none 0 0] 26)) := ((H4.out.2.2.alloc H4.out.2.2.size (Obj.cells #[.bool false, .slice none 0 0] 26)).alloc (by have := H4.out.2.2.size; simp only [World.size_alloc]; omega) (Obj.cells #[.bool false, .slice none 0 0] 26)); have H5 : Hid (Box v5 w.heap.size (.bool p) (.slice a xs.length cap) ∧ Box v5 (w.heap.size + 1) (.bool q) (.slice a' ys.length cap') ∧ Below w2.heap.size w2 v5) := ⟨((((H4.out.1).alloc (Obj.cells #[.bool false, .slice none 0 0] 26)).alloc (Obj.cells #[.bool false, .slice none 0 0] 26))).keep hB5, ((((H4.out.2.1).alloc (Obj.cells #[.bool false, .slice none 0 0] 26)).alloc (Obj.cells #[.bool false, .slice none 0 0] 26))).keep hB5, hWb.trans (hB5.mono hWb.size)⟩; obtain ⟨-, x50, x51⟩ := H5.out.1; obtain ⟨-, y50, y51⟩ := H5.out.2.1; have HS5 : Hid (v4.heap.size + 1 + 1 ≤ v5.heap.size) := hs5; (try (revert HD4; intro HD4; have HD5 := (show Hid (BX2 v5 _ _ ∧ _) from ⟨(((HD4.out.1).alloc (Obj.cells #[.bool false, .slice none 0 0] 26)).alloc (Obj.cells #[.bool false, .slice none 0 0] 26)).keep hB5, Nat.lt_of_lt_of_le HD4.out.2 (Nat.le_trans (by first | exact Nat.le_refl _ | exact Nat.le_add_right _ _ | exact Nat.le_add_right _ 2) hs5)⟩))); (try (revert HE4; intro HE4; have HE5 := (show Hid (BX2 v5 _ _ ∧ _) from ⟨(((HE4.out.1).alloc (Obj.cells #[.bool false, .slice none 0 0] 26)).alloc (Obj.cells #[.bool false, .slice none 0 0] 26)).keep hB5, Nat.lt_of_lt_of_le HE4.out.2 (Nat.le_trans (by first | exact Nat.le_refl _ | exact Nat.le_add_right _ _ | exact Nat.le_add_right _ 2) hs5)⟩))); (try (revert HF4; intro HF4; have HF5 := (show Hid (BX2 v5 _ _ ∧ _) from ⟨(((HF4.out.1).alloc (Obj.cells #[.bool false, .slice none 0 0] 26)).alloc (Obj.cells #[.bool false, .slice none 0 0] 26)).keep hB5, Nat.lt_of_lt_of_le HF4.out.2 (Nat.le_trans (by first | exact Nat.le_refl _ | exact Nat.le_add_right _ _ | exact Nat.le_add_right _ 2) hs5)⟩))); (try (revert HG4; intro HG4; have HG5 := (show Hid (BX2 v5 _ _ ∧ _) from ⟨(((HG4.out.1).alloc (Obj.cells #[.bool false, .slice none 0 0] 26)).alloc (Obj.cells #[.bool false, .slice none 0 0] 26)).keep hB5, Nat.lt_of_lt_of_le HG4.out.2 (Nat.le_trans (by first | exact Nat.le_refl _ | exact Nat.le_add_right _ _ | exact Nat.le_add_right _ 2) hs5)⟩))); have HH5 : Hid (BX2 v5 w2.heap.size (v4.heap.size) ∧ v4.heap.size < v5.heap.size) := ⟨(((BX2.new v4 w2.heap.size (v4.heap.size) (by simp) (by have hq := H4.out.2.2.size; omega)).alloc (Obj.cells #[.bool false, .slice none 0 0] 26))).keep hB5, (by omega)⟩; have HI5 : Hid (BX2 v5 w2.heap.size (v4.heap.size + 1) ∧ v4.heap.size + 1 < v5.heap.size) := ⟨((BX2.new (v4.alloc (Obj.cells #[.bool false, .slice none 0 0] 26)) w2.heap.size (v4.heap.size + 1) (by simp) (by have hq := H4.out.2.2.size; omega))).keep hB5, (by omega)⟩; obtain ⟨B5, hB5e, o51, o52⟩ : ∃ B5, B5 = v4.heap.size + 1 + 1 ∧ Own v5 B5 (.slice a5 L1.length c5) L1 ∧ Own v5 B5 (.slice a6 L2.length c6) L2 := ⟨_, rfl, oS1.mono (by simp), oS2.mono (by simp)⟩; have g3 := HS3.out; have g4 := HS4.out; have g5 := HS5.out; have gz : w2.heap.size ≤ v5.heap.size := H5.out.2.2.size; have gy := H4.out.2.2.size; have P5 : PK2 w2 v5 B5 (.slice a5 L1.length c5) (.slice a6 L2.length c6) L1 L2 := ⟨H5.out.2.2, o51, o52, (by omega), (by omega)⟩; (try (revert HD5; intro HD5; have KD5 := (show Hid (_ < B5) from ltB2 HD4.out.2 (by omega)))); (try (revert HE5; intro HE5; have KE5 := (show Hid (_ < B5) from ltB2 HE4.out.2 (by omega)))); (try (revert HF5; intro HF5; have KF5 := (show Hid (_ < B5) from ltB2 HF4.out.2 (by omega)))); (try (revert HG5; intro HG5; have KG5 := (show Hid (_ < B5) from ltB2 HG4.out.2 (by omega)))); have KH5 : Hid (v4.heap.size < B5) := (by show _ < _; omega); have KI5 : Hid (v4.heap.size + 1 < B5) := (by show _ < _; omega); (try (revert HD5 HE5; intro HD5 HE5; obtain ⟨jDE, jED⟩ := ne_twoB HD5.out.1 HE5.out.1 (Nat.lt_succ_self _))); (try (revert HD5 HF5; intro HD5 HF5; obtain ⟨jDF, jFD⟩ := ne_twoB HD5.out.1 HF5.out.1 (Nat.lt_of_lt_of_le HD3.out.2 (Nat.le_refl _)))); (try (revert HD5 HH5; intro HD5 HH5; have jl : w2.heap.size < v4.heap.size := (by omega); have jDH : ¬ w2.heap.size = v4.heap.size := Nat.ne_of_lt jl; have jHD : ¬ v4.heap.size = w2.heap.size := Nat.ne_of_gt jl; clear jl)); (try (revert HF5 HG5; intro HF5 HG5; obtain ⟨jFG, jGF⟩ := ne_twoB HF5.out.1 HG5.out.1 (Nat.lt_succ_self _))); (try (revert HF5 HH5; intro HF5 HH5; have jl : v3.heap.size < v4.heap.size := (by omega); have jFH : ¬ v3.heap.size = v4.heap.size := Nat.ne_of_lt jl; have jHF : ¬ v4.heap.size = v3.heap.size := Nat.ne_of_gt jl; clear jl)); (try (revert HH5 HI5; intro HH5 HI5; obtain ⟨jHI, jIH⟩ := ne_twoB HH5.out.1 HI5.out.1 (Nat.lt_succ_self _))); (try (obtain ⟨⟨⟨-, dD0, dD1⟩, ⟨-, dDf⟩, -⟩, dDh⟩ := HD5.out)); (try (revert HD5; intro HD5; obtain ⟨kD7, k7D, kD8, k8D⟩ := ne_leB (c := v5.heap.size) HD5.out.2 (Nat.le_refl _); obtain ⟨nD0, n0D, nD1, n1D⟩ := bx2_ne HD5.out.1 hs0)); (try (revert HD5; intro HD5; obtain ⟨⟨-, mD0, mD1⟩, ⟨-, mDf⟩, -⟩ := HD5.out.1.alloc (Obj.cells #[.bool false, .slice none 0 0] 26))); (try (revert HD5; intro HD5; obtain ⟨⟨-, sD0, sD1⟩, ⟨-, sDf⟩, -⟩ := HD5.out.1.alloc (Obj.cells #[.bool s1, .slice a5 L1.length c5] 26))); (try (revert HD5; intro HD5; obtain ⟨⟨-, tD0, tD1⟩, ⟨-, tDf⟩, -⟩ := HD5.out.1.alloc (Obj.cells #[.bool s2, .slice a6 L2.length c6] 26))); (try (obtain ⟨⟨⟨-, dE0, dE1⟩, ⟨-, dEf⟩, -⟩, dEh⟩ := HE5.out)); (try (revert HE5; intro HE5; obtain ⟨kE7, k7E, kE8, k8E⟩ := ne_leB (c := v5.heap.size) HE5.out.2 (Nat.le_refl _); obtain ⟨nE0, n0E, nE1, n1E⟩ := bx2_ne HE5.out.1 hs0)); (try (revert HE5; intro HE5; obtain ⟨⟨-, mE0, mE1⟩, ⟨-, mEf⟩, -⟩ := HE5.out.1.alloc (Obj.cells #[.bool false, .slice none 0 0] 26))); (try (revert HE5; intro HE5; obtain ⟨⟨-, sE0, sE1⟩, ⟨-, sEf⟩, -⟩ := HE5.out.1.alloc (Obj.cells #[.bool s1, .slice a5 L1.length c5] 26))); (try (revert HE5; intro HE5; obtain ⟨⟨-, tE0, tE1⟩, ⟨-, tEf⟩, -⟩ := HE5.out.1.alloc (Obj.cells #[.bool s2, .slice a6 L2.length c6] 26))); (try (obtain ⟨⟨⟨-, dF0, dF1⟩, ⟨-, dFf⟩, -⟩, dFh⟩ := HF5.out)); (try (revert HF5; intro HF5; obtain ⟨kF7, k7F, kF8, k8F⟩ := ne_leB (c := v5.heap.size) HF5.out.2 (Nat.le_refl _); obtain ⟨nF0, n0F, nF1, n1F⟩ := bx2_ne HF5.out.1 hs0)); (try (revert HF5; intro HF5; obtain ⟨⟨-, mF0, mF1⟩, ⟨-, mFf⟩, -⟩ := HF5.out.1.alloc (Obj.cells #[.bool false, .slice none 0 0] 26))); (try (revert HF5; intro HF5; obtain ⟨⟨-, sF0, sF1⟩, ⟨-, sFf⟩, -⟩ := HF5.out.1.alloc (Obj.cells #[.bool s1, .slice a5 L1.length c5] 26))); (try (revert HF5; intro HF5; obtain ⟨⟨-, tF0, tF1⟩, ⟨-, tFf⟩, -⟩ := HF5.out.1.alloc (Obj.cells #[.bool s2, .slice a6 L2.length c6] 26))); (try (obtain ⟨⟨⟨-, dG0, dG1⟩, ⟨-, dGf⟩, -⟩, dGh⟩ := HG5.out)); (try (revert HG5; intro HG5; obtain ⟨kG7, k7G, kG8, k8G⟩ := ne_leB (c := v5.heap.size) HG5.out.2 (Nat.le_refl _); obtain ⟨nG0, n0G, nG1, n1G⟩ := bx2_ne HG5.out.1 hs0)); (try (revert HG5; intro HG5; obtain ⟨⟨-, mG0, mG1⟩, ⟨-, mGf⟩, -⟩ := HG5.out.1.alloc (Obj.cells #[.bool false, .slice none 0 0] 26))); (try (revert HG5; intro HG5; obtain ⟨⟨-, sG0, sG1⟩, ⟨-, sGf⟩, -⟩ := HG5.out.1.alloc (Obj.cells #[.bool s1, .slice a5 L1.length c5] 26))); (try (revert HG5; intro HG5; obtain ⟨⟨-, tG0, tG1⟩, ⟨-, tGf⟩, -⟩ := HG5.out.1.alloc (Obj.cells #[.bool s2, .slice a6 L2.length c6] 26))); (try (obtain ⟨⟨⟨-, dH0, dH1⟩, ⟨-, dHf⟩, -⟩, dHh⟩ := HH5.out)); (try (revert HH5; intro HH5; obtain ⟨kH7, k7H, kH8, k8H⟩ := ne_leB (c := v5.heap.size) HH5.out.2 (Nat.le_refl _); obtain ⟨nH0, n0H, nH1, n1H⟩ := bx2_ne HH5.out.1 hs0)); (try (revert HH5; intro HH5; obtain ⟨⟨-, mH0, mH1⟩, ⟨-, mHf⟩, -⟩ := HH5.out.1.alloc (Obj.cells #[.bool false, .slice none 0 0] 26))); (try (revert HH5; intro HH5; obtain ⟨⟨-, sH0, sH1⟩, ⟨-, sHf⟩, -⟩ := HH5.out.1.alloc (Obj.cells #[.bool s1, .slice a5 L1.length c5] 26))); (try (revert HH5; intro HH5; obtain ⟨⟨-, tH0, tH1⟩, ⟨-, tHf⟩, -⟩ := HH5.out.1.alloc (Obj.cells #[.bool s2, .slice a6 L2.length c6] 26))); (try (obtain ⟨⟨⟨-, dI0, dI1⟩, ⟨-, dIf⟩, -⟩, dIh⟩ := HI5.out)); (try (revert HI5; intro HI5; obtain ⟨kI7, k7I, kI8, k8I⟩ := ne_leB (c := v5.heap.size) HI5.out.2 (Nat.le_refl _); obtain ⟨nI0, n0I, nI1, n1I⟩ := bx2_ne HI5.out.1 hs0)); (try (revert HI5; intro HI5; obtain ⟨⟨-, mI0, mI1⟩, ⟨-, mIf⟩, -⟩ := HI5.out.1.alloc (Obj.cells #[.bool false, .slice none 0 0] 26))); (try (revert HI5; intro HI5; obtain ⟨⟨-, sI0, sI1⟩, ⟨-, sIf⟩, -⟩ := HI5.out.1.alloc (Obj.cells #[.bool s1, .slice a5 L1.length c5] 26))); (try (revert HI5; intro HI5; obtain ⟨⟨-, tI0, tI1⟩, ⟨-, tIf⟩, -⟩ := HI5.out.1.alloc (Obj.cells #[.bool s2, .slice a6 L2.length c6] 26))); have lA := Box.new v5 (.bool false) (.slice none 0 0) 26; have lAf := Unf.new v5 #[.bool false, .slice none 0 0] 26; have lB := lA.alloc (Obj.cells #[.bool false, .slice none 0 0] 26); have lBf := lAf.keep ((Below.refl _ _).alloc (Nat.le_refl _) (Obj.cells #[.bool false, .slice none 0 0] 26)); have lC := Box.new (v5.alloc (Obj.cells #[.bool false, .slice none 0 0] 26)) (.bool false) (.slice none 0 0) 26; have lCf := Unf.new (v5.alloc (Obj.cells #[.bool false, .slice none 0 0] 26)) #[.bool false, .slice none 0 0] 26; simp only [World.size_alloc] at lC lCf; obtain ⟨-, lA0, lA1⟩ := lA; obtain ⟨-, lAg⟩ := lAf; obtain ⟨-, lB0, lB1⟩ := lB; obtain ⟨-, lBg⟩ := lBf; obtain ⟨-, lC0, lC1⟩ := lC; obtain ⟨-, lCg⟩ := lCf; obtain ⟨za0, za0', za1, za1', zb0, zb0', zb1, zb1'⟩ := far_two hs0 gz; clear hB5 hB5' hs5 hWb oS1 oS2 o51 o52 gy)))
        all_goals go_wp2_with fail
        all_goals go_meet
        all_goals refine ⟨_, _, a5, c5, a6, c6, rfl, rfl, rfl, ?_⟩
        all_goals first
          | with_reducible apply fin2_a P5
          | with_reducible apply fin2_b P5
          | with_reducible apply fin2_d P5
          | with_reducible apply fin2_c P5
          | with_reducible apply fin2_e P5
          | with_reducible apply fin2_f P5
          | with_reducible apply fin2_g P5
        all_goals first
          | with_reducible apply HD5.out.1.box
          | with_reducible apply HE5.out.1.box
          | with_reducible apply HF5.out.1.box
          | with_reducible apply HG5.out.1.box
          | with_reducible apply HH5.out.1.box
          | with_reducible apply HI5.out.1.box
          | with_reducible apply HD5.out.1.lo
          | with_reducible apply HE5.out.1.lo
          | with_reducible apply HF5.out.1.lo
          | with_reducible apply HG5.out.1.lo
          | with_reducible apply HH5.out.1.lo
          | with_reducible apply HI5.out.1.lo
          | with_reducible apply KD5.out
          | with_reducible apply KE5.out
          | with_reducible apply KF5.out
          | with_reducible apply KG5.out
          | with_reducible apply KH5.out
          | with_reducible apply KI5.out
          | with_reducible apply jDE
          | with_reducible apply jED
          | with_reducible apply jDF
          | with_reducible apply jFD
          | with_reducible apply jDH
          | with_reducible apply jHD
          | with_reducible apply jFG
          | with_reducible apply jGF
          | with_reducible apply jFH
          | with_reducible apply jHF
          | with_reducible apply jHI
          | with_reducible apply jIH
      case rest =>
      obtain ⟨b1, b2, aS1, cS1, aS2, cS2, rfl, rfl, rfl, hP, hbS1, hbS2, bS1, bS2, oS1, oS2⟩ := hcut
      clear k0 k1 k2 k3 hxp hyp hzap hzbp hRW hS
      replace hW := hW.trans (hP.mono hW.size)
      replace bA := bA.keep hP
      replace bB := bB.keep hP
      have hzc := hP.size
      have hbT1 := bS1.1
      have hbT2 := bS2.1
      clear hP
      have loS1 := oS1.lt
      try simp only [World.size_alloc] at loS1
      have loS2 := oS2.lt
      try simp only [World.size_alloc] at loS2
      obtain ⟨-, bAp, bAq⟩ := id bA
      obtain ⟨-, bBp, bBq⟩ := id bB
      obtain ⟨-, bS1p, bS1q⟩ := id bS1
      obtain ⟨-, bS2p, bS2q⟩ := id bS2
      go_wp2_with fail
      clear bAp bAq bBp bBq bS1p bS1q bS2p bS2q
      refine (toBig_any _ _ xs _ (hx0.keep hW)).mono ?_
      rintro e ua ⟨aX, cX, rfl, oX, hB⟩
      replace hW := hW.trans (hB.mono hW.size)
      replace bA := bA.keep hB
      replace bB := bB.keep hB
      replace bS1 := bS1.keep hB
      replace bS2 := bS2.keep hB
      replace oS1 := oS1.keep hB
      replace oS2 := oS2.keep hB
      have hz1 : wc.heap.size ≤ ua.heap.size := by have := hB.size; (try simp at this); omega
      clear hB
      have loX := oX.lt
      try simp only [World.size_alloc] at loX
      replace hW := hW.alloc hW.size (Obj.cells #[.bool p, .slice aX xs.length cX] 26)
      replace bA := bA.alloc (Obj.cells #[.bool p, .slice aX xs.length cX] 26)
      replace bB := bB.alloc (Obj.cells #[.bool p, .slice aX xs.length cX] 26)
      replace bS1 := bS1.alloc (Obj.cells #[.bool p, .slice aX xs.length cX] 26)
      replace bS2 := bS2.alloc (Obj.cells #[.bool p, .slice aX xs.length cX] 26)
      replace oS1 := oS1.alloc (Obj.cells #[.bool p, .slice aX xs.length cX] 26)
      replace oS2 := oS2.alloc (Obj.cells #[.bool p, .slice aX xs.length cX] 26)
      replace oX := oX.alloc (Obj.cells #[.bool p, .slice aX xs.length cX] 26)
      have bX := Box.new ua (.bool p) (.slice aX xs.length cX) 26
      obtain ⟨-, bAp, bAq⟩ := id bA
      obtain ⟨-, bBp, bBq⟩ := id bB
      obtain ⟨-, bS1p, bS1q⟩ := id bS1
      obtain ⟨-, bS2p, bS2q⟩ := id bS2
      obtain ⟨-, bXp, bXq⟩ := id bX
      go_wp2_with fail
      clear bAp bAq bBp bBq bS1p bS1q bS2p bS2q bXp bXq
      refine (toBig_any _ _ ys _ (hy0.keep hW)).mono ?_
      rintro e ub ⟨aY, cY, rfl, oY, hB⟩
      replace hW := hW.trans (hB.mono hW.size)
      replace bA := bA.keep hB
      replace bB := bB.keep hB
      replace bS1 := bS1.keep hB
      replace bS2 := bS2.keep hB
      replace bX := bX.keep hB
      replace oS1 := oS1.keep hB
      replace oS2 := oS2.keep hB
      replace oX := oX.keep hB
      have hz2 : ua.heap.size + 1 ≤ ub.heap.size := by have := hB.size; (try simp at this); omega
      clear hB
      have loY := oY.lt
      try simp only [World.size_alloc] at loY
      replace hW := hW.alloc hW.size (Obj.cells #[.bool q, .slice aY ys.length cY] 26)
      replace bA := bA.alloc (Obj.cells #[.bool q, .slice aY ys.length cY] 26)
      replace bB := bB.alloc (Obj.cells #[.bool q, .slice aY ys.length cY] 26)
      replace bS1 := bS1.alloc (Obj.cells #[.bool q, .slice aY ys.length cY] 26)
      replace bS2 := bS2.alloc (Obj.cells #[.bool q, .slice aY ys.length cY] 26)
      replace bX := bX.alloc (Obj.cells #[.bool q, .slice aY ys.length cY] 26)
      replace oS1 := oS1.alloc (Obj.cells #[.bool q, .slice aY ys.length cY] 26)
      replace oS2 := oS2.alloc (Obj.cells #[.bool q, .slice aY ys.length cY] 26)
      replace oX := oX.alloc (Obj.cells #[.bool q, .slice aY ys.length cY] 26)
      replace oY := oY.alloc (Obj.cells #[.bool q, .slice aY ys.length cY] 26)
      have bY := Box.new ub (.bool q) (.slice aY ys.length cY) 26
      obtain ⟨-, bAp, bAq⟩ := id bA
      obtain ⟨-, bBp, bBq⟩ := id bB
      obtain ⟨-, bS1p, bS1q⟩ := id bS1
      obtain ⟨-, bS2p, bS2q⟩ := id bS2
      obtain ⟨-, bXp, bXq⟩ := id bX
      obtain ⟨-, bYp, bYq⟩ := id bY
      go_wp2_with fail
      clear bAp bAq bBp bBq bS1p bS1q bS2p bS2q bXp bXq bYp bYq
      refine (hG _ _ _ oX.rd oY.rd).mono ?_
      rintro e uc ⟨aG1, cG1, aG2, cG2, rfl, oG1, oG2, hAp, hB⟩
      replace hW := hW.trans (hB.mono hW.size)
      replace bA := bA.keep hB
      replace bB := bB.keep hB
      replace bS1 := bS1.keep hB
      replace bS2 := bS2.keep hB
      replace bX := bX.keep hB
      replace bY := bY.keep hB
      replace oS1 := oS1.keep hB
      replace oS2 := oS2.keep hB
      replace oX := oX.keep hB
      replace oY := oY.keep hB
      have hz3 : ub.heap.size + 1 ≤ uc.heap.size := by have := hB.size; (try simp at this); omega
      clear hB
      have loG1 := oG1.lt
      try simp only [World.size_alloc] at loG1
      have loG2 := oG2.lt
      try simp only [World.size_alloc] at loG2
      replace hW := hW.alloc hW.size (Obj.cells #[.bool s1, .slice aG1 L1.length cG1] 26)
      replace bA := bA.alloc (Obj.cells #[.bool s1, .slice aG1 L1.length cG1] 26)
      replace bB := bB.alloc (Obj.cells #[.bool s1, .slice aG1 L1.length cG1] 26)
      replace bS1 := bS1.alloc (Obj.cells #[.bool s1, .slice aG1 L1.length cG1] 26)
      replace bS2 := bS2.alloc (Obj.cells #[.bool s1, .slice aG1 L1.length cG1] 26)
      replace bX := bX.alloc (Obj.cells #[.bool s1, .slice aG1 L1.length cG1] 26)
      replace bY := bY.alloc (Obj.cells #[.bool s1, .slice aG1 L1.length cG1] 26)
      replace oS1 := oS1.alloc (Obj.cells #[.bool s1, .slice aG1 L1.length cG1] 26)
      replace oS2 := oS2.alloc (Obj.cells #[.bool s1, .slice aG1 L1.length cG1] 26)
      replace oX := oX.alloc (Obj.cells #[.bool s1, .slice aG1 L1.length cG1] 26)
      replace oY := oY.alloc (Obj.cells #[.bool s1, .slice aG1 L1.length cG1] 26)
      replace oG1 := oG1.alloc (Obj.cells #[.bool s1, .slice aG1 L1.length cG1] 26)
      replace oG2 := oG2.alloc (Obj.cells #[.bool s1, .slice aG1 L1.length cG1] 26)
      have bG1 := Box.new uc (.bool s1) (.slice aG1 L1.length cG1) 26
      replace hW := hW.alloc hW.size (Obj.cells #[.bool s2, .slice aG2 L2.length cG2] 26)
      replace bA := bA.alloc (Obj.cells #[.bool s2, .slice aG2 L2.length cG2] 26)
      replace bB := bB.alloc (Obj.cells #[.bool s2, .slice aG2 L2.length cG2] 26)
      replace bS1 := bS1.alloc (Obj.cells #[.bool s2, .slice aG2 L2.length cG2] 26)
      replace bS2 := bS2.alloc (Obj.cells #[.bool s2, .slice aG2 L2.length cG2] 26)
      replace bX := bX.alloc (Obj.cells #[.bool s2, .slice aG2 L2.length cG2] 26)
      replace bY := bY.alloc (Obj.cells #[.bool s2, .slice aG2 L2.length cG2] 26)
      replace bG1 := bG1.alloc (Obj.cells #[.bool s2, .slice aG2 L2.length cG2] 26)
      replace oS1 := oS1.alloc (Obj.cells #[.bool s2, .slice aG2 L2.length cG2] 26)
      replace oS2 := oS2.alloc (Obj.cells #[.bool s2, .slice aG2 L2.length cG2] 26)
      replace oX := oX.alloc (Obj.cells #[.bool s2, .slice aG2 L2.length cG2] 26)
      replace oY := oY.alloc (Obj.cells #[.bool s2, .slice aG2 L2.length cG2] 26)
      replace oG1 := oG1.alloc (Obj.cells #[.bool s2, .slice aG2 L2.length cG2] 26)
      replace oG2 := oG2.alloc (Obj.cells #[.bool s2, .slice aG2 L2.length cG2] 26)
      have bG2 := Box.new (uc.alloc (Obj.cells #[.bool s1, .slice aG1 L1.length cG1] 26)) (.bool s2) (.slice aG2 L2.length cG2) 26
      simp only [World.size_alloc] at bG2
      obtain ⟨-, bAp, bAq⟩ := id bA
      obtain ⟨-, bBp, bBq⟩ := id bB
      obtain ⟨-, bS1p, bS1q⟩ := id bS1
      obtain ⟨-, bS2p, bS2q⟩ := id bS2
      obtain ⟨-, bXp, bXq⟩ := id bX
      obtain ⟨-, bYp, bYq⟩ := id bY
      obtain ⟨-, bG1p, bG1q⟩ := id bG1
      obtain ⟨-, bG2p, bG2q⟩ := id bG2
      go_wp2_with fail
      clear bAp bAq bBp bBq bS1p bS1q bS2p bS2q bXp bXq bYp bYq bG1p bG1q bG2p bG2q
      refine (eqBig_same _ _ _ L1 _ oG1.rd oS1.rd).mono ?_
      rintro e ud ⟨rfl, hB⟩
      replace hW := hW.trans (hB.mono hW.size)
      replace bA := bA.keep hB
      replace bB := bB.keep hB
      replace bS1 := bS1.keep hB
      replace bS2 := bS2.keep hB
      replace bX := bX.keep hB
      replace bY := bY.keep hB
      replace bG1 := bG1.keep hB
      replace bG2 := bG2.keep hB
      replace oS1 := oS1.keep hB
      replace oS2 := oS2.keep hB
      replace oX := oX.keep hB
      replace oY := oY.keep hB
      replace oG1 := oG1.keep hB
      replace oG2 := oG2.keep hB
      have hz4 : uc.heap.size + 2 ≤ ud.heap.size := by have := hB.size; (try simp at this); omega
      clear hB
      obtain ⟨-, bAp, bAq⟩ := id bA
      obtain ⟨-, bBp, bBq⟩ := id bB
      obtain ⟨-, bS1p, bS1q⟩ := id bS1
      obtain ⟨-, bS2p, bS2q⟩ := id bS2
      obtain ⟨-, bXp, bXq⟩ := id bX
      obtain ⟨-, bYp, bYq⟩ := id bY
      obtain ⟨-, bG1p, bG1q⟩ := id bG1
      obtain ⟨-, bG2p, bG2q⟩ := id bG2
      go_wp2_with fail
      clear bAp bAq bBp bBq bS1p bS1q bS2p bS2q bXp bXq bYp bYq bG1p bG1q bG2p bG2q
      refine (eqBig_same _ _ _ L2 _ oG2.rd oS2.rd).mono ?_
      rintro e ue ⟨rfl, hB⟩
      replace hW := hW.trans (hB.mono hW.size)
      replace bA := bA.keep hB
      replace bB := bB.keep hB
      replace bS1 := bS1.keep hB
      replace bS2 := bS2.keep hB
      replace bX := bX.keep hB
      replace bY := bY.keep hB
      replace bG1 := bG1.keep hB
      replace bG2 := bG2.keep hB
      replace oS1 := oS1.keep hB
      replace oS2 := oS2.keep hB
      replace oX := oX.keep hB
      replace oY := oY.keep hB
      replace oG1 := oG1.keep hB
      replace oG2 := oG2.keep hB
      have hz5 : ud.heap.size ≤ ue.heap.size := by have := hB.size; (try simp at this); omega
      clear hB
      obtain ⟨-, bAp, bAq⟩ := id bA
      obtain ⟨-, bBp, bBq⟩ := id bB
      obtain ⟨-, bS1p, bS1q⟩ := id bS1
      obtain ⟨-, bS2p, bS2q⟩ := id bS2
      obtain ⟨-, bXp, bXq⟩ := id bX
      obtain ⟨-, bYp, bYq⟩ := id bY
      obtain ⟨-, bG1p, bG1q⟩ := id bG1
      obtain ⟨-, bG2p, bG2q⟩ := id bG2
      have hWo := hW
      have bAo := bA
      have bBo := bB
      have bS1o := bS1
      have bS2o := bS2
      have bXo := bX
      have bYo := bY
      have bG1o := bG1
      have bG2o := bG2
      have oS1o := oS1
      have oS2o := oS2
      have oXo := oX
      have oYo := oY
      have oG1o := oG1
      have oG2o := oG2
      go_wp2_with fail
      go_region_held3 (fun W => W.cell? ⟨ua.heap.size, 0, none⟩ = some (.bool p) ∧ W.cell? ⟨ua.heap.size, 1, none⟩ = some (.slice aX xs.length cX) ∧ W.cell? ⟨w.heap.size, 0, none⟩ = some (.bool p) ∧ W.cell? ⟨w.heap.size, 1, none⟩ = some (.slice a xs.length cap)) (go_keep) (first | (go_at_call 7; refine (toBig_any _ _ xs _ (hx0.keep hW).drew).mono ?_; rintro e uf ⟨a9, c9, rfl, o9, hB⟩; have hW1 := hW.drew.trans (hB.mono hW.size); have bA1 := bA.drew.keep hB; have bB1 := bB.drew.keep hB; have bS11 := bS1.drew.keep hB; have bS21 := bS2.drew.keep hB; have bX1 := bX.drew.keep hB; have bY1 := bY.drew.keep hB; have bG11 := bG1.drew.keep hB; have bG21 := bG2.drew.keep hB; have oS11 := oS1.drew.keep hB; have oS21 := oS2.drew.keep hB; have oX1 := oX.drew.keep hB; have oY1 := oY.drew.keep hB; have oG11 := oG1.drew.keep hB; have oG21 := oG2.drew.keep hB; have hzz1 := hB.size; obtain ⟨-, g0, g1⟩ := id bX1; obtain ⟨-, g2, g3⟩ := id bA1) | (go_at_call 9; refine (eqBig_same _ _ _ xs _ oX1.rd o9.rd).mono ?_; rintro e ug ⟨rfl, hB⟩; have hW2 := hW1.trans (hB.mono hW1.size); have bA2 := bA1.keep hB; have bB2 := bB1.keep hB; have bS12 := bS11.keep hB; have bS22 := bS21.keep hB; have bX2 := bX1.keep hB; have bY2 := bY1.keep hB; have bG12 := bG11.keep hB; have bG22 := bG21.keep hB; have oS12 := oS11.keep hB; have oS22 := oS21.keep hB; have oX2 := oX1.keep hB; have oY2 := oY1.keep hB; have oG12 := oG11.keep hB; have oG22 := oG21.keep hB; have hzz2 := hB.size; obtain ⟨-, i0, i1⟩ := id bX2; obtain ⟨-, i2, i3⟩ := id bA2))
      clear g0 g1 g2 g3 i0 i1 i2 i3 o9
      clear bAp bAq bBp bBq bS1p bS1q bS2p bS2q bXp bXq bYp bYq bG1p bG1q bG2p bG2q
      clear hW hW1 hWo
      have hW := hW2
      clear hW2
      clear bA bA1 bAo
      have bA := bA2
      clear bA2
      clear bB bB1 bBo
      have bB := bB2
      clear bB2
      clear bS1 bS11 bS1o
      have bS1 := bS12
      clear bS12
      clear bS2 bS21 bS2o
      have bS2 := bS22
      clear bS22
      clear bX bX1 bXo
      have bX := bX2
      clear bX2
      clear bY bY1 bYo
      have bY := bY2
      clear bY2
      clear bG1 bG11 bG1o
      have bG1 := bG12
      clear bG12
      clear bG2 bG21 bG2o
      have bG2 := bG22
      clear bG22
      clear oS1 oS11 oS1o
      have oS1 := oS12
      clear oS12
      clear oS2 oS21 oS2o
      have oS2 := oS22
      clear oS22
      clear oX oX1 oXo
      have oX := oX2
      clear oX2
      clear oY oY1 oYo
      have oY := oY2
      clear oY2
      clear oG1 oG11 oG1o
      have oG1 := oG12
      clear oG12
      clear oG2 oG21 oG2o
      have oG2 := oG22
      clear oG22
      have hz7 : ue.heap.size ≤ ug.heap.size := by have h1 := hzz1; have h2 := hzz2; (try simp at h1); omega
      clear hzz1 hzz2
      obtain ⟨-, bAp, bAq⟩ := id bA
      obtain ⟨-, bBp, bBq⟩ := id bB
      obtain ⟨-, bS1p, bS1q⟩ := id bS1
      obtain ⟨-, bS2p, bS2q⟩ := id bS2
      obtain ⟨-, bXp, bXq⟩ := id bX
      obtain ⟨-, bYp, bYq⟩ := id bY
      obtain ⟨-, bG1p, bG1q⟩ := id bG1
      obtain ⟨-, bG2p, bG2q⟩ := id bG2
      have hWo := hW
      have bAo := bA
      have bBo := bB
      have bS1o := bS1
      have bS2o := bS2
      have bXo := bX
      have bYo := bY
      have bG1o := bG1
      have bG2o := bG2
      have oS1o := oS1
      have oS2o := oS2
      have oXo := oX
      have oYo := oY
      have oG1o := oG1
      have oG2o := oG2
      go_wp2_with fail
      go_region_held3 (fun W => W.cell? ⟨ub.heap.size, 0, none⟩ = some (.bool q) ∧ W.cell? ⟨ub.heap.size, 1, none⟩ = some (.slice aY ys.length cY) ∧ W.cell? ⟨w.heap.size + 1, 0, none⟩ = some (.bool q) ∧ W.cell? ⟨w.heap.size + 1, 1, none⟩ = some (.slice a' ys.length cap')) (go_keep) (first | (go_at_call 7; refine (toBig_any _ _ ys _ (hy0.keep hW).drew).mono ?_; rintro e uh ⟨a9, c9, rfl, o9, hB⟩; have hW1 := hW.drew.trans (hB.mono hW.size); have bA1 := bA.drew.keep hB; have bB1 := bB.drew.keep hB; have bS11 := bS1.drew.keep hB; have bS21 := bS2.drew.keep hB; have bX1 := bX.drew.keep hB; have bY1 := bY.drew.keep hB; have bG11 := bG1.drew.keep hB; have bG21 := bG2.drew.keep hB; have oS11 := oS1.drew.keep hB; have oS21 := oS2.drew.keep hB; have oX1 := oX.drew.keep hB; have oY1 := oY.drew.keep hB; have oG11 := oG1.drew.keep hB; have oG21 := oG2.drew.keep hB; have hzz1 := hB.size; obtain ⟨-, g0, g1⟩ := id bY1; obtain ⟨-, g2, g3⟩ := id bB1) | (go_at_call 9; refine (eqBig_same _ _ _ ys _ oY1.rd o9.rd).mono ?_; rintro e ui ⟨rfl, hB⟩; have hW2 := hW1.trans (hB.mono hW1.size); have bA2 := bA1.keep hB; have bB2 := bB1.keep hB; have bS12 := bS11.keep hB; have bS22 := bS21.keep hB; have bX2 := bX1.keep hB; have bY2 := bY1.keep hB; have bG12 := bG11.keep hB; have bG22 := bG21.keep hB; have oS12 := oS11.keep hB; have oS22 := oS21.keep hB; have oX2 := oX1.keep hB; have oY2 := oY1.keep hB; have oG12 := oG11.keep hB; have oG22 := oG21.keep hB; have hzz2 := hB.size; obtain ⟨-, i0, i1⟩ := id bY2; obtain ⟨-, i2, i3⟩ := id bB2))
      clear g0 g1 g2 g3 i0 i1 i2 i3 o9
      clear bAp bAq bBp bBq bS1p bS1q bS2p bS2q bXp bXq bYp bYq bG1p bG1q bG2p bG2q
      clear hW hW1 hWo
      have hW := hW2
      clear hW2
      clear bA bA1 bAo
      have bA := bA2
      clear bA2
      clear bB bB1 bBo
      have bB := bB2
      clear bB2
      clear bS1 bS11 bS1o
      have bS1 := bS12
      clear bS12
      clear bS2 bS21 bS2o
      have bS2 := bS22
      clear bS22
      clear bX bX1 bXo
      have bX := bX2
      clear bX2
      clear bY bY1 bYo
      have bY := bY2
      clear bY2
      clear bG1 bG11 bG1o
      have bG1 := bG12
      clear bG12
      clear bG2 bG21 bG2o
      have bG2 := bG22
      clear bG22
      clear oS1 oS11 oS1o
      have oS1 := oS12
      clear oS12
      clear oS2 oS21 oS2o
      have oS2 := oS22
      clear oS22
      clear oX oX1 oXo
      have oX := oX2
      clear oX2
      clear oY oY1 oYo
      have oY := oY2
      clear oY2
      clear oG1 oG11 oG1o
      have oG1 := oG12
      clear oG12
      clear oG2 oG21 oG2o
      have oG2 := oG22
      clear oG22
      have hz9 : ug.heap.size ≤ ui.heap.size := by have h1 := hzz1; have h2 := hzz2; (try simp at h1); omega
      clear hzz1 hzz2
      obtain ⟨-, bAp, bAq⟩ := id bA
      obtain ⟨-, bBp, bBq⟩ := id bB
      obtain ⟨-, bS1p, bS1q⟩ := id bS1
      obtain ⟨-, bS2p, bS2q⟩ := id bS2
      obtain ⟨-, bXp, bXq⟩ := id bX
      obtain ⟨-, bYp, bYq⟩ := id bY
      obtain ⟨-, bG1p, bG1q⟩ := id bG1
      obtain ⟨-, bG2p, bG2q⟩ := id bG2
      go_wp2_with fail
      clear bAp bAq bBp bBq bS1p bS1q bS2p bS2q bXp bXq bYp bYq bG1p bG1q bG2p bG2q
      refine (markBig2_any _ _ _ _ _ xs 1 _ oX (by omega) (by omega) (by omega)).mono ?_
      rintro e uj ⟨rfl, oX', hg⟩
      replace hW := hW.trans (gb_to hg (fun k hk => by have := loX k hk; omega) hW.size)
      replace bA := bA.but hg (bx_ne loX (by omega))
      replace bB := bB.but hg (bx_ne loX (by omega))
      replace bS1 := bS1.but hg (bx_ne loX (by omega))
      replace bS2 := bS2.but hg (bx_ne loX (by omega))
      replace bX := bX.but hg (bx_ne loX (by omega))
      replace bY := bY.but hg (bx_ne loX (by omega))
      replace bG1 := bG1.but hg (bx_ne loX (by omega))
      replace bG2 := bG2.but hg (bx_ne loX (by omega))
      replace oS1 := oS1.but hg (ob_ne loS1 loX (by omega))
      replace oS2 := oS2.but hg (ob_ne loS2 loX (by omega))
      replace oY := oY.but hg (ob_ne loY loX (by omega))
      replace oG1 := oG1.but hg (ob_ne loG1 loX (by omega))
      replace oG2 := oG2.but hg (ob_ne loG2 loX (by omega))
      have hz10 : ui.heap.size ≤ uj.heap.size := by have := hg.size; (try simp at this); omega
      clear oX hg
      have oX := oX'
      clear oX'
      obtain ⟨-, bAp, bAq⟩ := id bA
      obtain ⟨-, bBp, bBq⟩ := id bB
      obtain ⟨-, bS1p, bS1q⟩ := id bS1
      obtain ⟨-, bS2p, bS2q⟩ := id bS2
      obtain ⟨-, bXp, bXq⟩ := id bX
      obtain ⟨-, bYp, bYq⟩ := id bY
      obtain ⟨-, bG1p, bG1q⟩ := id bG1
      obtain ⟨-, bG2p, bG2q⟩ := id bG2
      go_wp2_with fail
      clear bAp bAq bBp bBq bS1p bS1q bS2p bS2q bXp bXq bYp bYq bG1p bG1q bG2p bG2q
      refine (markBig2_any _ _ _ _ _ ys (1 + (xs.length : Int)) _ oY (by (try simp only [World.size_alloc]); omega) (by omega) (by omega)).mono ?_
      rintro e uk ⟨rfl, oY', hg⟩
      replace hW := hW.trans (gb_to hg (fun k hk => by have := loY k hk; omega) hW.size)
      replace bA := bA.but hg (bx_ne loY (by omega))
      replace bB := bB.but hg (bx_ne loY (by omega))
      replace bS1 := bS1.but hg (bx_ne loY (by omega))
      replace bS2 := bS2.but hg (bx_ne loY (by omega))
      replace bX := bX.but hg (bx_ne loY (by omega))
      replace bY := bY.but hg (bx_ne loY (by omega))
      replace bG1 := bG1.but hg (bx_ne loY (by omega))
      replace bG2 := bG2.but hg (bx_ne loY (by omega))
      replace oS1 := oS1.but hg (ob_ne loS1 loY (by omega))
      replace oS2 := oS2.but hg (ob_ne loS2 loY (by omega))
      replace oX := oX.but hg (ob_ne loX loY (by omega))
      replace oG1 := oG1.but hg (ob_ne loG1 loY (by omega))
      replace oG2 := oG2.but hg (ob_ne loG2 loY (by omega))
      have hz11 : uj.heap.size ≤ uk.heap.size := by have := hg.size; (try simp at this); omega
      clear oY hg
      have oY := oY'
      clear oY'
      have hkn : (0 : Int) ≤ 1 + (xs.length : Int) + (ys.length : Int) := by omega
      obtain ⟨-, bAp, bAq⟩ := id bA
      obtain ⟨-, bBp, bBq⟩ := id bB
      obtain ⟨-, bS1p, bS1q⟩ := id bS1
      obtain ⟨-, bS2p, bS2q⟩ := id bS2
      obtain ⟨-, bXp, bXq⟩ := id bX
      obtain ⟨-, bYp, bYq⟩ := id bY
      obtain ⟨-, bG1p, bG1q⟩ := id bG1
      obtain ⟨-, bG2p, bG2q⟩ := id bG2
      go_wp2_with fail
      clear bAp bAq bBp bBq bS1p bS1q bS2p bS2q bXp bXq bYp bYq bG1p bG1q bG2p bG2q
      refine (eqBig_same _ _ _ L1 _ oG1.rd oS1.rd).mono ?_
      rintro e ul ⟨rfl, hB⟩
      replace hW := hW.trans (hB.mono hW.size)
      replace bA := bA.keep hB
      replace bB := bB.keep hB
      replace bS1 := bS1.keep hB
      replace bS2 := bS2.keep hB
      replace bX := bX.keep hB
      replace bY := bY.keep hB
      replace bG1 := bG1.keep hB
      replace bG2 := bG2.keep hB
      replace oS1 := oS1.keep hB
      replace oS2 := oS2.keep hB
      replace oX := oX.keep hB
      replace oY := oY.keep hB
      replace oG1 := oG1.keep hB
      replace oG2 := oG2.keep hB
      have hz12 : uk.heap.size ≤ ul.heap.size := by have := hB.size; (try simp at this); omega
      clear hB
      obtain ⟨-, bAp, bAq⟩ := id bA
      obtain ⟨-, bBp, bBq⟩ := id bB
      obtain ⟨-, bS1p, bS1q⟩ := id bS1
      obtain ⟨-, bS2p, bS2q⟩ := id bS2
      obtain ⟨-, bXp, bXq⟩ := id bX
      obtain ⟨-, bYp, bYq⟩ := id bY
      obtain ⟨-, bG1p, bG1q⟩ := id bG1
      obtain ⟨-, bG2p, bG2q⟩ := id bG2
      go_wp2_with fail
      clear bAp bAq bBp bBq bS1p bS1q bS2p bS2q bXp bXq bYp bYq bG1p bG1q bG2p bG2q
      refine (eqBig_same _ _ _ L2 _ oG2.rd oS2.rd).mono ?_
      rintro e um ⟨rfl, hB⟩
      replace hW := hW.trans (hB.mono hW.size)
      replace bA := bA.keep hB
      replace bB := bB.keep hB
      replace bS1 := bS1.keep hB
      replace bS2 := bS2.keep hB
      replace bX := bX.keep hB
      replace bY := bY.keep hB
      replace bG1 := bG1.keep hB
      replace bG2 := bG2.keep hB
      replace oS1 := oS1.keep hB
      replace oS2 := oS2.keep hB
      replace oX := oX.keep hB
      replace oY := oY.keep hB
      replace oG1 := oG1.keep hB
      replace oG2 := oG2.keep hB
      have hz13 : ul.heap.size ≤ um.heap.size := by have := hB.size; (try simp at this); omega
      clear hB
      obtain ⟨-, bAp, bAq⟩ := id bA
      obtain ⟨-, bBp, bBq⟩ := id bB
      obtain ⟨-, bS1p, bS1q⟩ := id bS1
      obtain ⟨-, bS2p, bS2q⟩ := id bS2
      obtain ⟨-, bXp, bXq⟩ := id bX
      obtain ⟨-, bYp, bYq⟩ := id bY
      obtain ⟨-, bG1p, bG1q⟩ := id bG1
      obtain ⟨-, bG2p, bG2q⟩ := id bG2
      go_wp2_with fail
      clear bAp bAq bBp bBq bS1p bS1q bS2p bS2q bXp bXq bYp bYq bG1p bG1q bG2p bG2q
      refine (markBig2_any _ _ _ _ _ L1 1 _ oG1 (by (try simp only [World.size_alloc]); omega) (by omega) (by omega)).mono ?_
      rintro e un ⟨rfl, oG1', hg⟩
      replace hW := hW.trans (gb_to hg (fun k hk => by have := loG1 k hk; omega) hW.size)
      replace bA := bA.but hg (bx_ne loG1 (by omega))
      replace bB := bB.but hg (bx_ne loG1 (by omega))
      replace bS1 := bS1.but hg (bx_ne loG1 (by omega))
      replace bS2 := bS2.but hg (bx_ne loG1 (by omega))
      replace bX := bX.but hg (bx_ne loG1 (by omega))
      replace bY := bY.but hg (bx_ne loG1 (by omega))
      replace bG1 := bG1.but hg (bx_ne loG1 (by omega))
      replace bG2 := bG2.but hg (bx_ne loG1 (by omega))
      replace oS1 := oS1.but hg (ob_ne loS1 loG1 (by omega))
      replace oS2 := oS2.but hg (ob_ne loS2 loG1 (by omega))
      replace oX := oX.but hg (ob_ne loX loG1 (by omega))
      replace oY := oY.but hg (ob_ne loY loG1 (by omega))
      replace oG2 := oG2.but hg hAp.2
      have hz14 : um.heap.size ≤ un.heap.size := by have := hg.size; (try simp at this); omega
      clear oG1 hg
      have oG1 := oG1'
      clear oG1'
      obtain ⟨-, bAp, bAq⟩ := id bA
      obtain ⟨-, bBp, bBq⟩ := id bB
      obtain ⟨-, bS1p, bS1q⟩ := id bS1
      obtain ⟨-, bS2p, bS2q⟩ := id bS2
      obtain ⟨-, bXp, bXq⟩ := id bX
      obtain ⟨-, bYp, bYq⟩ := id bY
      obtain ⟨-, bG1p, bG1q⟩ := id bG1
      obtain ⟨-, bG2p, bG2q⟩ := id bG2
      go_wp2_with fail
      clear bAp bAq bBp bBq bS1p bS1q bS2p bS2q bXp bXq bYp bYq bG1p bG1q bG2p bG2q
      refine (markBig2_any _ _ _ _ _ L2 (1 + (L1.length : Int)) _ oG2 (by (try simp only [World.size_alloc]); omega) (by omega) (by omega)).mono ?_
      rintro e uo ⟨rfl, oG2', hg⟩
      replace hW := hW.trans (gb_to hg (fun k hk => by have := loG2 k hk; omega) hW.size)
      replace bA := bA.but hg (bx_ne loG2 (by omega))
      replace bB := bB.but hg (bx_ne loG2 (by omega))
      replace bS1 := bS1.but hg (bx_ne loG2 (by omega))
      replace bS2 := bS2.but hg (bx_ne loG2 (by omega))
      replace bX := bX.but hg (bx_ne loG2 (by omega))
      replace bY := bY.but hg (bx_ne loG2 (by omega))
      replace bG1 := bG1.but hg (bx_ne loG2 (by omega))
      replace bG2 := bG2.but hg (bx_ne loG2 (by omega))
      replace oS1 := oS1.but hg (ob_ne loS1 loG2 (by omega))
      replace oS2 := oS2.but hg (ob_ne loS2 loG2 (by omega))
      replace oX := oX.but hg (ob_ne loX loG2 (by omega))
      replace oY := oY.but hg (ob_ne loY loG2 (by omega))
      replace oG1 := oG1.but hg hAp.1
      have hz15 : un.heap.size ≤ uo.heap.size := by have := hg.size; (try simp at this); omega
      clear oG2 hg
      have oG2 := oG2'
      clear oG2'
      have hkm : ¬ (1 + (L1.length : Int)) < 0 := by omega
      have hkm2 : ¬ (1 + (L1.length : Int) + (L2.length : Int)) < 0 := by omega
      obtain ⟨-, bAp, bAq⟩ := id bA
      obtain ⟨-, bBp, bBq⟩ := id bB
      obtain ⟨-, bS1p, bS1q⟩ := id bS1
      obtain ⟨-, bS2p, bS2q⟩ := id bS2
      obtain ⟨-, bXp, bXq⟩ := id bX
      obtain ⟨-, bYp, bYq⟩ := id bY
      obtain ⟨-, bG1p, bG1q⟩ := id bG1
      obtain ⟨-, bG2p, bG2q⟩ := id bG2
      go_wp2_with fail
      clear bAp bAq bBp bBq bS1p bS1q bS2p bS2q bXp bXq bYp bYq bG1p bG1q bG2p bG2q
      refine (heldBig_any _ _ _ 1 L1.length _ oG1.rd (by omega) (by omega) rfl).mono ?_
      rintro e up ⟨rfl, hB⟩
      replace hW := hW.trans (hB.mono hW.size)
      replace bA := bA.keep hB
      replace bB := bB.keep hB
      replace bS1 := bS1.keep hB
      replace bS2 := bS2.keep hB
      replace bX := bX.keep hB
      replace bY := bY.keep hB
      replace bG1 := bG1.keep hB
      replace bG2 := bG2.keep hB
      replace oS1 := oS1.keep hB
      replace oS2 := oS2.keep hB
      replace oX := oX.keep hB
      replace oY := oY.keep hB
      replace oG1 := oG1.keep hB
      replace oG2 := oG2.keep hB
      have hz16 : uo.heap.size ≤ up.heap.size := by have := hB.size; (try simp at this); omega
      clear hB
      obtain ⟨-, bAp, bAq⟩ := id bA
      obtain ⟨-, bBp, bBq⟩ := id bB
      obtain ⟨-, bS1p, bS1q⟩ := id bS1
      obtain ⟨-, bS2p, bS2q⟩ := id bS2
      obtain ⟨-, bXp, bXq⟩ := id bX
      obtain ⟨-, bYp, bYq⟩ := id bY
      obtain ⟨-, bG1p, bG1q⟩ := id bG1
      obtain ⟨-, bG2p, bG2q⟩ := id bG2
      go_wp2_with fail
      clear bAp bAq bBp bBq bS1p bS1q bS2p bS2q bXp bXq bYp bYq bG1p bG1q bG2p bG2q
      refine (heldBig_any _ _ _ (1 + (L1.length : Int)) L2.length _ oG2.rd (by omega) (by omega) rfl).mono ?_
      rintro e uq ⟨rfl, hB⟩
      replace hW := hW.trans (hB.mono hW.size)
      replace bA := bA.keep hB
      replace bB := bB.keep hB
      replace bS1 := bS1.keep hB
      replace bS2 := bS2.keep hB
      replace bX := bX.keep hB
      replace bY := bY.keep hB
      replace bG1 := bG1.keep hB
      replace bG2 := bG2.keep hB
      replace oS1 := oS1.keep hB
      replace oS2 := oS2.keep hB
      replace oX := oX.keep hB
      replace oY := oY.keep hB
      replace oG1 := oG1.keep hB
      replace oG2 := oG2.keep hB
      have hz17 : up.heap.size ≤ uq.heap.size := by have := hB.size; (try simp at this); omega
      clear hB
      clear bX bY oX oY
      have hs1 : w.heap.size + 1 < uq.heap.size := by omega
      clear hs0
      have hs0 := hs1
      clear hs1
      obtain ⟨hzap, k0, k1⟩ := id bA
      obtain ⟨hzbp, k2, k3⟩ := id bB
      have hxp := hx0.keep hW
      have hyp := hy0.keep hW
      have hRW := Below.refl uq.heap.size uq
      go_upto_region 35 with fail
      go_cut [17, 18, 19] from 119 to 127 (fun s6 s7 s8 wc => ∃ (b1 b2 : Nat) (a5 : Option Addr) (c5 : Nat) (a6 : Option Addr) (c6 : Nat), s6 = .pointer (some ⟨b1, 0, none⟩) ∧ s7 = .pointer (some ⟨b2, 0, none⟩) ∧ s8 = .int .i64 C ∧ FIN2 uq wc b1 b2 (.bool s1) (.slice a5 L1.length c5) (.bool s2) (.slice a6 L2.length c6) L1 L2)
      case first =>
        clear hx0 hy0 hW hlx hly bS1 bS2 bG1 bG2 oS1 oS2 oG1 oG2
        go_region_held3 (fun W => W.cell? ⟨w.heap.size, 0, none⟩ = some (.bool p) ∧ W.cell? ⟨w.heap.size, 1, none⟩ = some (.slice a xs.length cap) ∧ W.cell? ⟨w.heap.size + 1, 0, none⟩ = some (.bool q) ∧ W.cell? ⟨w.heap.size + 1, 1, none⟩ = some (.slice a' ys.length cap')) (first | (with_reducible exact ⟨x50, x51, y50, y51⟩) | (with_reducible exact ⟨x40, x41, y40, y41⟩) | (with_reducible exact ⟨x30, x31, y30, y31⟩) | (with_reducible exact keepD4 (by assumption)) | (with_reducible exact keepA4 (by assumption)) | (with_reducible exact keepS4 (by assumption) (by assumption) (by assumption)) | go_keep) (first | (go_at_call_of 7 (Value.agg #[Value.bool q, Value.slice a' ys.length cap']); refine (toBig_any _ _ ys _ (by first | with_reducible exact hyp.keep H3.out.2.2 | with_reducible exact (hyp.keep H3.out.2.2).alloc _ | with_reducible exact ((hyp.keep H3.out.2.2).alloc _).alloc _)).mono ?_; rintro e v4 ⟨a4, c4, rfl, oB, hB4⟩; first | (have oA4 := (oA).keep hB4; (have hB4' : Below (v3).heap.size v3 v4 := (by with_reducible exact hB4); have hs4 := hB4.size; (try simp only [World.size_alloc, World.size_drew] at hs4); have hWb : Below uq.heap.size uq v3 := H3.out.2.2; have H4 : Hid (Box v4 w.heap.size (.bool p) (.slice a xs.length cap) ∧ Box v4 (w.heap.size + 1) (.bool q) (.slice a' ys.length cap') ∧ Below uq.heap.size uq v4) := ⟨((H3.out.1)).keep hB4, ((H3.out.2.1)).keep hB4, hWb.trans (hB4.mono hWb.size)⟩; obtain ⟨-, x40, x41⟩ := H4.out.1; obtain ⟨-, y40, y41⟩ := H4.out.2.1; have HS4 : Hid (v3.heap.size ≤ v4.heap.size) := hs4; (try (revert HD3; intro HD3; have HD4 := (show Hid (BX2 v4 _ _ ∧ _) from ⟨(HD3.out.1).keep hB4, Nat.lt_of_lt_of_le HD3.out.2 (Nat.le_trans (by first | exact Nat.le_refl _ | exact Nat.le_add_right _ _ | exact Nat.le_add_right _ 2) hs4)⟩))); (try (revert HE3; intro HE3; have HE4 := (show Hid (BX2 v4 _ _ ∧ _) from ⟨(HE3.out.1).keep hB4, Nat.lt_of_lt_of_le HE3.out.2 (Nat.le_trans (by first | exact Nat.le_refl _ | exact Nat.le_add_right _ _ | exact Nat.le_add_right _ 2) hs4)⟩))); clear hB4 hB4' hs4 hWb)) | (have oA4 := ((oA).alloc (Obj.cells #[.bool false, .slice none 0 0] 26)).keep hB4; (have hB4' : Below ((v3.alloc (Obj.cells #[.bool false, .slice none 0 0] 26))).heap.size (v3.alloc (Obj.cells #[.bool false, .slice none 0 0] 26)) v4 := (by with_reducible exact hB4); have hs4 := hB4.size; (try simp only [World.size_alloc, World.size_drew] at hs4); have hWb : Below uq.heap.size uq (v3.alloc (Obj.cells #[.bool false, .slice none 0 0] 26)) := (H3.out.2.2.alloc H3.out.2.2.size (Obj.cells #[.bool false, .slice none 0 0] 26)); have H4 : Hid (Box v4 w.heap.size (.bool p) (.slice a xs.length cap) ∧ Box v4 (w.heap.size + 1) (.bool q) (.slice a' ys.length cap') ∧ Below uq.heap.size uq v4) := ⟨(((H3.out.1).alloc (Obj.cells #[.bool false, .slice none 0 0] 26))).keep hB4, (((H3.out.2.1).alloc (Obj.cells #[.bool false, .slice none 0 0] 26))).keep hB4, hWb.trans (hB4.mono hWb.size)⟩; obtain ⟨-, x40, x41⟩ := H4.out.1; obtain ⟨-, y40, y41⟩ := H4.out.2.1; have HS4 : Hid (v3.heap.size + 1 ≤ v4.heap.size) := hs4; (try (revert HD3; intro HD3; have HD4 := (show Hid (BX2 v4 _ _ ∧ _) from ⟨((HD3.out.1).alloc (Obj.cells #[.bool false, .slice none 0 0] 26)).keep hB4, Nat.lt_of_lt_of_le HD3.out.2 (Nat.le_trans (by first | exact Nat.le_refl _ | exact Nat.le_add_right _ _ | exact Nat.le_add_right _ 2) hs4)⟩))); (try (revert HE3; intro HE3; have HE4 := (show Hid (BX2 v4 _ _ ∧ _) from ⟨((HE3.out.1).alloc (Obj.cells #[.bool false, .slice none 0 0] 26)).keep hB4, Nat.lt_of_lt_of_le HE3.out.2 (Nat.le_trans (by first | exact Nat.le_refl _ | exact Nat.le_add_right _ _ | exact Nat.le_add_right _ 2) hs4)⟩))); have HF4 : Hid (BX2 v4 uq.heap.size (v3.heap.size) ∧ v3.heap.size < v4.heap.size) := ⟨((BX2.new v3 uq.heap.size (v3.heap.size) (by simp) (by have hq := H3.out.2.2.size; omega))).keep hB4, (by omega)⟩; clear hB4 hB4' hs4 hWb)) | (have oA4 := (((oA).alloc (Obj.cells #[.bool false, .slice none 0 0] 26)).alloc (Obj.cells #[.bool false, .slice none 0 0] 26)).keep hB4; (have hB4' : Below (((v3.alloc (Obj.cells #[.bool false, .slice none 0 0] 26)).alloc (Obj.cells #[.bool false, .slice none 0 0] 26))).heap.size ((v3.alloc (Obj.cells #[.bool false, .slice none 0 0] 26)).alloc (Obj.cells #[.bool false, .slice none 0 0] 26)) v4 := (by with_reducible exact hB4); have hs4 := hB4.size; (try simp only [World.size_alloc, World.size_drew] at hs4); have hWb : Below uq.heap.size uq ((v3.alloc (Obj.cells #[.bool false, .slice none 0 0] 26)).alloc (Obj.cells #[.bool false, .slice none 0 0] 26)) := ((H3.out.2.2.alloc H3.out.2.2.size (Obj.cells #[.bool false, .slice none 0 0] 26)).alloc (by have := H3.out.2.2.size; simp only [World.size_alloc]; omega) (Obj.cells #[.bool false, .slice none 0 0] 26)); have H4 : Hid (Box v4 w.heap.size (.bool p) (.slice a xs.length cap) ∧ Box v4 (w.heap.size + 1) (.bool q) (.slice a' ys.length cap') ∧ Below uq.heap.size uq v4) := ⟨((((H3.out.1).alloc (Obj.cells #[.bool false, .slice none 0 0] 26)).alloc (Obj.cells #[.bool false, .slice none 0 0] 26))).keep hB4, ((((H3.out.2.1).alloc (Obj.cells #[.bool false, .slice none 0 0] 26)).alloc (Obj.cells #[.bool false, .slice none 0 0] 26))).keep hB4, hWb.trans (hB4.mono hWb.size)⟩; obtain ⟨-, x40, x41⟩ := H4.out.1; obtain ⟨-, y40, y41⟩ := H4.out.2.1; have HS4 : Hid (v3.heap.size + 1 + 1 ≤ v4.heap.size) := hs4; (try (revert HD3; intro HD3; have HD4 := (show Hid (BX2 v4 _ _ ∧ _) from ⟨(((HD3.out.1).alloc (Obj.cells #[.bool false, .slice none 0 0] 26)).alloc (Obj.cells #[.bool false, .slice none 0 0] 26)).keep hB4, Nat.lt_of_lt_of_le HD3.out.2 (Nat.le_trans (by first | exact Nat.le_refl _ | exact Nat.le_add_right _ _ | exact Nat.le_add_right _ 2) hs4)⟩))); (try (revert HE3; intro HE3; have HE4 := (show Hid (BX2 v4 _ _ ∧ _) from ⟨(((HE3.out.1).alloc (Obj.cells #[.bool false, .slice none 0 0] 26)).alloc (Obj.cells #[.bool false, .slice none 0 0] 26)).keep hB4, Nat.lt_of_lt_of_le HE3.out.2 (Nat.le_trans (by first | exact Nat.le_refl _ | exact Nat.le_add_right _ _ | exact Nat.le_add_right _ 2) hs4)⟩))); have HF4 : Hid (BX2 v4 uq.heap.size (v3.heap.size) ∧ v3.heap.size < v4.heap.size) := ⟨(((BX2.new v3 uq.heap.size (v3.heap.size) (by simp) (by have hq := H3.out.2.2.size; omega)).alloc (Obj.cells #[.bool false, .slice none 0 0] 26))).keep hB4, (by omega)⟩; have HG4 : Hid (BX2 v4 uq.heap.size (v3.heap.size + 1) ∧ v3.heap.size + 1 < v4.heap.size) := ⟨((BX2.new (v3.alloc (Obj.cells #[.bool false, .slice none 0 0] 26)) uq.heap.size (v3.heap.size + 1) (by simp) (by have hq := H3.out.2.2.size; omega))).keep hB4, (by omega)⟩; clear hB4 hB4' hs4 hWb))) | (go_at_call_of 7 (Value.agg #[Value.bool p, Value.slice a xs.length cap]); refine (toBig_any _ _ xs _ (by first | with_reducible exact hxp.drew | with_reducible exact (hxp.alloc _).drew | with_reducible exact ((hxp.alloc _).alloc _).drew)).mono ?_; rintro e v3 ⟨a3, c3, rfl, oA, hB3⟩; first | (have hB3' : Below (uq.drew).heap.size uq.drew v3 := (by with_reducible exact hB3); have hs3 := hB3.size; (try simp only [World.size_alloc, World.size_drew] at hs3); have hWb : Below uq.heap.size uq uq.drew := (Below.refl uq.heap.size uq).drew; have H3 : Hid (Box v3 w.heap.size (.bool p) (.slice a xs.length cap) ∧ Box v3 (w.heap.size + 1) (.bool q) (.slice a' ys.length cap') ∧ Below uq.heap.size uq v3) := ⟨((bA).drew).keep hB3, ((bB).drew).keep hB3, hWb.trans (hB3.mono hWb.size)⟩; obtain ⟨-, x30, x31⟩ := H3.out.1; obtain ⟨-, y30, y31⟩ := H3.out.2.1; have HS3 : Hid (uq.heap.size ≤ v3.heap.size) := hs3; clear hB3 hB3' hs3 hWb) | (have hB3' : Below ((uq.alloc (Obj.cells #[.bool false, .slice none 0 0] 26)).drew).heap.size (uq.alloc (Obj.cells #[.bool false, .slice none 0 0] 26)).drew v3 := (by with_reducible exact hB3); have hs3 := hB3.size; (try simp only [World.size_alloc, World.size_drew] at hs3); have hWb : Below uq.heap.size uq (uq.alloc (Obj.cells #[.bool false, .slice none 0 0] 26)).drew := ((Below.refl uq.heap.size uq).alloc (by (try simp only [World.size_alloc]); omega) (Obj.cells #[.bool false, .slice none 0 0] 26)).drew; have H3 : Hid (Box v3 w.heap.size (.bool p) (.slice a xs.length cap) ∧ Box v3 (w.heap.size + 1) (.bool q) (.slice a' ys.length cap') ∧ Below uq.heap.size uq v3) := ⟨(((bA).alloc (Obj.cells #[.bool false, .slice none 0 0] 26)).drew).keep hB3, (((bB).alloc (Obj.cells #[.bool false, .slice none 0 0] 26)).drew).keep hB3, hWb.trans (hB3.mono hWb.size)⟩; obtain ⟨-, x30, x31⟩ := H3.out.1; obtain ⟨-, y30, y31⟩ := H3.out.2.1; have HS3 : Hid (uq.heap.size + 1 ≤ v3.heap.size) := hs3; have HD3 : Hid (BX2 v3 uq.heap.size (uq.heap.size) ∧ uq.heap.size < v3.heap.size) := ⟨((BX2.new uq uq.heap.size (uq.heap.size) (by simp) (by have hq := hRW.size; omega)).drew).keep hB3, (by omega)⟩; clear hB3 hB3' hs3 hWb) | (have hB3' : Below (((uq.alloc (Obj.cells #[.bool false, .slice none 0 0] 26)).alloc (Obj.cells #[.bool false, .slice none 0 0] 26)).drew).heap.size ((uq.alloc (Obj.cells #[.bool false, .slice none 0 0] 26)).alloc (Obj.cells #[.bool false, .slice none 0 0] 26)).drew v3 := (by with_reducible exact hB3); have hs3 := hB3.size; (try simp only [World.size_alloc, World.size_drew] at hs3); have hWb : Below uq.heap.size uq ((uq.alloc (Obj.cells #[.bool false, .slice none 0 0] 26)).alloc (Obj.cells #[.bool false, .slice none 0 0] 26)).drew := (((Below.refl uq.heap.size uq).alloc (by (try simp only [World.size_alloc]); omega) (Obj.cells #[.bool false, .slice none 0 0] 26)).alloc (by (try simp only [World.size_alloc]); omega) (Obj.cells #[.bool false, .slice none 0 0] 26)).drew; have H3 : Hid (Box v3 w.heap.size (.bool p) (.slice a xs.length cap) ∧ Box v3 (w.heap.size + 1) (.bool q) (.slice a' ys.length cap') ∧ Below uq.heap.size uq v3) := ⟨((((bA).alloc (Obj.cells #[.bool false, .slice none 0 0] 26)).alloc (Obj.cells #[.bool false, .slice none 0 0] 26)).drew).keep hB3, ((((bB).alloc (Obj.cells #[.bool false, .slice none 0 0] 26)).alloc (Obj.cells #[.bool false, .slice none 0 0] 26)).drew).keep hB3, hWb.trans (hB3.mono hWb.size)⟩; obtain ⟨-, x30, x31⟩ := H3.out.1; obtain ⟨-, y30, y31⟩ := H3.out.2.1; have HS3 : Hid (uq.heap.size + 1 + 1 ≤ v3.heap.size) := hs3; have HD3 : Hid (BX2 v3 uq.heap.size (uq.heap.size) ∧ uq.heap.size < v3.heap.size) := ⟨(((BX2.new uq uq.heap.size (uq.heap.size) (by simp) (by have hq := hRW.size; omega)).alloc (Obj.cells #[.bool false, .slice none 0 0] 26)).drew).keep hB3, (by omega)⟩; have HE3 : Hid (BX2 v3 uq.heap.size (uq.heap.size + 1) ∧ uq.heap.size + 1 < v3.heap.size) := ⟨((BX2.new (uq.alloc (Obj.cells #[.bool false, .slice none 0 0] 26)) uq.heap.size (uq.heap.size + 1) (by simp) (by have hq := hRW.size; omega)).drew).keep hB3, (by omega)⟩; clear hB3 hB3' hs3 hWb)) | (go_at_call 13; refine (hG _ _ _ (by first | with_reducible exact oA4.rd | with_reducible exact oA4.rd.alloc _ | with_reducible exact (oA4.rd.alloc _).alloc _) (by first | with_reducible exact oB.rd | with_reducible exact oB.rd.alloc _ | with_reducible exact (oB.rd.alloc _).alloc _)).mono ?_; rintro e v5 ⟨a5, c5, a6, c6, rfl, oS1, oS2, -, hB5⟩; first | (have hB5' : Below (v4).heap.size v4 v5 := (by with_reducible exact hB5); have hs5 := hB5.size; (try simp only [World.size_alloc, World.size_drew] at hs5); have hWb : Below uq.heap.size uq v4 := H4.out.2.2; have H5 : Hid (Box v5 w.heap.size (.bool p) (.slice a xs.length cap) ∧ Box v5 (w.heap.size + 1) (.bool q) (.slice a' ys.length cap') ∧ Below uq.heap.size uq v5) := ⟨((H4.out.1)).keep hB5, ((H4.out.2.1)).keep hB5, hWb.trans (hB5.mono hWb.size)⟩; obtain ⟨-, x50, x51⟩ := H5.out.1; obtain ⟨-, y50, y51⟩ := H5.out.2.1; have HS5 : Hid (v4.heap.size ≤ v5.heap.size) := hs5; (try (revert HD4; intro HD4; have HD5 := (show Hid (BX2 v5 _ _ ∧ _) from ⟨(HD4.out.1).keep hB5, Nat.lt_of_lt_of_le HD4.out.2 (Nat.le_trans (by first | exact Nat.le_refl _ | exact Nat.le_add_right _ _ | exact Nat.le_add_right _ 2) hs5)⟩))); (try (revert HE4; intro HE4; have HE5 := (show Hid (BX2 v5 _ _ ∧ _) from ⟨(HE4.out.1).keep hB5, Nat.lt_of_lt_of_le HE4.out.2 (Nat.le_trans (by first | exact Nat.le_refl _ | exact Nat.le_add_right _ _ | exact Nat.le_add_right _ 2) hs5)⟩))); (try (revert HF4; intro HF4; have HF5 := (show Hid (BX2 v5 _ _ ∧ _) from ⟨(HF4.out.1).keep hB5, Nat.lt_of_lt_of_le HF4.out.2 (Nat.le_trans (by first | exact Nat.le_refl _ | exact Nat.le_add_right _ _ | exact Nat.le_add_right _ 2) hs5)⟩))); (try (revert HG4; intro HG4; have HG5 := (show Hid (BX2 v5 _ _ ∧ _) from ⟨(HG4.out.1).keep hB5, Nat.lt_of_lt_of_le HG4.out.2 (Nat.le_trans (by first | exact Nat.le_refl _ | exact Nat.le_add_right _ _ | exact Nat.le_add_right _ 2) hs5)⟩))); obtain ⟨B5, hB5e, o51, o52⟩ : ∃ B5, B5 = v4.heap.size ∧ Own v5 B5 (.slice a5 L1.length c5) L1 ∧ Own v5 B5 (.slice a6 L2.length c6) L2 := ⟨_, rfl, oS1.mono (by simp), oS2.mono (by simp)⟩; have g3 := HS3.out; have g4 := HS4.out; have g5 := HS5.out; have gz : uq.heap.size ≤ v5.heap.size := H5.out.2.2.size; have gy := H4.out.2.2.size; have P5 : PK2 uq v5 B5 (.slice a5 L1.length c5) (.slice a6 L2.length c6) L1 L2 := ⟨H5.out.2.2, o51, o52, (by omega), (by omega)⟩; (try (revert HD5; intro HD5; have KD5 := (show Hid (_ < B5) from ltB2 HD4.out.2 (by omega)))); (try (revert HE5; intro HE5; have KE5 := (show Hid (_ < B5) from ltB2 HE4.out.2 (by omega)))); (try (revert HF5; intro HF5; have KF5 := (show Hid (_ < B5) from ltB2 HF4.out.2 (by omega)))); (try (revert HG5; intro HG5; have KG5 := (show Hid (_ < B5) from ltB2 HG4.out.2 (by omega)))); (try (revert HD5 HE5; intro HD5 HE5; obtain ⟨jDE, jED⟩ := ne_twoB HD5.out.1 HE5.out.1 (Nat.lt_succ_self _))); (try (revert HD5 HF5; intro HD5 HF5; obtain ⟨jDF, jFD⟩ := ne_twoB HD5.out.1 HF5.out.1 (Nat.lt_of_lt_of_le HD3.out.2 (Nat.le_refl _)))); (try (revert HD5 HH5; intro HD5 HH5; have jl : uq.heap.size < v4.heap.size := (by omega); have jDH : ¬ uq.heap.size = v4.heap.size := Nat.ne_of_lt jl; have jHD : ¬ v4.heap.size = uq.heap.size := Nat.ne_of_gt jl; clear jl)); (try (revert HF5 HG5; intro HF5 HG5; obtain ⟨jFG, jGF⟩ := ne_twoB HF5.out.1 HG5.out.1 (Nat.lt_succ_self _))); (try (revert HF5 HH5; intro HF5 HH5; have jl : v3.heap.size < v4.heap.size := (by omega); have jFH : ¬ v3.heap.size = v4.heap.size := Nat.ne_of_lt jl; have jHF : ¬ v4.heap.size = v3.heap.size := Nat.ne_of_gt jl; clear jl)); (try (revert HH5 HI5; intro HH5 HI5; obtain ⟨jHI, jIH⟩ := ne_twoB HH5.out.1 HI5.out.1 (Nat.lt_succ_self _))); (try (obtain ⟨⟨⟨-, dD0, dD1⟩, ⟨-, dDf⟩, -⟩, dDh⟩ := HD5.out)); (try (revert HD5; intro HD5; obtain ⟨kD7, k7D, kD8, k8D⟩ := ne_leB (c := v5.heap.size) HD5.out.2 (Nat.le_refl _); obtain ⟨nD0, n0D, nD1, n1D⟩ := bx2_ne HD5.out.1 hs0)); (try (revert HD5; intro HD5; obtain ⟨⟨-, mD0, mD1⟩, ⟨-, mDf⟩, -⟩ := HD5.out.1.alloc (Obj.cells #[.bool false, .slice none 0 0] 26))); (try (revert HD5; intro HD5; obtain ⟨⟨-, sD0, sD1⟩, ⟨-, sDf⟩, -⟩ := HD5.out.1.alloc (Obj.cells #[.bool s1, .slice a5 L1.length c5] 26))); (try (revert HD5; intro HD5; obtain ⟨⟨-, tD0, tD1⟩, ⟨-, tDf⟩, -⟩ := HD5.out.1.alloc (Obj.cells #[.bool s2, .slice a6 L2.length c6] 26))); (try (obtain ⟨⟨⟨-, dE0, dE1⟩, ⟨-, dEf⟩, -⟩, dEh⟩ := HE5.out)); (try (revert HE5; intro HE5; obtain ⟨kE7, k7E, kE8, k8E⟩ := ne_leB (c := v5.heap.size) HE5.out.2 (Nat.le_refl _); obtain ⟨nE0, n0E, nE1, n1E⟩ := bx2_ne HE5.out.1 hs0)); (try (revert HE5; intro HE5; obtain ⟨⟨-, mE0, mE1⟩, ⟨-, mEf⟩, -⟩ := HE5.out.1.alloc (Obj.cells #[.bool false, .slice none 0 0] 26))); (try (revert HE5; intro HE5; obtain ⟨⟨-, sE0, sE1⟩, ⟨-, sEf⟩, -⟩ := HE5.out.1.alloc (Obj.cells #[.bool s1, .slice a5 L1.length c5] 26))); (try (revert HE5; intro HE5; obtain ⟨⟨-, tE0, tE1⟩, ⟨-, tEf⟩, -⟩ := HE5.out.1.alloc (Obj.cells #[.bool s2, .slice a6 L2.length c6] 26))); (try (obtain ⟨⟨⟨-, dF0, dF1⟩, ⟨-, dFf⟩, -⟩, dFh⟩ := HF5.out)); (try (revert HF5; intro HF5; obtain ⟨kF7, k7F, kF8, k8F⟩ := ne_leB (c := v5.heap.size) HF5.out.2 (Nat.le_refl _); obtain ⟨nF0, n0F, nF1, n1F⟩ := bx2_ne HF5.out.1 hs0)); (try (revert HF5; intro HF5; obtain ⟨⟨-, mF0, mF1⟩, ⟨-, mFf⟩, -⟩ := HF5.out.1.alloc (Obj.cells #[.bool false, .slice none 0 0] 26))); (try (revert HF5; intro HF5; obtain ⟨⟨-, sF0, sF1⟩, ⟨-, sFf⟩, -⟩ := HF5.out.1.alloc (Obj.cells #[.bool s1, .slice a5 L1.length c5] 26))); (try (revert HF5; intro HF5; obtain ⟨⟨-, tF0, tF1⟩, ⟨-, tFf⟩, -⟩ := HF5.out.1.alloc (Obj.cells #[.bool s2, .slice a6 L2.length c6] 26))); (try (obtain ⟨⟨⟨-, dG0, dG1⟩, ⟨-, dGf⟩, -⟩, dGh⟩ := HG5.out)); (try (revert HG5; intro HG5; obtain ⟨kG7, k7G, kG8, k8G⟩ := ne_leB (c := v5.heap.size) HG5.out.2 (Nat.le_refl _); obtain ⟨nG0, n0G, nG1, n1G⟩ := bx2_ne HG5.out.1 hs0)); (try (revert HG5; intro HG5; obtain ⟨⟨-, mG0, mG1⟩, ⟨-, mGf⟩, -⟩ := HG5.out.1.alloc (Obj.cells #[.bool false, .slice none 0 0] 26))); (try (revert HG5; intro HG5; obtain ⟨⟨-, sG0, sG1⟩, ⟨-, sGf⟩, -⟩ := HG5.out.1.alloc (Obj.cells #[.bool s1, .slice a5 L1.length c5] 26))); (try (revert HG5; intro HG5; obtain ⟨⟨-, tG0, tG1⟩, ⟨-, tGf⟩, -⟩ := HG5.out.1.alloc (Obj.cells #[.bool s2, .slice a6 L2.length c6] 26))); (try (obtain ⟨⟨⟨-, dH0, dH1⟩, ⟨-, dHf⟩, -⟩, dHh⟩ := HH5.out)); (try (revert HH5; intro HH5; obtain ⟨kH7, k7H, kH8, k8H⟩ := ne_leB (c := v5.heap.size) HH5.out.2 (Nat.le_refl _); obtain ⟨nH0, n0H, nH1, n1H⟩ := bx2_ne HH5.out.1 hs0)); (try (revert HH5; intro HH5; obtain ⟨⟨-, mH0, mH1⟩, ⟨-, mHf⟩, -⟩ := HH5.out.1.alloc (Obj.cells #[.bool false, .slice none 0 0] 26))); (try (revert HH5; intro HH5; obtain ⟨⟨-, sH0, sH1⟩, ⟨-, sHf⟩, -⟩ := HH5.out.1.alloc (Obj.cells #[.bool s1, .slice a5 L1.length c5] 26))); (try (revert HH5; intro HH5; obtain ⟨⟨-, tH0, tH1⟩, ⟨-, tHf⟩, -⟩ := HH5.out.1.alloc (Obj.cells #[.bool s2, .slice a6 L2.length c6] 26))); (try (obtain ⟨⟨⟨-, dI0, dI1⟩, ⟨-, dIf⟩, -⟩, dIh⟩ := HI5.out)); (try (revert HI5; intro HI5; obtain ⟨kI7, k7I, kI8, k8I⟩ := ne_leB (c := v5.heap.size) HI5.out.2 (Nat.le_refl _); obtain ⟨nI0, n0I, nI1, n1I⟩ := bx2_ne HI5.out.1 hs0)); (try (revert HI5; intro HI5; obtain ⟨⟨-, mI0, mI1⟩, ⟨-, mIf⟩, -⟩ := HI5.out.1.alloc (Obj.cells #[.bool false, .slice none 0 0] 26))); (try (revert HI5; intro HI5; obtain ⟨⟨-, sI0, sI1⟩, ⟨-, sIf⟩, -⟩ := HI5.out.1.alloc (Obj.cells #[.bool s1, .slice a5 L1.length c5] 26))); (try (revert HI5; intro HI5; obtain ⟨⟨-, tI0, tI1⟩, ⟨-, tIf⟩, -⟩ := HI5.out.1.alloc (Obj.cells #[.bool s2, .slice a6 L2.length c6] 26))); have lA := Box.new v5 (.bool false) (.slice none 0 0) 26; have lAf := Unf.new v5 #[.bool false, .slice none 0 0] 26; have lB := lA.alloc (Obj.cells #[.bool false, .slice none 0 0] 26); have lBf := lAf.keep ((Below.refl _ _).alloc (Nat.le_refl _) (Obj.cells #[.bool false, .slice none 0 0] 26)); have lC := Box.new (v5.alloc (Obj.cells #[.bool false, .slice none 0 0] 26)) (.bool false) (.slice none 0 0) 26; have lCf := Unf.new (v5.alloc (Obj.cells #[.bool false, .slice none 0 0] 26)) #[.bool false, .slice none 0 0] 26; simp only [World.size_alloc] at lC lCf; obtain ⟨-, lA0, lA1⟩ := lA; obtain ⟨-, lAg⟩ := lAf; obtain ⟨-, lB0, lB1⟩ := lB; obtain ⟨-, lBg⟩ := lBf; obtain ⟨-, lC0, lC1⟩ := lC; obtain ⟨-, lCg⟩ := lCf; obtain ⟨za0, za0', za1, za1', zb0, zb0', zb1, zb1'⟩ := far_two hs0 gz; clear hB5 hB5' hs5 hWb oS1 oS2 o51 o52 gy) | (have hB5' : Below ((v4.alloc (Obj.cells #[.bool false, .slice none 0 0] 26))).heap.size (v4.alloc (Obj.cells #[.bool false, .slice none 0 0] 26)) v5 := (by with_reducible exact hB5); have hs5 := hB5.size; (try simp only [World.size_alloc, World.size_drew] at hs5); have hWb : Below uq.heap.size uq (v4.alloc (Obj.cells #[.bool false, .slice none 0 0] 26)) := (H4.out.2.2.alloc H4.out.2.2.size (Obj.cells #[.bool false, .slice none 0 0] 26)); have H5 : Hid (Box v5 w.heap.size (.bool p) (.slice a xs.length cap) ∧ Box v5 (w.heap.size + 1) (.bool q) (.slice a' ys.length cap') ∧ Below uq.heap.size uq v5) := ⟨(((H4.out.1).alloc (Obj.cells #[.bool false, .slice none 0 0] 26))).keep hB5, (((H4.out.2.1).alloc (Obj.cells #[.bool false, .slice none 0 0] 26))).keep hB5, hWb.trans (hB5.mono hWb.size)⟩; obtain ⟨-, x50, x51⟩ := H5.out.1; obtain ⟨-, y50, y51⟩ := H5.out.2.1; have HS5 : Hid (v4.heap.size + 1 ≤ v5.heap.size) := hs5; (try (revert HD4; intro HD4; have HD5 := (show Hid (BX2 v5 _ _ ∧ _) from ⟨((HD4.out.1).alloc (Obj.cells #[.bool false, .slice none 0 0] 26)).keep hB5, Nat.lt_of_lt_of_le HD4.out.2 (Nat.le_trans (by first | exact Nat.le_refl _ | exact Nat.le_add_right _ _ | exact Nat.le_add_right _ 2) hs5)⟩))); (try (revert HE4; intro HE4; have HE5 := (show Hid (BX2 v5 _ _ ∧ _) from ⟨((HE4.out.1).alloc (Obj.cells #[.bool false, .slice none 0 0] 26)).keep hB5, Nat.lt_of_lt_of_le HE4.out.2 (Nat.le_trans (by first | exact Nat.le_refl _ | exact Nat.le_add_right _ _ | exact Nat.le_add_right _ 2) hs5)⟩))); (try (revert HF4; intro HF4; have HF5 := (show Hid (BX2 v5 _ _ ∧ _) from ⟨((HF4.out.1).alloc (Obj.cells #[.bool false, .slice none 0 0] 26)).keep hB5, Nat.lt_of_lt_of_le HF4.out.2 (Nat.le_trans (by first | exact Nat.le_refl _ | exact Nat.le_add_right _ _ | exact Nat.le_add_right _ 2) hs5)⟩))); (try (revert HG4; intro HG4; have HG5 := (show Hid (BX2 v5 _ _ ∧ _) from ⟨((HG4.out.1).alloc (Obj.cells #[.bool false, .slice none 0 0] 26)).keep hB5, Nat.lt_of_lt_of_le HG4.out.2 (Nat.le_trans (by first | exact Nat.le_refl _ | exact Nat.le_add_right _ _ | exact Nat.le_add_right _ 2) hs5)⟩))); have HH5 : Hid (BX2 v5 uq.heap.size (v4.heap.size) ∧ v4.heap.size < v5.heap.size) := ⟨((BX2.new v4 uq.heap.size (v4.heap.size) (by simp) (by have hq := H4.out.2.2.size; omega))).keep hB5, (by omega)⟩; obtain ⟨B5, hB5e, o51, o52⟩ : ∃ B5, B5 = v4.heap.size + 1 ∧ Own v5 B5 (.slice a5 L1.length c5) L1 ∧ Own v5 B5 (.slice a6 L2.length c6) L2 := ⟨_, rfl, oS1.mono (by simp), oS2.mono (by simp)⟩; have g3 := HS3.out; have g4 := HS4.out; have g5 := HS5.out; have gz : uq.heap.size ≤ v5.heap.size := H5.out.2.2.size; have gy := H4.out.2.2.size; have P5 : PK2 uq v5 B5 (.slice a5 L1.length c5) (.slice a6 L2.length c6) L1 L2 := ⟨H5.out.2.2, o51, o52, (by omega), (by omega)⟩; (try (revert HD5; intro HD5; have KD5 := (show Hid (_ < B5) from ltB2 HD4.out.2 (by omega)))); (try (revert HE5; intro HE5; have KE5 := (show Hid (_ < B5) from ltB2 HE4.out.2 (by omega)))); (try (revert HF5; intro HF5; have KF5 := (show Hid (_ < B5) from ltB2 HF4.out.2 (by omega)))); (try (revert HG5; intro HG5; have KG5 := (show Hid (_ < B5) from ltB2 HG4.out.2 (by omega)))); have KH5 : Hid (v4.heap.size < B5) := (by show _ < _; omega); (try (revert HD5 HE5; intro HD5 HE5; obtain ⟨jDE, jED⟩ := ne_twoB HD5.out.1 HE5.out.1 (Nat.lt_succ_self _))); (try (revert HD5 HF5; intro HD5 HF5; obtain ⟨jDF, jFD⟩ := ne_twoB HD5.out.1 HF5.out.1 (Nat.lt_of_lt_of_le HD3.out.2 (Nat.le_refl _)))); (try (revert HD5 HH5; intro HD5 HH5; have jl : uq.heap.size < v4.heap.size := (by omega); have jDH : ¬ uq.heap.size = v4.heap.size := Nat.ne_of_lt jl; have jHD : ¬ v4.heap.size = uq.heap.size := Nat.ne_of_gt jl; clear jl)); (try (revert HF5 HG5; intro HF5 HG5; obtain ⟨jFG, jGF⟩ := ne_twoB HF5.out.1 HG5.out.1 (Nat.lt_succ_self _))); (try (revert HF5 HH5; intro HF5 HH5; have jl : v3.heap.size < v4.heap.size := (by omega); have jFH : ¬ v3.heap.size = v4.heap.size := Nat.ne_of_lt jl; have jHF : ¬ v4.heap.size = v3.heap.size := Nat.ne_of_gt jl; clear jl)); (try (revert HH5 HI5; intro HH5 HI5; obtain ⟨jHI, jIH⟩ := ne_twoB HH5.out.1 HI5.out.1 (Nat.lt_succ_self _))); (try (obtain ⟨⟨⟨-, dD0, dD1⟩, ⟨-, dDf⟩, -⟩, dDh⟩ := HD5.out)); (try (revert HD5; intro HD5; obtain ⟨kD7, k7D, kD8, k8D⟩ := ne_leB (c := v5.heap.size) HD5.out.2 (Nat.le_refl _); obtain ⟨nD0, n0D, nD1, n1D⟩ := bx2_ne HD5.out.1 hs0)); (try (revert HD5; intro HD5; obtain ⟨⟨-, mD0, mD1⟩, ⟨-, mDf⟩, -⟩ := HD5.out.1.alloc (Obj.cells #[.bool false, .slice none 0 0] 26))); (try (revert HD5; intro HD5; obtain ⟨⟨-, sD0, sD1⟩, ⟨-, sDf⟩, -⟩ := HD5.out.1.alloc (Obj.cells #[.bool s1, .slice a5 L1.length c5] 26))); (try (revert HD5; intro HD5; obtain ⟨⟨-, tD0, tD1⟩, ⟨-, tDf⟩, -⟩ := HD5.out.1.alloc (Obj.cells #[.bool s2, .slice a6 L2.length c6] 26))); (try (obtain ⟨⟨⟨-, dE0, dE1⟩, ⟨-, dEf⟩, -⟩, dEh⟩ := HE5.out)); (try (revert HE5; intro HE5; obtain ⟨kE7, k7E, kE8, k8E⟩ := ne_leB (c := v5.heap.size) HE5.out.2 (Nat.le_refl _); obtain ⟨nE0, n0E, nE1, n1E⟩ := bx2_ne HE5.out.1 hs0)); (try (revert HE5; intro HE5; obtain ⟨⟨-, mE0, mE1⟩, ⟨-, mEf⟩, -⟩ := HE5.out.1.alloc (Obj.cells #[.bool false, .slice none 0 0] 26))); (try (revert HE5; intro HE5; obtain ⟨⟨-, sE0, sE1⟩, ⟨-, sEf⟩, -⟩ := HE5.out.1.alloc (Obj.cells #[.bool s1, .slice a5 L1.length c5] 26))); (try (revert HE5; intro HE5; obtain ⟨⟨-, tE0, tE1⟩, ⟨-, tEf⟩, -⟩ := HE5.out.1.alloc (Obj.cells #[.bool s2, .slice a6 L2.length c6] 26))); (try (obtain ⟨⟨⟨-, dF0, dF1⟩, ⟨-, dFf⟩, -⟩, dFh⟩ := HF5.out)); (try (revert HF5; intro HF5; obtain ⟨kF7, k7F, kF8, k8F⟩ := ne_leB (c := v5.heap.size) HF5.out.2 (Nat.le_refl _); obtain ⟨nF0, n0F, nF1, n1F⟩ := bx2_ne HF5.out.1 hs0)); (try (revert HF5; intro HF5; obtain ⟨⟨-, mF0, mF1⟩, ⟨-, mFf⟩, -⟩ := HF5.out.1.alloc (Obj.cells #[.bool false, .slice none 0 0] 26))); (try (revert HF5; intro HF5; obtain ⟨⟨-, sF0, sF1⟩, ⟨-, sFf⟩, -⟩ := HF5.out.1.alloc (Obj.cells #[.bool s1, .slice a5 L1.length c5] 26))); (try (revert HF5; intro HF5; obtain ⟨⟨-, tF0, tF1⟩, ⟨-, tFf⟩, -⟩ := HF5.out.1.alloc (Obj.cells #[.bool s2, .slice a6 L2.length c6] 26))); (try (obtain ⟨⟨⟨-, dG0, dG1⟩, ⟨-, dGf⟩, -⟩, dGh⟩ := HG5.out)); (try (revert HG5; intro HG5; obtain ⟨kG7, k7G, kG8, k8G⟩ := ne_leB (c := v5.heap.size) HG5.out.2 (Nat.le_refl _); obtain ⟨nG0, n0G, nG1, n1G⟩ := bx2_ne HG5.out.1 hs0)); (try (revert HG5; intro HG5; obtain ⟨⟨-, mG0, mG1⟩, ⟨-, mGf⟩, -⟩ := HG5.out.1.alloc (Obj.cells #[.bool false, .slice none 0 0] 26))); (try (revert HG5; intro HG5; obtain ⟨⟨-, sG0, sG1⟩, ⟨-, sGf⟩, -⟩ := HG5.out.1.alloc (Obj.cells #[.bool s1, .slice a5 L1.length c5] 26))); (try (revert HG5; intro HG5; obtain ⟨⟨-, tG0, tG1⟩, ⟨-, tGf⟩, -⟩ := HG5.out.1.alloc (Obj.cells #[.bool s2, .slice a6 L2.length c6] 26))); (try (obtain ⟨⟨⟨-, dH0, dH1⟩, ⟨-, dHf⟩, -⟩, dHh⟩ := HH5.out)); (try (revert HH5; intro HH5; obtain ⟨kH7, k7H, kH8, k8H⟩ := ne_leB (c := v5.heap.size) HH5.out.2 (Nat.le_refl _); obtain ⟨nH0, n0H, nH1, n1H⟩ := bx2_ne HH5.out.1 hs0)); (try (revert HH5; intro HH5; obtain ⟨⟨-, mH0, mH1⟩, ⟨-, mHf⟩, -⟩ := HH5.out.1.alloc (Obj.cells #[.bool false, .slice none 0 0] 26))); (try (revert HH5; intro HH5; obtain ⟨⟨-, sH0, sH1⟩, ⟨-, sHf⟩, -⟩ := HH5.out.1.alloc (Obj.cells #[.bool s1, .slice a5 L1.length c5] 26))); (try (revert HH5; intro HH5; obtain ⟨⟨-, tH0, tH1⟩, ⟨-, tHf⟩, -⟩ := HH5.out.1.alloc (Obj.cells #[.bool s2, .slice a6 L2.length c6] 26))); (try (obtain ⟨⟨⟨-, dI0, dI1⟩, ⟨-, dIf⟩, -⟩, dIh⟩ := HI5.out)); (try (revert HI5; intro HI5; obtain ⟨kI7, k7I, kI8, k8I⟩ := ne_leB (c := v5.heap.size) HI5.out.2 (Nat.le_refl _); obtain ⟨nI0, n0I, nI1, n1I⟩ := bx2_ne HI5.out.1 hs0)); (try (revert HI5; intro HI5; obtain ⟨⟨-, mI0, mI1⟩, ⟨-, mIf⟩, -⟩ := HI5.out.1.alloc (Obj.cells #[.bool false, .slice none 0 0] 26))); (try (revert HI5; intro HI5; obtain ⟨⟨-, sI0, sI1⟩, ⟨-, sIf⟩, -⟩ := HI5.out.1.alloc (Obj.cells #[.bool s1, .slice a5 L1.length c5] 26))); (try (revert HI5; intro HI5; obtain ⟨⟨-, tI0, tI1⟩, ⟨-, tIf⟩, -⟩ := HI5.out.1.alloc (Obj.cells #[.bool s2, .slice a6 L2.length c6] 26))); have lA := Box.new v5 (.bool false) (.slice none 0 0) 26; have lAf := Unf.new v5 #[.bool false, .slice none 0 0] 26; have lB := lA.alloc (Obj.cells #[.bool false, .slice none 0 0] 26); have lBf := lAf.keep ((Below.refl _ _).alloc (Nat.le_refl _) (Obj.cells #[.bool false, .slice none 0 0] 26)); have lC := Box.new (v5.alloc (Obj.cells #[.bool false, .slice none 0 0] 26)) (.bool false) (.slice none 0 0) 26; have lCf := Unf.new (v5.alloc (Obj.cells #[.bool false, .slice none 0 0] 26)) #[.bool false, .slice none 0 0] 26; simp only [World.size_alloc] at lC lCf; obtain ⟨-, lA0, lA1⟩ := lA; obtain ⟨-, lAg⟩ := lAf; obtain ⟨-, lB0, lB1⟩ := lB; obtain ⟨-, lBg⟩ := lBf; obtain ⟨-, lC0, lC1⟩ := lC; obtain ⟨-, lCg⟩ := lCf; obtain ⟨za0, za0', za1, za1', zb0, zb0', zb1, zb1'⟩ := far_two hs0 gz; clear hB5 hB5' hs5 hWb oS1 oS2 o51 o52 gy) | (have hB5' : Below (((v4.alloc (Obj.cells #[.bool false, .slice none 0 0] 26)).alloc (Obj.cells #[.bool false, .slice none 0 0] 26))).heap.size ((v4.alloc (Obj.cells #[.bool false, .slice none 0 0] 26)).alloc (Obj.cells #[.bool false, .slice none 0 0] 26)) v5 := (by with_reducible exact hB5); have hs5 := hB5.size; (try simp only [World.size_alloc, World.size_drew] at hs5); have hWb : Below uq.heap.size uq ((v4.alloc (Obj.cells #[.bool false, .slice none 0 0] 26)).alloc (Obj.cells #[.bool false, .slice none 0 0] 26)) := ((H4.out.2.2.alloc H4.out.2.2.size (Obj.cells #[.bool false, .slice none 0 0] 26)).alloc (by have := H4.out.2.2.size; simp only [World.size_alloc]; omega) (Obj.cells #[.bool false, .slice none 0 0] 26)); have H5 : Hid (Box v5 w.heap.size (.bool p) (.slice a xs.length cap) ∧ Box v5 (w.heap.size + 1) (.bool q) (.slice a' ys.length cap') ∧ Below uq.heap.size uq v5) := ⟨((((H4.out.1).alloc (Obj.cells #[.bool false, .slice none 0 0] 26)).alloc (Obj.cells #[.bool false, .slice none 0 0] 26))).keep hB5, ((((H4.out.2.1).alloc (Obj.cells #[.bool false, .slice none 0 0] 26)).alloc (Obj.cells #[.bool false, .slice none 0 0] 26))).keep hB5, hWb.trans (hB5.mono hWb.size)⟩; obtain ⟨-, x50, x51⟩ := H5.out.1; obtain ⟨-, y50, y51⟩ := H5.out.2.1; have HS5 : Hid (v4.heap.size + 1 + 1 ≤ v5.heap.size) := hs5; (try (revert HD4; intro HD4; have HD5 := (show Hid (BX2 v5 _ _ ∧ _) from ⟨(((HD4.out.1).alloc (Obj.cells #[.bool false, .slice none 0 0] 26)).alloc (Obj.cells #[.bool false, .slice none 0 0] 26)).keep hB5, Nat.lt_of_lt_of_le HD4.out.2 (Nat.le_trans (by first | exact Nat.le_refl _ | exact Nat.le_add_right _ _ | exact Nat.le_add_right _ 2) hs5)⟩))); (try (revert HE4; intro HE4; have HE5 := (show Hid (BX2 v5 _ _ ∧ _) from ⟨(((HE4.out.1).alloc (Obj.cells #[.bool false, .slice none 0 0] 26)).alloc (Obj.cells #[.bool false, .slice none 0 0] 26)).keep hB5, Nat.lt_of_lt_of_le HE4.out.2 (Nat.le_trans (by first | exact Nat.le_refl _ | exact Nat.le_add_right _ _ | exact Nat.le_add_right _ 2) hs5)⟩))); (try (revert HF4; intro HF4; have HF5 := (show Hid (BX2 v5 _ _ ∧ _) from ⟨(((HF4.out.1).alloc (Obj.cells #[.bool false, .slice none 0 0] 26)).alloc (Obj.cells #[.bool false, .slice none 0 0] 26)).keep hB5, Nat.lt_of_lt_of_le HF4.out.2 (Nat.le_trans (by first | exact Nat.le_refl _ | exact Nat.le_add_right _ _ | exact Nat.le_add_right _ 2) hs5)⟩))); (try (revert HG4; intro HG4; have HG5 := (show Hid (BX2 v5 _ _ ∧ _) from ⟨(((HG4.out.1).alloc (Obj.cells #[.bool false, .slice none 0 0] 26)).alloc (Obj.cells #[.bool false, .slice none 0 0] 26)).keep hB5, Nat.lt_of_lt_of_le HG4.out.2 (Nat.le_trans (by first | exact Nat.le_refl _ | exact Nat.le_add_right _ _ | exact Nat.le_add_right _ 2) hs5)⟩))); have HH5 : Hid (BX2 v5 uq.heap.size (v4.heap.size) ∧ v4.heap.size < v5.heap.size) := ⟨(((BX2.new v4 uq.heap.size (v4.heap.size) (by simp) (by have hq := H4.out.2.2.size; omega)).alloc (Obj.cells #[.bool false, .slice none 0 0] 26))).keep hB5, (by omega)⟩; have HI5 : Hid (BX2 v5 uq.heap.size (v4.heap.size + 1) ∧ v4.heap.size + 1 < v5.heap.size) := ⟨((BX2.new (v4.alloc (Obj.cells #[.bool false, .slice none 0 0] 26)) uq.heap.size (v4.heap.size + 1) (by simp) (by have hq := H4.out.2.2.size; omega))).keep hB5, (by omega)⟩; obtain ⟨B5, hB5e, o51, o52⟩ : ∃ B5, B5 = v4.heap.size + 1 + 1 ∧ Own v5 B5 (.slice a5 L1.length c5) L1 ∧ Own v5 B5 (.slice a6 L2.length c6) L2 := ⟨_, rfl, oS1.mono (by simp), oS2.mono (by simp)⟩; have g3 := HS3.out; have g4 := HS4.out; have g5 := HS5.out; have gz : uq.heap.size ≤ v5.heap.size := H5.out.2.2.size; have gy := H4.out.2.2.size; have P5 : PK2 uq v5 B5 (.slice a5 L1.length c5) (.slice a6 L2.length c6) L1 L2 := ⟨H5.out.2.2, o51, o52, (by omega), (by omega)⟩; (try (revert HD5; intro HD5; have KD5 := (show Hid (_ < B5) from ltB2 HD4.out.2 (by omega)))); (try (revert HE5; intro HE5; have KE5 := (show Hid (_ < B5) from ltB2 HE4.out.2 (by omega)))); (try (revert HF5; intro HF5; have KF5 := (show Hid (_ < B5) from ltB2 HF4.out.2 (by omega)))); (try (revert HG5; intro HG5; have KG5 := (show Hid (_ < B5) from ltB2 HG4.out.2 (by omega)))); have KH5 : Hid (v4.heap.size < B5) := (by show _ < _; omega); have KI5 : Hid (v4.heap.size + 1 < B5) := (by show _ < _; omega); (try (revert HD5 HE5; intro HD5 HE5; obtain ⟨jDE, jED⟩ := ne_twoB HD5.out.1 HE5.out.1 (Nat.lt_succ_self _))); (try (revert HD5 HF5; intro HD5 HF5; obtain ⟨jDF, jFD⟩ := ne_twoB HD5.out.1 HF5.out.1 (Nat.lt_of_lt_of_le HD3.out.2 (Nat.le_refl _)))); (try (revert HD5 HH5; intro HD5 HH5; have jl : uq.heap.size < v4.heap.size := (by omega); have jDH : ¬ uq.heap.size = v4.heap.size := Nat.ne_of_lt jl; have jHD : ¬ v4.heap.size = uq.heap.size := Nat.ne_of_gt jl; clear jl)); (try (revert HF5 HG5; intro HF5 HG5; obtain ⟨jFG, jGF⟩ := ne_twoB HF5.out.1 HG5.out.1 (Nat.lt_succ_self _))); (try (revert HF5 HH5; intro HF5 HH5; have jl : v3.heap.size < v4.heap.size := (by omega); have jFH : ¬ v3.heap.size = v4.heap.size := Nat.ne_of_lt jl; have jHF : ¬ v4.heap.size = v3.heap.size := Nat.ne_of_gt jl; clear jl)); (try (revert HH5 HI5; intro HH5 HI5; obtain ⟨jHI, jIH⟩ := ne_twoB HH5.out.1 HI5.out.1 (Nat.lt_succ_self _))); (try (obtain ⟨⟨⟨-, dD0, dD1⟩, ⟨-, dDf⟩, -⟩, dDh⟩ := HD5.out)); (try (revert HD5; intro HD5; obtain ⟨kD7, k7D, kD8, k8D⟩ := ne_leB (c := v5.heap.size) HD5.out.2 (Nat.le_refl _); obtain ⟨nD0, n0D, nD1, n1D⟩ := bx2_ne HD5.out.1 hs0)); (try (revert HD5; intro HD5; obtain ⟨⟨-, mD0, mD1⟩, ⟨-, mDf⟩, -⟩ := HD5.out.1.alloc (Obj.cells #[.bool false, .slice none 0 0] 26))); (try (revert HD5; intro HD5; obtain ⟨⟨-, sD0, sD1⟩, ⟨-, sDf⟩, -⟩ := HD5.out.1.alloc (Obj.cells #[.bool s1, .slice a5 L1.length c5] 26))); (try (revert HD5; intro HD5; obtain ⟨⟨-, tD0, tD1⟩, ⟨-, tDf⟩, -⟩ := HD5.out.1.alloc (Obj.cells #[.bool s2, .slice a6 L2.length c6] 26))); (try (obtain ⟨⟨⟨-, dE0, dE1⟩, ⟨-, dEf⟩, -⟩, dEh⟩ := HE5.out)); (try (revert HE5; intro HE5; obtain ⟨kE7, k7E, kE8, k8E⟩ := ne_leB (c := v5.heap.size) HE5.out.2 (Nat.le_refl _); obtain ⟨nE0, n0E, nE1, n1E⟩ := bx2_ne HE5.out.1 hs0)); (try (revert HE5; intro HE5; obtain ⟨⟨-, mE0, mE1⟩, ⟨-, mEf⟩, -⟩ := HE5.out.1.alloc (Obj.cells #[.bool false, .slice none 0 0] 26))); (try (revert HE5; intro HE5; obtain ⟨⟨-, sE0, sE1⟩, ⟨-, sEf⟩, -⟩ := HE5.out.1.alloc (Obj.cells #[.bool s1, .slice a5 L1.length c5] 26))); (try (revert HE5; intro HE5; obtain ⟨⟨-, tE0, tE1⟩, ⟨-, tEf⟩, -⟩ := HE5.out.1.alloc (Obj.cells #[.bool s2, .slice a6 L2.length c6] 26))); (try (obtain ⟨⟨⟨-, dF0, dF1⟩, ⟨-, dFf⟩, -⟩, dFh⟩ := HF5.out)); (try (revert HF5; intro HF5; obtain ⟨kF7, k7F, kF8, k8F⟩ := ne_leB (c := v5.heap.size) HF5.out.2 (Nat.le_refl _); obtain ⟨nF0, n0F, nF1, n1F⟩ := bx2_ne HF5.out.1 hs0)); (try (revert HF5; intro HF5; obtain ⟨⟨-, mF0, mF1⟩, ⟨-, mFf⟩, -⟩ := HF5.out.1.alloc (Obj.cells #[.bool false, .slice none 0 0] 26))); (try (revert HF5; intro HF5; obtain ⟨⟨-, sF0, sF1⟩, ⟨-, sFf⟩, -⟩ := HF5.out.1.alloc (Obj.cells #[.bool s1, .slice a5 L1.length c5] 26))); (try (revert HF5; intro HF5; obtain ⟨⟨-, tF0, tF1⟩, ⟨-, tFf⟩, -⟩ := HF5.out.1.alloc (Obj.cells #[.bool s2, .slice a6 L2.length c6] 26))); (try (obtain ⟨⟨⟨-, dG0, dG1⟩, ⟨-, dGf⟩, -⟩, dGh⟩ := HG5.out)); (try (revert HG5; intro HG5; obtain ⟨kG7, k7G, kG8, k8G⟩ := ne_leB (c := v5.heap.size) HG5.out.2 (Nat.le_refl _); obtain ⟨nG0, n0G, nG1, n1G⟩ := bx2_ne HG5.out.1 hs0)); (try (revert HG5; intro HG5; obtain ⟨⟨-, mG0, mG1⟩, ⟨-, mGf⟩, -⟩ := HG5.out.1.alloc (Obj.cells #[.bool false, .slice none 0 0] 26))); (try (revert HG5; intro HG5; obtain ⟨⟨-, sG0, sG1⟩, ⟨-, sGf⟩, -⟩ := HG5.out.1.alloc (Obj.cells #[.bool s1, .slice a5 L1.length c5] 26))); (try (revert HG5; intro HG5; obtain ⟨⟨-, tG0, tG1⟩, ⟨-, tGf⟩, -⟩ := HG5.out.1.alloc (Obj.cells #[.bool s2, .slice a6 L2.length c6] 26))); (try (obtain ⟨⟨⟨-, dH0, dH1⟩, ⟨-, dHf⟩, -⟩, dHh⟩ := HH5.out)); (try (revert HH5; intro HH5; obtain ⟨kH7, k7H, kH8, k8H⟩ := ne_leB (c := v5.heap.size) HH5.out.2 (Nat.le_refl _); obtain ⟨nH0, n0H, nH1, n1H⟩ := bx2_ne HH5.out.1 hs0)); (try (revert HH5; intro HH5; obtain ⟨⟨-, mH0, mH1⟩, ⟨-, mHf⟩, -⟩ := HH5.out.1.alloc (Obj.cells #[.bool false, .slice none 0 0] 26))); (try (revert HH5; intro HH5; obtain ⟨⟨-, sH0, sH1⟩, ⟨-, sHf⟩, -⟩ := HH5.out.1.alloc (Obj.cells #[.bool s1, .slice a5 L1.length c5] 26))); (try (revert HH5; intro HH5; obtain ⟨⟨-, tH0, tH1⟩, ⟨-, tHf⟩, -⟩ := HH5.out.1.alloc (Obj.cells #[.bool s2, .slice a6 L2.length c6] 26))); (try (obtain ⟨⟨⟨-, dI0, dI1⟩, ⟨-, dIf⟩, -⟩, dIh⟩ := HI5.out)); (try (revert HI5; intro HI5; obtain ⟨kI7, k7I, kI8, k8I⟩ := ne_leB (c := v5.heap.size) HI5.out.2 (Nat.le_refl _); obtain ⟨nI0, n0I, nI1, n1I⟩ := bx2_ne HI5.out.1 hs0)); (try (revert HI5; intro HI5; obtain ⟨⟨-, mI0, mI1⟩, ⟨-, mIf⟩, -⟩ := HI5.out.1.alloc (Obj.cells #[.bool false, .slice none 0 0] 26))); (try (revert HI5; intro HI5; obtain ⟨⟨-, sI0, sI1⟩, ⟨-, sIf⟩, -⟩ := HI5.out.1.alloc (Obj.cells #[.bool s1, .slice a5 L1.length c5] 26))); (try (revert HI5; intro HI5; obtain ⟨⟨-, tI0, tI1⟩, ⟨-, tIf⟩, -⟩ := HI5.out.1.alloc (Obj.cells #[.bool s2, .slice a6 L2.length c6] 26))); have lA := Box.new v5 (.bool false) (.slice none 0 0) 26; have lAf := Unf.new v5 #[.bool false, .slice none 0 0] 26; have lB := lA.alloc (Obj.cells #[.bool false, .slice none 0 0] 26); have lBf := lAf.keep ((Below.refl _ _).alloc (Nat.le_refl _) (Obj.cells #[.bool false, .slice none 0 0] 26)); have lC := Box.new (v5.alloc (Obj.cells #[.bool false, .slice none 0 0] 26)) (.bool false) (.slice none 0 0) 26; have lCf := Unf.new (v5.alloc (Obj.cells #[.bool false, .slice none 0 0] 26)) #[.bool false, .slice none 0 0] 26; simp only [World.size_alloc] at lC lCf; obtain ⟨-, lA0, lA1⟩ := lA; obtain ⟨-, lAg⟩ := lAf; obtain ⟨-, lB0, lB1⟩ := lB; obtain ⟨-, lBg⟩ := lBf; obtain ⟨-, lC0, lC1⟩ := lC; obtain ⟨-, lCg⟩ := lCf; obtain ⟨za0, za0', za1, za1', zb0, zb0', zb1, zb1'⟩ := far_two hs0 gz; clear hB5 hB5' hs5 hWb oS1 oS2 o51 o52 gy)))
        all_goals go_wp2_with fail
        all_goals go_meet
        all_goals refine ⟨_, _, a5, c5, a6, c6, rfl, rfl, rfl, ?_⟩
        all_goals first
          | with_reducible apply fin2_a P5
          | with_reducible apply fin2_b P5
          | with_reducible apply fin2_d P5
          | with_reducible apply fin2_c P5
          | with_reducible apply fin2_e P5
          | with_reducible apply fin2_f P5
          | with_reducible apply fin2_g P5
        all_goals first
          | with_reducible apply HD5.out.1.box
          | with_reducible apply HE5.out.1.box
          | with_reducible apply HF5.out.1.box
          | with_reducible apply HG5.out.1.box
          | with_reducible apply HH5.out.1.box
          | with_reducible apply HI5.out.1.box
          | with_reducible apply HD5.out.1.lo
          | with_reducible apply HE5.out.1.lo
          | with_reducible apply HF5.out.1.lo
          | with_reducible apply HG5.out.1.lo
          | with_reducible apply HH5.out.1.lo
          | with_reducible apply HI5.out.1.lo
          | with_reducible apply KD5.out
          | with_reducible apply KE5.out
          | with_reducible apply KF5.out
          | with_reducible apply KG5.out
          | with_reducible apply KH5.out
          | with_reducible apply KI5.out
          | with_reducible apply jDE
          | with_reducible apply jED
          | with_reducible apply jDF
          | with_reducible apply jFD
          | with_reducible apply jDH
          | with_reducible apply jHD
          | with_reducible apply jFG
          | with_reducible apply jGF
          | with_reducible apply jFH
          | with_reducible apply jHF
          | with_reducible apply jHI
          | with_reducible apply jIH
      case rest =>
      obtain ⟨b3, b4, aH1, cH1, aH2, cH2, rfl, rfl, rfl, hB, hbH1, hbH2, bH1, bH2, oH1, oH2⟩ := hcut
      clear k0 k1 k2 k3 hxp hyp hzap hzbp hRW hG
      replace hW := hW.trans (hB.mono hW.size)
      replace bA := bA.keep hB
      replace bB := bB.keep hB
      replace bS1 := bS1.keep hB
      replace bS2 := bS2.keep hB
      replace bG1 := bG1.keep hB
      replace bG2 := bG2.keep hB
      replace oS1 := oS1.keep hB
      replace oS2 := oS2.keep hB
      replace oG1 := oG1.keep hB
      replace oG2 := oG2.keep hB
      have hzc2 := hB.size
      clear hB
      obtain ⟨-, bAp, bAq⟩ := id bA
      obtain ⟨-, bBp, bBq⟩ := id bB
      obtain ⟨-, bS1p, bS1q⟩ := id bS1
      obtain ⟨-, bS2p, bS2q⟩ := id bS2
      obtain ⟨-, bG1p, bG1q⟩ := id bG1
      obtain ⟨-, bG2p, bG2q⟩ := id bG2
      obtain ⟨-, bH1p, bH1q⟩ := id bH1
      obtain ⟨-, bH2p, bH2q⟩ := id bH2
      go_wp2_with fail
      clear bAp bAq bBp bBq bS1p bS1q bS2p bS2q bG1p bG1q bG2p bG2q bH1p bH1q bH2p bH2q
      refine (eqBig_same _ _ _ L1 _ oH1.rd oS1.rd).mono ?_
      rintro e ur ⟨rfl, hB⟩
      replace hW := hW.trans (hB.mono hW.size)
      replace bA := bA.keep hB
      replace bB := bB.keep hB
      replace bS1 := bS1.keep hB
      replace bS2 := bS2.keep hB
      replace bG1 := bG1.keep hB
      replace bG2 := bG2.keep hB
      replace bH1 := bH1.keep hB
      replace bH2 := bH2.keep hB
      replace oS1 := oS1.keep hB
      replace oS2 := oS2.keep hB
      replace oG1 := oG1.keep hB
      replace oG2 := oG2.keep hB
      replace oH1 := oH1.keep hB
      replace oH2 := oH2.keep hB
      have hz18 : wc.heap.size ≤ ur.heap.size := by have := hB.size; (try simp at this); omega
      clear hB
      obtain ⟨-, bAp, bAq⟩ := id bA
      obtain ⟨-, bBp, bBq⟩ := id bB
      obtain ⟨-, bS1p, bS1q⟩ := id bS1
      obtain ⟨-, bS2p, bS2q⟩ := id bS2
      obtain ⟨-, bG1p, bG1q⟩ := id bG1
      obtain ⟨-, bG2p, bG2q⟩ := id bG2
      obtain ⟨-, bH1p, bH1q⟩ := id bH1
      obtain ⟨-, bH2p, bH2q⟩ := id bH2
      go_wp2_with fail
      clear bAp bAq bBp bBq bS1p bS1q bS2p bS2q bG1p bG1q bG2p bG2q bH1p bH1q bH2p bH2q
      refine (eqBig_same _ _ _ L2 _ oH2.rd oS2.rd).mono ?_
      rintro e us ⟨rfl, hB⟩
      replace hW := hW.trans (hB.mono hW.size)
      replace bA := bA.keep hB
      replace bB := bB.keep hB
      replace bS1 := bS1.keep hB
      replace bS2 := bS2.keep hB
      replace bG1 := bG1.keep hB
      replace bG2 := bG2.keep hB
      replace bH1 := bH1.keep hB
      replace bH2 := bH2.keep hB
      replace oS1 := oS1.keep hB
      replace oS2 := oS2.keep hB
      replace oG1 := oG1.keep hB
      replace oG2 := oG2.keep hB
      replace oH1 := oH1.keep hB
      replace oH2 := oH2.keep hB
      have hz19 : ur.heap.size ≤ us.heap.size := by have := hB.size; (try simp at this); omega
      clear hB
      obtain ⟨-, bAp, bAq⟩ := id bA
      obtain ⟨-, bBp, bBq⟩ := id bB
      obtain ⟨-, bS1p, bS1q⟩ := id bS1
      obtain ⟨-, bS2p, bS2q⟩ := id bS2
      obtain ⟨-, bG1p, bG1q⟩ := id bG1
      obtain ⟨-, bG2p, bG2q⟩ := id bG2
      obtain ⟨-, bH1p, bH1q⟩ := id bH1
      obtain ⟨-, bH2p, bH2q⟩ := id bH2
      go_wp2_with fail
      clear bAp bAq bBp bBq bS1p bS1q bS2p bS2q bG1p bG1q bG2p bG2q bH1p bH1q bH2p bH2q
      refine (heldBig_any _ _ _ 1 L1.length _ oG1.rd (by omega) (by omega) rfl).mono ?_
      rintro e ut ⟨rfl, hB⟩
      replace hW := hW.trans (hB.mono hW.size)
      replace bA := bA.keep hB
      replace bB := bB.keep hB
      replace bS1 := bS1.keep hB
      replace bS2 := bS2.keep hB
      replace bG1 := bG1.keep hB
      replace bG2 := bG2.keep hB
      replace bH1 := bH1.keep hB
      replace bH2 := bH2.keep hB
      replace oS1 := oS1.keep hB
      replace oS2 := oS2.keep hB
      replace oG1 := oG1.keep hB
      replace oG2 := oG2.keep hB
      replace oH1 := oH1.keep hB
      replace oH2 := oH2.keep hB
      have hz20 : us.heap.size ≤ ut.heap.size := by have := hB.size; (try simp at this); omega
      clear hB
      obtain ⟨-, bAp, bAq⟩ := id bA
      obtain ⟨-, bBp, bBq⟩ := id bB
      obtain ⟨-, bS1p, bS1q⟩ := id bS1
      obtain ⟨-, bS2p, bS2q⟩ := id bS2
      obtain ⟨-, bG1p, bG1q⟩ := id bG1
      obtain ⟨-, bG2p, bG2q⟩ := id bG2
      obtain ⟨-, bH1p, bH1q⟩ := id bH1
      obtain ⟨-, bH2p, bH2q⟩ := id bH2
      go_wp2_with fail
      clear bAp bAq bBp bBq bS1p bS1q bS2p bS2q bG1p bG1q bG2p bG2q bH1p bH1q bH2p bH2q
      refine (heldBig_any _ _ _ (1 + (L1.length : Int)) L2.length _ oG2.rd (by omega) (by omega) rfl).mono ?_
      rintro e uu ⟨rfl, hB⟩
      replace hW := hW.trans (hB.mono hW.size)
      replace bA := bA.keep hB
      replace bB := bB.keep hB
      replace bS1 := bS1.keep hB
      replace bS2 := bS2.keep hB
      replace bG1 := bG1.keep hB
      replace bG2 := bG2.keep hB
      replace bH1 := bH1.keep hB
      replace bH2 := bH2.keep hB
      replace oS1 := oS1.keep hB
      replace oS2 := oS2.keep hB
      replace oG1 := oG1.keep hB
      replace oG2 := oG2.keep hB
      replace oH1 := oH1.keep hB
      replace oH2 := oH2.keep hB
      have hz21 : ut.heap.size ≤ uu.heap.size := by have := hB.size; (try simp at this); omega
      clear hB
      go_wp2
      go_ret
      exact ⟨rfl, hW⟩
end Go.Proofs.Ytipoafmabiahoaa
