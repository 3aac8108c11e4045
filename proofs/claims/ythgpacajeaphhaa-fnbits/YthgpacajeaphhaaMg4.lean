import Derived.Test.YthgpacajeaphhaaMg3
import Derived.Test.YthgpacajeaphhaaMg1
import Derived.Deep.CutRange
import Derived.Deep.RegionHeld3
namespace Go.Proofs.Ythgpacajeaphhaa
open Go.RowKit
set_option linter.unusedVariables false
set_option linter.unusedSimpArgs false

/-- What the walk need not see. -/
def LayF (M : List Int) (b : Nat → Bool) (k qq z : Nat) : Prop := val M = laid b k ∧ z + 2 ^ (k % 32) < 4294967296 ∧ val (M.set qq ((z + 2 ^ (k % 32) : Nat) : Int)) = val M + 2 ^ k ∧ val (M.set qq (z : Int)) = val M
def LaidV (b : Nat → Bool) (k : Nat) (M : List Int) : Prop := val M = laid b k
def LaidF (b : Nat → Bool) (k : Nat) (ng : Bool) (NN : Nat) : Prop := laid b k + ng.toNat = NN
def BitsB (op : Int) (dx dy : Nat → Bool) (ng : Bool) (b : Nat → Bool) : Prop := ∀ i, (ng ^^ bopB op (dx i) (dy i)) = b i
/-- A binary digit laid on top of those that are there. -/
theorem lay_up {zs : List Int} (h : Limbs zs) (k : Nat) (hk : k / 32 < zs.length) (hv : val zs < 2 ^ k) :
    ∃ z : Nat, zs.getD (k / 32) 0 = (z : Int) ∧ bits .or .u32 (z : Int) ((2 ^ (k % 32) : Nat) : Int) = ((z + 2 ^ (k % 32) : Nat) : Int) ∧ z + 2 ^ (k % 32) < 4294967296 ∧ val (zs.set (k / 32) ((z + 2 ^ (k % 32) : Nat) : Int)) = val zs + 2 ^ k ∧ bits .or .u32 (z : Int) 0 = (z : Int) ∧ val (zs.set (k / 32) (z : Int)) = val zs := by
  have hb := h.get (k / 32)
  have hla := limb_at h (k / 32) hk
  have hs : k % 32 < 32 := Nat.mod_lt _ (by decide)
  have e0 : (2 : Nat) ^ k = 4294967296 ^ (k / 32) * 2 ^ (k % 32) := by
    rw [show (4294967296 : Nat) = 2 ^ 32 from by decide, ← Nat.pow_mul, ← Nat.pow_add]
    congr 1; omega
  have h1 : val zs / 4294967296 ^ (k / 32) < 2 ^ (k % 32) := by
    rw [Nat.div_lt_iff_lt_mul (Nat.pow_pos (by decide)), Nat.mul_comm, ← e0]; exact hv
  have h2 : (2 : Nat) ^ (k % 32) ≤ 2 ^ 31 := Nat.pow_le_pow_right (by decide) (by omega)
  have h3 : (zs.getD (k / 32) 0).toNat < 2 ^ (k % 32) := by rw [hla]; exact Nat.lt_of_le_of_lt (Nat.mod_le _ _) h1
  refine ⟨(zs.getD (k / 32) 0).toNat, by omega, ?_, by omega, ?_, ?_, ?_⟩
  · rw [u32_or_nat _ _ (by omega) (by omega), Nat.or_comm]
    have := Nat.two_pow_add_eq_or_of_lt h3 1
    rw [Nat.mul_one] at this
    rw [← this, Nat.add_comm]
  · rw [val_set zs (k / 32) _ (2 ^ (k % 32)) hk (by omega) hb.1, ← e0]
  · have := u32_or_nat (zs.getD (k / 32) 0).toNat 0 (by omega) (by omega)
    rw [Nat.or_zero] at this; exact this
  · rw [val_set zs (k / 32) _ 0 hk (by omega) hb.1]; simp
def SpecFacts2 (op : Int) (dx dy : Nat → Bool) (ng : Bool) (k NN : Nat) : Prop :=
  bopB op (dx k) (dy k) = ng ∧ laid (fun i => ng ^^ bopB op (dx i) (dy i)) k + ng.toNat = NN
def SpecFacts (op : Int) (dx dy : Nat → Bool) (ng : Bool) (m NN : Nat) : Prop :=
  bopB op (dx (32 * m)) (dy (32 * m)) = ng ∧ laid (fun i => ng ^^ bopB op (dx i) (dy i)) (32 * m) + ng.toNat = NN

set_option maxHeartbeats 4000000 in
set_option maxRecDepth 100000 in
theorem bb_spec (op : Int) (p q : Bool) (v u : Value) (xs ys : List Int) (w : World) (hx : Rd w v xs) (hy : Rd w u ys) (m : Nat) (hm : m = max xs.length ys.length) (hoA : okB p xs = true) (hoB : okB q ys = true) (ho : op = 1 ∨ op = 2 ∨ op = 3) :
    Calls Try.prog 21 #[.int .i64 op, .agg #[.bool p, v], .agg #[.bool q, u]] w fun e w' => ∃ a c, e = .returned (.tuple #[.agg #[.bool (fitS (bopB op p q) (bbN op p q (val xs) (val ys) (32 * m))), .slice a (fitL (bbN op p q (val xs) (val ys) (32 * m))).length c], .int .i64 (fitC (bbN op p q (val xs) (val ys) (32 * m)))]) ∧ Own w' w.heap.size (.slice a (fitL (bbN op p q (val xs) (val ys) (32 * m))).length c) (fitL (bbN op p q (val xs) (val ys) (32 * m))) ∧ Below w.heap.size w w' := by
  have hx' := hx
  have hy' := hy
  obtain ⟨a, cap, rfl, _, hzx, hnx, hcx⟩ := hx
  obtain ⟨a', cap', rfl, _, hzy, hny, hcy⟩ := hy
  clear hcx hcy hnx hny
  have bA := ((Box.new w (.bool p) (.slice a xs.length cap) 26).alloc (Obj.cells #[.bool q, .slice a' ys.length cap'] 26)).alloc (Obj.cells #[.bool false, .slice none 0 0] 26)
  have bB := (Box.new (w.alloc (Obj.cells #[.bool p, .slice a xs.length cap] 26)) (.bool q) (.slice a' ys.length cap') 26).alloc (Obj.cells #[.bool false, .slice none 0 0] 26)
  have rx := ((hx'.alloc (Obj.cells #[.bool p, .slice a xs.length cap] 26)).alloc (Obj.cells #[.bool q, .slice a' ys.length cap'] 26)).alloc (Obj.cells #[.bool false, .slice none 0 0] 26)
  have ry := ((hy'.alloc (Obj.cells #[.bool p, .slice a xs.length cap] 26)).alloc (Obj.cells #[.bool q, .slice a' ys.length cap'] 26)).alloc (Obj.cells #[.bool false, .slice none 0 0] 26)
  have hW := (((Below.refl w.heap.size w).alloc (Nat.le_refl _) (Obj.cells #[.bool p, .slice a xs.length cap] 26)).alloc (by simp) (Obj.cells #[.bool q, .slice a' ys.length cap'] 26)).alloc (by simp; omega) (Obj.cells #[.bool false, .slice none 0 0] 26)
  have bR := Box.new ((w.alloc (Obj.cells #[.bool p, .slice a xs.length cap] 26)).alloc (Obj.cells #[.bool q, .slice a' ys.length cap'] 26)) (.bool false) (.slice none 0 0) 26
  have fR := Unf.new ((w.alloc (Obj.cells #[.bool p, .slice a xs.length cap] 26)).alloc (Obj.cells #[.bool q, .slice a' ys.length cap'] 26)) #[.bool false, .slice none 0 0] 26
  simp only [World.size_alloc] at bB bR fR
  have HX0 := hx'
  have HY0 := hy'
  clear hx' hy'
  have hokA := fun W h => bigOkS_any p (.slice a xs.length cap) xs W h
  rw [hoA] at hokA
  have hokB := fun W h => bigOkS_any q (.slice a' ys.length cap') ys W h
  rw [hoB] at hokB
  have hnA := okB_norm hoA
  have hnB := okB_norm hoB
  have hm1 : m ≤ 128 := by omega
  have hmx : max (xs.length : Int) (ys.length : Int) = (m : Int) := by omega
  have hpA : p = true → 0 < val xs := fun h => okB_pos hzx (h ▸ hoA)
  have hpB : q = true → 0 < val ys := fun h => okB_pos hzy (h ▸ hoB)
  have hxl : val xs < 2 ^ (32 * m) := Nat.lt_of_lt_of_le (val_lt hzx) (by rw [R_pow]; exact Nat.pow_le_pow_right (by decide) (by omega))
  have hyl : val ys < 2 ^ (32 * m) := Nat.lt_of_lt_of_le (val_lt hzy) (by rw [R_pow]; exact Nat.pow_le_pow_right (by decide) (by omega))
  have ho1 : ¬ op < 1 := by omega
  have ho3 : ¬ 3 < op := by omega
  have hcl : xs.length ≤ 1048576 ∧ ys.length ≤ 1048576 := by omega
  have hTx := fun W (i : Nat) h (hi : i ≤ 100000) => two_any p (.slice a xs.length cap) xs i W h hpA hcl.1 (by omega)
  have hTy := fun W (i : Nat) h (hi : i ≤ 100000) => two_any q (.slice a' ys.length cap') ys i W h hpB hcl.2 (by omega)
  have hOp := fun W x y => bitOp_any op x y W ho
  have hbs := bbN_spec op p q (val xs) (val ys) (32 * m) hxl hyl hpA hpB
  have ht1 : dg p (val xs) (32 * m) = p := dg_top p _ _ _ hxl (Nat.le_refl _)
  have ht2 : dg q (val ys) (32 * m) = q := dg_top q _ _ _ hyl (Nat.le_refl _)
  have hFt := fun W (B n' c' : Nat) a' h hb => l1Fit_any (bopB op p q) B n' c' a' (bbN op p q (val xs) (val ys) (32 * m)) W h hb
  generalize fitS (bopB op p q) (bbN op p q (val xs) (val ys) (32 * m)) = S at hFt ⊢
  generalize fitL (bbN op p q (val xs) (val ys) (32 * m)) = L at hFt ⊢
  generalize fitC (bbN op p q (val xs) (val ys) (32 * m)) = C at hFt ⊢
  generalize bbN op p q (val xs) (val ys) (32 * m) = NN at hFt hbs
  obtain ⟨dx, hdx⟩ : ∃ dx : Nat → Bool, dx = fun i => dg p (val xs) i := ⟨_, rfl⟩
  obtain ⟨dy, hdy⟩ : ∃ dy : Nat → Bool, dy = fun i => dg q (val ys) i := ⟨_, rfl⟩
  have e1 : ∀ i, dg p (val xs) i = dx i := fun i => by rw [hdx]
  have e2 : ∀ i, dg q (val ys) i = dy i := fun i => by rw [hdy]
  simp only [e1] at hTx hbs ht1
  simp only [e2] at hTy hbs ht2
  clear e1 e2 hdx hdy
  obtain ⟨ng, hng⟩ : ∃ ng, bopB op p q = ng := ⟨_, rfl⟩
  have hng' : bopB op (dx (32 * m)) (dy (32 * m)) = ng := by rw [ht1, ht2]; exact hng
  rw [hng] at hFt
  simp only [hng] at hbs
  have HB : SpecFacts op dx dy ng m NN := ⟨hng', hbs⟩
  clear hoA hoB hxl hyl hpA hpB hnA hnB hm ho hbs ht1 ht2 hng hng'
  have hx0 : Rd w _ _ := HX0
  have hy0 : Rd w _ _ := HY0
  clear HX0 HY0
  obtain ⟨i0, hi, hz0, hz1, hz2⟩ := info_parts Try.info49
  go_enter Try.func21, Try.ntmps21
  go_wp2_with fail
  refine (hokA _ rx).mono ?_
  rintro e w1 ⟨rfl, hB⟩
  clear hokA
  replace hW := hW.trans (hB.mono hW.size)
  replace bA := bA.keep hB
  replace bB := bB.keep hB
  replace rx := rx.keep hB
  replace ry := ry.keep hB
  replace bR := bR.keep hB
  replace fR := fR.keep hB
  clear hB
  obtain ⟨-, k0, k1⟩ := id bA
  obtain ⟨-, k2, k3⟩ := id bB
  obtain ⟨hzr, r0, r1⟩ := id bR
  obtain ⟨-, hfr⟩ := id fR
  go_wp2_with fail
  refine (hokB _ ry).mono ?_
  rintro e w2 ⟨rfl, hB⟩
  clear hokB
  clear k0 k1 k2 k3 r0 r1 hzr hfr
  replace hW := hW.trans (hB.mono hW.size)
  replace bA := bA.keep hB
  replace bB := bB.keep hB
  replace rx := rx.keep hB
  replace ry := ry.keep hB
  replace bR := bR.keep hB
  replace fR := fR.keep hB
  clear hB
  obtain ⟨-, k0, k1⟩ := id bA
  obtain ⟨-, k2, k3⟩ := id bB
  obtain ⟨hzr, r0, r1⟩ := id bR
  obtain ⟨-, hfr⟩ := id fR
  clear r0 r1 hzr hfr
  go_upto_if 37 with fail
  go_cut [8] from 30 to 97 (fun s8 wc => s8 = .int .i64 (m : Int) ∧ wc = w2)
  case first =>
    clear hTx hTy hOp hFt HB
    by_cases hc : (xs.length : Int) < (ys.length : Int)
    · go_wp2_with fail
      all_goals go_meet
      all_goals exact ⟨congrArg (Value.int .i64) (by omega), rfl⟩
    · go_wp2_with fail
      all_goals go_meet
      all_goals exact ⟨congrArg (Value.int .i64) (by omega), rfl⟩
  case rest =>
    obtain ⟨rfl, rfl⟩ := hcut
    clear k0 k1 k2 k3 hmx
    obtain ⟨k32, hk32⟩ : ∃ k32 : Nat, k32 = 32 * m := ⟨_, rfl⟩
    have hk32' : (32 : Int) * (m : Int) = (k32 : Int) := by omega
    have hkl : k32 ≤ 4096 := by omega
    have HB1 := HB.1
    have HB2 := HB.2
    rw [← hk32] at HB1 HB2
    have HC : SpecFacts2 op dx dy ng k32 NN := ⟨HB1, HB2⟩
    have hkm : Hid (k32 = 32 * m) := hk32
    clear HB HB1 HB2 hk32
    go_wp2_with (at_make; refine wpList_make_full _ rfl _ _ 24 rfl (w.heap.size + 1 + 1 + 1) 49 i0 (.int .u32 0) 1 Try.underlying24 hi hz0 hz1 .i64 .i64 _ _ m rfl rfl rfl rfl (by rw [hz2]; omega) (by unfold maxLen; omega) (by have := bR.1; omega) ?_; intro w3 hown hgrow)
    have oM : Own w3 (w.heap.size + 1 + 1 + 1) _ (List.replicate m 0) := Own.made (by omega) hown
    have hB := (Below.refl wc.heap.size wc).grown hgrow (Nat.le_refl _) (by intro k h; cases h)
    clear hown hgrow hi hz0 hz1 hz2
    replace hW := hW.trans (hB.mono hW.size)
    replace bA := bA.keep hB
    replace bB := bB.keep hB
    replace rx := rx.keep hB
    replace ry := ry.keep hB
    replace bR := bR.keep hB
    replace fR := fR.keep hB
    clear hB
    obtain ⟨gm, hgm⟩ : ∃ gm, gm = wc.heap.size := ⟨_, rfl⟩
    rw [← hgm] at oM ⊢
    clear hgm
    go_cut [10] from 43 to 97 (fun s10 wc => ∃ x, s10 = .bool x ∧ ng = x ∧ Below w3.heap.size w3 wc)
    case first =>
      have hX1 := fun W h => hTx W k32 h (by omega)
      have hY1 := fun W h => hTy W k32 h (by omega)
      have hO1 := fun W => hOp W (dx k32) (dy k32)
      rw [HC.1] at hO1
      have HQ : Hid (Box w3 w.heap.size (.bool p) (.slice a xs.length cap) ∧ Box w3 (w.heap.size + 1) (.bool q) (.slice a' ys.length cap') ∧ Box w3 (w.heap.size + 1 + 1) (.bool false) (.slice none 0 0) ∧ Unf w3 (w.heap.size + 1 + 1) ∧ Below w.heap.size w w3) := ⟨bA, bB, bR, fR, hW⟩
      obtain ⟨-, k0, k1⟩ := id bA
      obtain ⟨-, k2, k3⟩ := id bB
      have rX := rx
      have rY := ry
      clear hTx hTy hOp hFt bA bB bR fR hW rx ry HC
      have hwm : IntKind.i64.wrap (32 * (m : Int)) = (k32 : Int) := by rw [hk32']; simp [IntKind.wrap, IntKind.bits, IntKind.signed]; omega
      clear hk32' hkm hm1 hkl hcl hzx hzy
      generalize (dx k32).toNat = ux at hX1 hO1
      generalize (dy k32).toNat = uy at hY1 hO1
      go_region_held3 (fun W => W.cell? ⟨w.heap.size, 0, none⟩ = some (.bool p) ∧ W.cell? ⟨w.heap.size, 1, none⟩ = some (.slice a xs.length cap) ∧ W.cell? ⟨w.heap.size + 1, 0, none⟩ = some (.bool q) ∧ W.cell? ⟨w.heap.size + 1, 1, none⟩ = some (.slice a' ys.length cap')) (go_keep) (first | (go_at_call 49; refine (hX1 _ rX.drew).mono ?_; rintro e v1 ⟨rfl, hB3⟩; clear hX1; obtain ⟨-, x0, x1⟩ := HQ.out.1.drew.keep hB3; obtain ⟨-, y0, y1⟩ := HQ.out.2.1.drew.keep hB3) | (go_at_call 49; refine (hY1 _ (rY.drew.keep hB3)).mono ?_; rintro e v2 ⟨rfl, hB4⟩; clear hY1; obtain ⟨-, x2, x3⟩ := (HQ.out.1.drew.keep hB3).keep hB4; obtain ⟨-, y2, y3⟩ := (HQ.out.2.1.drew.keep hB3).keep hB4) | (go_at_call 48; refine (hO1 _).mono ?_; rintro e v3 ⟨rfl, rfl⟩))
      all_goals go_wp2_with fail
      all_goals go_meet
      all_goals exact ⟨_, rfl, (by cases ng <;> rfl), (Below.refl _ _).drew.trans (hB3.trans (hB4.mono hB3.size))⟩
    case rest =>
      obtain ⟨_, rfl, rfl, hB⟩ := hcut
      replace hW := hW.trans (hB.mono hW.size)
      replace bA := bA.keep hB
      replace bB := bB.keep hB
      replace rx := rx.keep hB
      replace ry := ry.keep hB
      replace bR := bR.keep hB
      replace fR := fR.keep hB
      replace oM := oM.keep hB
      clear hB
      have lm := oM.lt gm rfl
      obtain ⟨b, hb⟩ : ∃ b : Nat → Bool, b = fun i => ng ^^ bopB op (dx i) (dy i) := ⟨_, rfl⟩
      have HBB : BitsB op dx dy ng b := fun i => by rw [hb]
      have HC2 : LaidF b k32 ng NN := by have := HC.2; rw [← hb] at this; exact this
      clear hb HC
      go_wp2
      go_loopw [11] (fun i wr => ∃ (k : Nat) (M : List Int), k ≤ k32 ∧ i = .int .i64 k ∧ M.length = m ∧ Own wr (w.heap.size + 1 + 1 + 1) (.slice (some ⟨gm, 0, none⟩) m m) M ∧ LaidV b k M ∧ Box wr w.heap.size (.bool p) (.slice a xs.length cap) ∧ Box wr (w.heap.size + 1) (.bool q) (.slice a' ys.length cap') ∧ Box wr (w.heap.size + 1 + 1) (.bool false) (.slice none 0 0) ∧ Unf wr (w.heap.size + 1 + 1) ∧ Below w.heap.size w wr ∧ Rd wr (.slice a xs.length cap) xs ∧ Rd wr (.slice a' ys.length cap') ys) (fun i _ => k32 - (intOf i).toNat)
      case atStart => exact ⟨0, List.replicate m 0, Nat.zero_le _, rfl, by simp, oM, val_zeros m, bA, bB, bR, fR, hW, rx, ry⟩
      case round =>
        clear oM bA bB bR fR hW rx ry
        obtain ⟨k, M, hk, rfl, hMl, oM, hMv, bA, bB, bR, fR, hW, rx, ry⟩ := hrel
        by_cases hlt : k < k32
        · go_upto_region 11 with fail
          go_cut [12] from 54 to 85 (fun s12 wd => s12 = .int .u32 ((bopB op (dx k) (dy k)).toNat : Int) ∧ Below wr.heap.size wr wd)
          case first =>
            have hX1 := fun W h => hTx W k h (by omega)
            have hY1 := fun W h => hTy W k h (by omega)
            have hO1 := fun W => hOp W (dx k) (dy k)
            have HQ : Hid (Box wr w.heap.size (.bool p) (.slice a xs.length cap) ∧ Box wr (w.heap.size + 1) (.bool q) (.slice a' ys.length cap') ∧ Box wr (w.heap.size + 1 + 1) (.bool false) (.slice none 0 0) ∧ Unf wr (w.heap.size + 1 + 1) ∧ Below w.heap.size w wr) := ⟨bA, bB, bR, fR, hW⟩
            obtain ⟨-, k0, k1⟩ := id bA
            obtain ⟨-, k2, k3⟩ := id bB
            have rX := rx
            have rY := ry
            clear hTx hTy hOp hFt bA bB bR fR hW rx ry oM hMv HBB HC2
            generalize (dx k).toNat = ux at hX1 hO1
            generalize (dy k).toNat = uy at hY1 hO1
            go_region_held3 (fun W => W.cell? ⟨w.heap.size, 0, none⟩ = some (.bool p) ∧ W.cell? ⟨w.heap.size, 1, none⟩ = some (.slice a xs.length cap) ∧ W.cell? ⟨w.heap.size + 1, 0, none⟩ = some (.bool q) ∧ W.cell? ⟨w.heap.size + 1, 1, none⟩ = some (.slice a' ys.length cap')) (go_keep) (first | (go_at_call 49; refine (hX1 _ rX.drew).mono ?_; rintro e v1 ⟨rfl, hB3⟩; clear hX1; obtain ⟨-, x0, x1⟩ := HQ.out.1.drew.keep hB3; obtain ⟨-, y0, y1⟩ := HQ.out.2.1.drew.keep hB3) | (go_at_call 49; refine (hY1 _ (rY.drew.keep hB3)).mono ?_; rintro e v2 ⟨rfl, hB4⟩; clear hY1; obtain ⟨-, x2, x3⟩ := (HQ.out.1.drew.keep hB3).keep hB4; obtain ⟨-, y2, y3⟩ := (HQ.out.2.1.drew.keep hB3).keep hB4) | (go_at_call 48; refine (hO1 _).mono ?_; rintro e v3 ⟨rfl, rfl⟩))
            all_goals go_wp2_with fail
            all_goals go_meet
            all_goals exact ⟨rfl, (Below.refl _ _).drew.trans (hB3.trans (hB4.mono hB3.size))⟩
          case rest =>
            obtain ⟨rfl, hB⟩ := hcut
            replace hW := hW.trans (hB.mono hW.size)
            replace bA := bA.keep hB
            replace bB := bB.keep hB
            replace rx := rx.keep hB
            replace ry := ry.keep hB
            replace bR := bR.keep hB
            replace fR := fR.keep hB
            replace oM := oM.keep hB
            clear hB HC2 hFt
            obtain ⟨qq, hq⟩ : ∃ qq, qq = k / 32 := ⟨_, rfl⟩
            have hq' : (k : Int) / 32 = (qq : Int) := by omega
            have hqm : qq < M.length := by have := hkm.out; omega
            have hqm' : (qq : Int) < (m : Int) := by omega
            obtain ⟨z, hz1, hz2, hz3, hz4, hz5, hz6⟩ := lay_up oM.2.2 k (by rw [← hq]; exact hqm) (by rw [show val M = laid b k from hMv]; exact laid_lt b k)
            rw [← hq] at hz1 hz4 hz6
            have hMv : val M = laid b k := hMv
            have hce := oM.cell qq (by omega)
            rw [hz1] at hce
            have hfz := oM.frozen qq
            have hzb : z < 4294967296 := Nat.lt_of_le_of_lt (Nat.le_add_right _ _) hz3
            clear hz1
            have HLY : LayF M b k qq z := ⟨hMv, hz3, hz4, hz6⟩
            clear hz3 hz4 hz6 hMv hq
            cases hbit : bopB op (dx k) (dy k) with
            | false =>
              cases ng with
              | false =>
                have hbk : b k = false := by rw [← HBB k]; simp [hbit]
                have HL : LaidV b (k + 1) (M.set qq (z : Int)) := by
                  show val _ = _
                  rw [HLY.2.2.2, HLY.1]; simp [laid, hbk]
                clear hz2 hbk hbit HBB hTx hTy hOp
                go_wp2
                go_roundw
                case rel =>
                  have hWs : Below w.heap.size w (wc.setCell ⟨gm, qq, none⟩ (.int .u32 (z : Int))) := hW.setCell (by show w.heap.size ≤ gm; omega) _
                  exact ⟨k + 1, M.set qq (z : Int), by omega, by go_num, by simp [hMl], oM.store qq (Int.natCast_nonneg _) (Int.ofNat_lt.mpr hzb), HL, bA.setOther (by show ¬ _ = _; omega) _ _, bB.setOther (by show ¬ _ = _; omega) _ _, bR.setOther (by show ¬ _ = _; omega) _ _, fR.set _ _, hWs, hx0.keep hWs, hy0.keep hWs⟩
                case measure => simp [intOf]; omega
              | true =>
                have hbk : b k = true := by rw [← HBB k]; simp [hbit]
                have HL : LaidV b (k + 1) (M.set qq ((z + 2 ^ (k % 32) : Nat) : Int)) := by
                  show val _ = _
                  rw [HLY.2.2.1, HLY.1]; simp [laid, hbk]
                have HE : Hid (bits .or .u32 (z : Int) ((2 : Int) ^ (k % 32) % 4294967296) = ((z + 2 ^ (k % 32) : Nat) : Int)) := by show _ = _; rw [pow_wrap]; exact hz2
                clear hz2 hz5 hbk hbit HBB hTx hTy hOp
                go_wp2
                rw [HE.out]
                go_roundw
                case rel =>
                  have hWs : Below w.heap.size w (wc.setCell ⟨gm, qq, none⟩ (.int .u32 ((z + 2 ^ (k % 32) : Nat) : Int))) := hW.setCell (by show w.heap.size ≤ gm; omega) _
                  exact ⟨k + 1, M.set qq ((z + 2 ^ (k % 32) : Nat) : Int), by omega, by go_num, by simp [hMl], oM.store qq (Int.natCast_nonneg _) (Int.ofNat_lt.mpr HLY.2.1), HL, bA.setOther (by show ¬ _ = _; omega) _ _, bB.setOther (by show ¬ _ = _; omega) _ _, bR.setOther (by show ¬ _ = _; omega) _ _, fR.set _ _, hWs, hx0.keep hWs, hy0.keep hWs⟩
                case measure => simp [intOf]; omega
            | true =>
              cases ng with
              | false =>
                have hbk : b k = true := by rw [← HBB k]; simp [hbit]
                have HL : LaidV b (k + 1) (M.set qq ((z + 2 ^ (k % 32) : Nat) : Int)) := by
                  show val _ = _
                  rw [HLY.2.2.1, HLY.1]; simp [laid, hbk]
                have HE : Hid (bits .or .u32 (z : Int) ((2 : Int) ^ (k % 32) % 4294967296) = ((z + 2 ^ (k % 32) : Nat) : Int)) := by show _ = _; rw [pow_wrap]; exact hz2
                clear hz2 hz5 hbk hbit HBB hTx hTy hOp
                go_wp2
                rw [HE.out]
                go_roundw
                case rel =>
                  have hWs : Below w.heap.size w (wc.setCell ⟨gm, qq, none⟩ (.int .u32 ((z + 2 ^ (k % 32) : Nat) : Int))) := hW.setCell (by show w.heap.size ≤ gm; omega) _
                  exact ⟨k + 1, M.set qq ((z + 2 ^ (k % 32) : Nat) : Int), by omega, by go_num, by simp [hMl], oM.store qq (Int.natCast_nonneg _) (Int.ofNat_lt.mpr HLY.2.1), HL, bA.setOther (by show ¬ _ = _; omega) _ _, bB.setOther (by show ¬ _ = _; omega) _ _, bR.setOther (by show ¬ _ = _; omega) _ _, fR.set _ _, hWs, hx0.keep hWs, hy0.keep hWs⟩
                case measure => simp [intOf]; omega
              | true =>
                have hbk : b k = false := by rw [← HBB k]; simp [hbit]
                have HL : LaidV b (k + 1) (M.set qq (z : Int)) := by
                  show val _ = _
                  rw [HLY.2.2.2, HLY.1]; simp [laid, hbk]
                clear hz2 hbk hbit HBB hTx hTy hOp
                go_wp2
                go_roundw
                case rel =>
                  have hWs : Below w.heap.size w (wc.setCell ⟨gm, qq, none⟩ (.int .u32 (z : Int))) := hW.setCell (by show w.heap.size ≤ gm; omega) _
                  exact ⟨k + 1, M.set qq (z : Int), by omega, by go_num, by simp [hMl], oM.store qq (Int.natCast_nonneg _) (Int.ofNat_lt.mpr hzb), HL, bA.setOther (by show ¬ _ = _; omega) _ _, bB.setOther (by show ¬ _ = _; omega) _ _, bR.setOther (by show ¬ _ = _; omega) _ _, fR.set _ _, hWs, hx0.keep hWs, hy0.keep hWs⟩
                case measure => simp [intOf]; omega
        · have hk' : k = k32 := by omega
          subst hk'
          have hTr := trimS_any (.slice (some ⟨gm, 0, none⟩) m m) M wr oM.rd
          have hMv' : val M = laid b k := hMv
          have hC3 : laid b k + ng.toNat = NN := HC2
          have hlt3 : val M < 4294967296 ^ m := by have := val_lt oM.2.2; rw [hMl] at this; exact this
          have hTl : (lim (val M)).length ≤ 1048576 := Nat.le_trans (lim_length_le hlt3) (by omega)
          rw [← hMv'] at hC3
          clear HC2 hMv' hlt3 hMv
          generalize val M = T at hTr hC3 hTl
          clear oM bA bB rx ry HBB hTx hTy hOp hx0 hy0 hk hlt
          have hG := fun W u h => l1Big_lim ng u NN W h
          cases ng with
          | false =>
            obtain rfl : T = NN := by simpa using hC3
            clear hC3
            generalize nz false T = nzb at hG hFt
            generalize lim T = LT at hTr hG hFt hTl
            go_wp2_with fail
            refine hTr.mono ?_
            rintro e w4 ⟨a4, c4, rfl, o4, hB⟩
            clear hTr
            replace hW := hW.trans (hB.mono hW.size)
            replace bR := bR.keep hB
            replace fR := fR.keep hB
            clear hB
            go_wp2_with fail
            refine (hG _ _ o4.rd).mono ?_
            rintro e w6 ⟨a6, c6, rfl, o6, hB⟩
            have hB6 := hB.size
            have hbz : w.heap.size + 1 + 1 < w4.heap.size := bR.1
            clear hG
            replace hW := hW.trans (hB.mono hW.size)
            replace bR := bR.keep hB
            replace fR := fR.keep hB
            clear hB
            go_wp2_with fail
            refine (hFt _ _ _ _ _ o6 hB6).mono ?_
            rintro e w7 ⟨a7, c7, rfl, o7, hB⟩
            clear hFt
            replace hW := hW.trans (hB.mono hW.size)
            replace bR := bR.keep hB
            replace fR := fR.keep hB
            clear hB
            obtain ⟨hzr, r0, r1⟩ := id bR
            obtain ⟨-, hfr⟩ := id fR
            go_wp2
            refine bodyPost_ret (v := .tuple #[.agg #[.bool S, .slice a7 L.length c7], .int .i64 C]) (by simp [results, Try.results21, go_sem, r0, r1, hzr]) rfl ⟨a7, c7, rfl, ?_, ?_⟩
            · exact ((o7.setBelow (by show w.heap.size + 1 + 1 < _; exact hbz) _).setBelow (by show w.heap.size + 1 + 1 < _; exact hbz) _).mono (by omega)
            · exact (hW.setCell (by show w.heap.size ≤ w.heap.size + 1 + 1; omega) _).setCell (by show w.heap.size ≤ w.heap.size + 1 + 1; omega) _
          | true =>
            obtain rfl : T + 1 = NN := by simpa using hC3
            clear hC3
            have hA := fun W u1 u2 h1 h2 => addMag_any u1 u2 (lim T) [1] W h1 h2 hTl (by simp)
            rw [val_lim, show val [1] = 1 from by simp [val]] at hA
            generalize nz true (T + 1) = nzb at hG hFt
            generalize lim (T + 1) = LN at hG hFt hA
            generalize lim T = LT at hTr hA hTl
            go_wp2_with fail
            refine hTr.mono ?_
            rintro e w4 ⟨a4, c4, rfl, o4, hB⟩
            clear hTr
            replace hW := hW.trans (hB.mono hW.size)
            replace bR := bR.keep hB
            replace fR := fR.keep hB
            clear hB
            go_wp2_with fail
            refine (hA _ _ _ (o4.rd.alloc _) (Rd.one w4 w4.heap.size rfl 49 (by decide) (by decide))).mono ?_
            rintro e w5 ⟨a5, c5, rfl, o5, hB'⟩
            have hB := below_of_alloc hB'
            clear hA hB'
            replace hW := hW.trans (hB.mono hW.size)
            replace bR := bR.keep hB
            replace fR := fR.keep hB
            clear hB
            go_wp2_with fail
            refine (hG _ _ o5.rd).mono ?_
            rintro e w6 ⟨a6, c6, rfl, o6, hB⟩
            have hB6 := hB.size
            have hbz : w.heap.size + 1 + 1 < w5.heap.size := bR.1
            clear hG
            replace hW := hW.trans (hB.mono hW.size)
            replace bR := bR.keep hB
            replace fR := fR.keep hB
            clear hB
            go_wp2_with fail
            refine (hFt _ _ _ _ _ o6 hB6).mono ?_
            rintro e w7 ⟨a7, c7, rfl, o7, hB⟩
            clear hFt
            replace hW := hW.trans (hB.mono hW.size)
            replace bR := bR.keep hB
            replace fR := fR.keep hB
            clear hB
            obtain ⟨hzr, r0, r1⟩ := id bR
            obtain ⟨-, hfr⟩ := id fR
            go_wp2
            refine bodyPost_ret (v := .tuple #[.agg #[.bool S, .slice a7 L.length c7], .int .i64 C]) (by simp [results, Try.results21, go_sem, r0, r1, hzr]) rfl ⟨a7, c7, rfl, ?_, ?_⟩
            · exact ((o7.setBelow (by show w.heap.size + 1 + 1 < _; exact hbz) _).setBelow (by show w.heap.size + 1 + 1 < _; exact hbz) _).mono (by omega)
            · exact (hW.setCell (by show w.heap.size ≤ w.heap.size + 1 + 1; omega) _).setCell (by show w.heap.size ≤ w.heap.size + 1 + 1; omega) _
end Go.Proofs.Ythgpacajeaphhaa

namespace Go.Proofs.Ythgpacajeaphhaa
open Go.RowKit
set_option linter.unusedVariables false
set_option linter.unusedSimpArgs false

/-- What BigBit answers. -/
def bbG (op : Int) (p q : Bool) (xs ys : List Int) : Bool := okB p xs && (okB q ys && decide (op = 1 ∨ op = 2 ∨ op = 3))
def bbX (op : Int) (p q : Bool) (xs ys : List Int) : Nat := bbN op p q (val xs) (val ys) (32 * max xs.length ys.length)
def bbS (op : Int) (p q : Bool) (xs ys : List Int) : Bool := if bbG op p q xs ys = true then fitS (bopB op p q) (bbX op p q xs ys) else false
def bbL (op : Int) (p q : Bool) (xs ys : List Int) : List Int := if bbG op p q xs ys = true then fitL (bbX op p q xs ys) else []
def bbC (op : Int) (p q : Bool) (xs ys : List Int) : Int := if bbG op p q xs ys = true then fitC (bbX op p q xs ys) else 1
theorem bb_no {op : Int} {p q : Bool} {xs ys : List Int} (h : bbG op p q xs ys = false) : bbS op p q xs ys = false ∧ bbL op p q xs ys = [] ∧ bbC op p q xs ys = 1 := by
  unfold bbS bbL bbC; rw [h]; exact ⟨rfl, rfl, rfl⟩
theorem bb_yes {op : Int} {p q : Bool} {xs ys : List Int} (h : bbG op p q xs ys = true) : bbS op p q xs ys = fitS (bopB op p q) (bbX op p q xs ys) ∧ bbL op p q xs ys = fitL (bbX op p q xs ys) ∧ bbC op p q xs ys = fitC (bbX op p q xs ys) := by
  unfold bbS bbL bbC; rw [h]; exact ⟨rfl, rfl, rfl⟩
theorem bigBit_any (op : Int) (p q : Bool) (v u : Value) (xs ys : List Int) (w : World) (hx : Rd w v xs) (hy : Rd w u ys) :
    Calls Try.prog 20 #[.int .i64 op, .agg #[.bool p, v], .agg #[.bool q, u]] w fun e w' => ∃ a c, e = .returned (.tuple #[.agg #[.bool (bbS op p q xs ys), .slice a (bbL op p q xs ys).length c], .int .i64 (bbC op p q xs ys)]) ∧ Own w' w.heap.size (.slice a (bbL op p q xs ys).length c) (bbL op p q xs ys) ∧ Below w.heap.size w w' := by
  cases hoA : okB p xs with
  | false =>
    obtain ⟨e1, e2, e3⟩ := bb_no (op := op) (q := q) (ys := ys) (by unfold bbG; rw [hoA]; rfl : bbG op p q xs ys = false)
    rw [e1, e2, e3]; exact bb_impl_a op p q v u xs ys w hx hy hoA
  | true =>
    cases hoB : okB q ys with
    | false =>
      obtain ⟨e1, e2, e3⟩ := bb_no (by unfold bbG; rw [hoA, hoB]; rfl : bbG op p q xs ys = false)
      rw [e1, e2, e3]; exact bb_impl_b op p q v u xs ys w hx hy hoA hoB
    | true =>
      by_cases h1 : op < 1
      · obtain ⟨e1, e2, e3⟩ := bb_no (by unfold bbG; rw [hoA, hoB, decide_eq_false (by omega)]; rfl : bbG op p q xs ys = false)
        rw [e1, e2, e3]; exact bb_impl_lo op p q v u xs ys w hx hy hoA hoB h1
      · by_cases h3 : 3 < op
        · obtain ⟨e1, e2, e3⟩ := bb_no (by unfold bbG; rw [hoA, hoB, decide_eq_false (by omega)]; rfl : bbG op p q xs ys = false)
          rw [e1, e2, e3]; exact bb_impl_hi op p q v u xs ys w hx hy hoA hoB h3
        · have ho : op = 1 ∨ op = 2 ∨ op = 3 := by omega
          obtain ⟨e1, e2, e3⟩ := bb_yes (by unfold bbG; rw [hoA, hoB, decide_eq_true ho]; rfl : bbG op p q xs ys = true)
          rw [e1, e2, e3]; exact bb_impl op p q v u xs ys w hx hy _ rfl hoA hoB ho
theorem bigBitS_any (op : Int) (p q : Bool) (v u : Value) (xs ys : List Int) (w : World) (hx : Rd w v xs) (hy : Rd w u ys) :
    Calls Try.prog 21 #[.int .i64 op, .agg #[.bool p, v], .agg #[.bool q, u]] w fun e w' => ∃ a c, e = .returned (.tuple #[.agg #[.bool (bbS op p q xs ys), .slice a (bbL op p q xs ys).length c], .int .i64 (bbC op p q xs ys)]) ∧ Own w' w.heap.size (.slice a (bbL op p q xs ys).length c) (bbL op p q xs ys) ∧ Below w.heap.size w w' := by
  cases hoA : okB p xs with
  | false =>
    obtain ⟨e1, e2, e3⟩ := bb_no (op := op) (q := q) (ys := ys) (by unfold bbG; rw [hoA]; rfl : bbG op p q xs ys = false)
    rw [e1, e2, e3]; exact bb_spec_a op p q v u xs ys w hx hy hoA
  | true =>
    cases hoB : okB q ys with
    | false =>
      obtain ⟨e1, e2, e3⟩ := bb_no (by unfold bbG; rw [hoA, hoB]; rfl : bbG op p q xs ys = false)
      rw [e1, e2, e3]; exact bb_spec_b op p q v u xs ys w hx hy hoA hoB
    | true =>
      by_cases h1 : op < 1
      · obtain ⟨e1, e2, e3⟩ := bb_no (by unfold bbG; rw [hoA, hoB, decide_eq_false (by omega)]; rfl : bbG op p q xs ys = false)
        rw [e1, e2, e3]; exact bb_spec_lo op p q v u xs ys w hx hy hoA hoB h1
      · by_cases h3 : 3 < op
        · obtain ⟨e1, e2, e3⟩ := bb_no (by unfold bbG; rw [hoA, hoB, decide_eq_false (by omega)]; rfl : bbG op p q xs ys = false)
          rw [e1, e2, e3]; exact bb_spec_hi op p q v u xs ys w hx hy hoA hoB h3
        · have ho : op = 1 ∨ op = 2 ∨ op = 3 := by omega
          obtain ⟨e1, e2, e3⟩ := bb_yes (by unfold bbG; rw [hoA, hoB, decide_eq_true ho]; rfl : bbG op p q xs ys = true)
          rw [e1, e2, e3]; exact bb_spec op p q v u xs ys w hx hy _ rfl hoA hoB ho
end Go.Proofs.Ythgpacajeaphhaa
