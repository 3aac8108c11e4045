import Derived.Test.YthgpacajeaphhaaBitsL
import Derived.Test.YthgpacajeaphhaaBits
import Derived.Test.YthgpacajeaphhaaZvP
import Derived.Test.YthgpacajeaphhaaMg4
import Derived.Test.YthgpacajeaphhaaMg5
import Derived.Test.YthgpacajeaphhaaLimOne
namespace Go.Proofs.Ythgpacajeaphhaa
open Go.RowKit
set_option linter.unusedVariables false
set_option linter.unusedSimpArgs false

/-- What BigBits answers. -/
def bitsR (neg : Bool) (zs : List Int) : Int := if okB neg zs = true then bitsN zs else -1

set_option maxRecDepth 100000 in
theorem bigBits_any (neg : Bool) (v : Value) (zs : List Int) (w : World) (hr : Rd w v zs) :
    Calls Try.prog 23 #[.agg #[.bool neg, v]] w fun e w' => e = .returned (.int .i64 (bitsR neg zs)) ∧ Below w.heap.size w w' := by
  have hok := bigOk_any neg v zs (w.alloc (Obj.cells #[.bool neg, v] 26)) (hr.alloc _)
  have hmag := fun W h => bitLength_any v zs W h
  have hr1 := hr.alloc (Obj.cells #[.bool neg, v] 26)
  obtain ⟨a, cap, rfl, hl, hz, hn0, hc⟩ := hr
  clear hc hn0
  cases hb : okB neg zs with
  | true =>
    have HR : Hid (bitsR neg zs = bitsN zs) := by unfold bitsR; exact if_pos hb
    rw [hb] at hok
    generalize bitsN zs = n at HR hmag
    clear hb
    go_enter Try.func23, Try.ntmps23
    go_wp2_with fail
    refine hok.mono ?_
    rintro e w1 ⟨rfl, hB⟩
    clear hok
    obtain ⟨hz1, p0, p1⟩ := (Box.new w (.bool neg) (.slice a zs.length cap) 26).keep hB
    go_wp2_with fail
    refine (hmag _ (hr1.keep hB)).mono ?_
    rintro e w2 ⟨rfl, rfl⟩
    clear hmag
    go_wp2
    go_ret
    exact ⟨by rw [HR.out]; rfl, below_of_alloc hB⟩
  | false =>
    have HR : Hid (bitsR neg zs = -1) := by unfold bitsR; exact if_neg (by rw [hb]; decide)
    rw [hb] at hok
    clear hb hmag
    go_enter Try.func23, Try.ntmps23
    go_wp2_with fail
    refine hok.mono ?_
    rintro e w1 ⟨rfl, hB⟩
    clear hok
    go_wp2
    go_ret
    exact ⟨by rw [HR.out]; rfl, below_of_alloc hB⟩

end Go.Proofs.Ythgpacajeaphhaa

namespace Go.Proofs.Ythgpacajeaphhaa
open Go.RowKit
set_option linter.unusedVariables false
set_option linter.unusedSimpArgs false

theorem bop_sum (n : Nat) : ∀ x y : Nat, x < 2 ^ n → y < 2 ^ n → bop 1 x y + bop 2 x y = x + y ∧ bop 2 x y = bop 1 x y + bop 3 x y := by
  induction n with
  | zero =>
    intro x y hx hy
    obtain rfl : x = 0 := by simpa using hx
    obtain rfl : y = 0 := by simpa using hy
    decide
  | succ n ih =>
    intro x y hx hy
    rw [Nat.pow_succ] at hx hy
    have hx1 : x = x % 2 + 2 ^ 1 * (x / 2) := by omega
    have hy1 : y = y % 2 + 2 ^ 1 * (y / 2) := by omega
    obtain ⟨i1, i2⟩ := ih (x / 2) (y / 2) (by omega) (by omega)
    have hb : ∀ op, bop op x y = bop op (x % 2) (y % 2) + 2 ^ 1 * bop op (x / 2) (y / 2) := fun op => by
      conv => lhs; rw [hx1, hy1]
      exact bop_step op 1 _ _ _ _ (by omega) (by omega)
    rw [hb 1, hb 2, hb 3]
    have hs : bop 1 (x % 2) (y % 2) + bop 2 (x % 2) (y % 2) = x % 2 + y % 2 ∧ bop 2 (x % 2) (y % 2) = bop 1 (x % 2) (y % 2) + bop 3 (x % 2) (y % 2) := by
      have h1 : x % 2 = 0 ∨ x % 2 = 1 := by omega
      have h2 : y % 2 = 0 ∨ y % 2 = 1 := by omega
      rcases h1 with h1 | h1 <;> rcases h2 with h2 | h2 <;> rw [h1, h2] <;> decide
    omega
/-- What BigBit's integer is. -/
def zB (op : Int) (p q : Bool) (xs ys : List Int) : Int := sgn (bopB op p q) (bbX op p q xs ys)
theorem bb_val (op : Int) (p q : Bool) (X Y K : Nat) (hX : X < 2 ^ K) (hY : Y < 2 ^ K) (hp : p = true → 0 < X) (hq : q = true → 0 < Y) :
    sgn (bopB op p q) (bbN op p q X Y K) = (bbV op p q X Y K : Int) - (if bopB op p q = true then (2 ^ (K + 32) : Nat) else (0 : Nat)) := by
  have h := bbV_lt op p q X Y K hX hY hp hq
  unfold bbN sgn
  split
  · omega
  · omega
theorem tw_val (p : Bool) (m X : Nat) (hX : X < 2 ^ m) : (tw p m X : Int) - (if p = true then (2 ^ m : Nat) else (0 : Nat)) = sgn p X := by
  unfold tw sgn
  split
  · omega
  · omega
theorem bb_sum (p q : Bool) (X Y K : Nat) (hX : X < 2 ^ K) (hY : Y < 2 ^ K) (hp : p = true → 0 < X) (hq : q = true → 0 < Y) :
    sgn (bopB 1 p q) (bbN 1 p q X Y K) + sgn (bopB 2 p q) (bbN 2 p q X Y K) = sgn p X + sgn q Y ∧ sgn (bopB 2 p q) (bbN 2 p q X Y K) - sgn (bopB 1 p q) (bbN 1 p q X Y K) = sgn (bopB 3 p q) (bbN 3 p q X Y K) := by
  have h1 : 2 ^ K ≤ 2 ^ (K + 32) := Nat.pow_le_pow_right (by decide) (by omega)
  obtain ⟨e1, e2⟩ := bop_sum (K + 32) (tw p (K + 32) X) (tw q (K + 32) Y) (tw_lt p _ X (by omega) hp) (tw_lt q _ Y (by omega) hq)
  rw [bb_val 1 p q X Y K hX hY hp hq, bb_val 2 p q X Y K hX hY hp hq, bb_val 3 p q X Y K hX hY hp hq, ← tw_val p (K + 32) X (by omega), ← tw_val q (K + 32) Y (by omega)]
  unfold bbV
  generalize bop 1 (tw p (K + 32) X) (tw q (K + 32) Y) = u1 at *
  generalize bop 2 (tw p (K + 32) X) (tw q (K + 32) Y) = u2 at *
  generalize bop 3 (tw p (K + 32) X) (tw q (K + 32) Y) = u3 at *
  generalize tw p (K + 32) X = t1 at *
  generalize tw q (K + 32) Y = t2 at *
  generalize 2 ^ (K + 32) = M at *
  cases p <;> cases q <;> simp [bopB] <;> omega
theorem zB_sum {p q : Bool} {xs ys : List Int} (hx : Limbs xs) (hy : Limbs ys) (g1 : okB p xs = true) (g2 : okB q ys = true) :
    zB 1 p q xs ys + zB 2 p q xs ys = iv p xs + iv q ys ∧ zB 2 p q xs ys - zB 1 p q xs ys = zB 3 p q xs ys := by
  have b1 : val xs < 2 ^ (32 * max xs.length ys.length) := by
    refine Nat.lt_of_lt_of_le (val_lt hx) ?_
    rw [R_pow]
    exact Nat.pow_le_pow_right (by decide) (by omega)
  have b2 : val ys < 2 ^ (32 * max xs.length ys.length) := by
    refine Nat.lt_of_lt_of_le (val_lt hy) ?_
    rw [R_pow]
    exact Nat.pow_le_pow_right (by decide) (by omega)
  exact bb_sum p q (val xs) (val ys) _ b1 b2 (fun h => by subst h; exact okB_pos hx g1) (fun h => by subst h; exact okB_pos hy g2)
theorem bitZ (op : Int) (ho : op = 1 ∨ op = 2 ∨ op = 3) {p q : Bool} {xs ys : List Int} (g1 : okB p xs = true) (g2 : okB q ys = true) :
    bbS op p q xs ys = zS true (zB op p q xs ys) ∧ bbL op p q xs ys = zL true (zB op p q xs ys) ∧ bbC op p q xs ys = zC true (zB op p q xs ys) := by
  have hg : bbG op p q xs ys = true := by unfold bbG; rw [g1, g2, decide_eq_true ho]; rfl
  obtain ⟨h1, h2, h3⟩ := bb_yes hg
  unfold zB
  rw [zS_sgn, zL_sgn, zC_sgn, h1, h2, h3]
  exact ⟨rfl, rfl, rfl⟩
/-- A move to the left, as an integer. -/
theorem shl_Z {p : Bool} {xs : List Int} (m : Nat) (hm : m ≤ 4096) : shS true p (val xs) m = zS true (sgn p (val xs * 2 ^ m)) ∧ shL true p (val xs) m = zL true (sgn p (val xs * 2 ^ m)) ∧ shC true (val xs) m = zC true (sgn p (val xs * 2 ^ m)) := by
  rw [zS_sgn, zL_sgn, zC_sgn]
  unfold shS shL shC opS opL opC
  rw [if_pos rfl, if_pos rfl, if_pos rfl, if_pos rfl, if_pos rfl, if_pos rfl]
  have n1 : ¬ (m : Int) < 0 := by omega
  have n2 : ¬ (4096 : Int) < (m : Int) := by omega
  by_cases h : val xs = 0
  · rw [if_pos h, if_pos h, if_pos h, h, Nat.zero_mul]
    unfold fitS fitL fitC nz
    rw [lim_zero]
    simp
  · rw [if_neg h, if_neg h, if_neg h, if_neg n1, if_neg n1, if_neg n1, if_neg n2, if_neg n2, if_neg n2]
    rw [Int.toNat_natCast]
    exact ⟨rfl, rfl, rfl⟩
theorem shl_back {p : Bool} {xs : List Int} (hx : Limbs xs) (g1 : okB p xs = true) (m : Nat) (hm : m ≤ 4096) (h0 : zC true (sgn p (val xs * 2 ^ m)) = 0) :
    okB (zS true (sgn p (val xs * 2 ^ m))) (zL true (sgn p (val xs * 2 ^ m))) = true ∧
    shS true (zS true (sgn p (val xs * 2 ^ m))) (val (zL true (sgn p (val xs * 2 ^ m)))) (-(m : Int)) = p ∧ shL true (zS true (sgn p (val xs * 2 ^ m))) (val (zL true (sgn p (val xs * 2 ^ m)))) (-(m : Int)) = xs ∧ shC true (val (zL true (sgn p (val xs * 2 ^ m)))) (-(m : Int)) = 0 := by
  refine ⟨(z_val h0).2, ?_⟩
  have hf := z_fit h0
  rw [sgn_abs] at hf
  have hn := okB_norm g1
  have hlx := lim_val hx hn.1
  have hl128 : (lim (val xs)).length ≤ 128 := by rw [hlx]; exact hn.2
  have eS : zS true (sgn p (val xs * 2 ^ m)) = nz p (val xs * 2 ^ m) := by rw [zS_sgn]; unfold opS; rw [if_pos rfl, (fit_yes hf p).2.2]
  have eL : val (zL true (sgn p (val xs * 2 ^ m))) = val xs * 2 ^ m := by rw [zL_sgn]; unfold opL; rw [if_pos rfl, (fit_yes hf p).1, val_lim]
  rw [eS, eL]
  have hp2 : 0 < 2 ^ m := Nat.pos_of_ne_zero (by simp)
  have hpx : nz p (val xs) = p := by
    have h := (z_ok hx g1).1
    unfold iv at h
    rw [zS_sgn] at h
    unfold opS at h
    rw [if_pos rfl, (fit_yes hl128 p).2.2] at h
    exact h
  unfold shS shL shC
  rw [if_pos rfl, if_pos rfl, if_pos rfl]
  by_cases h : val xs = 0
  · rw [h, Nat.zero_mul, if_pos rfl, if_pos rfl, if_pos rfl]
    rw [h] at hpx hlx
    rw [lim_zero] at hlx
    refine ⟨?_, hlx, rfl⟩
    rw [← hpx]; unfold nz; simp
  · have hne : ¬ val xs * 2 ^ m = 0 := by
      intro e
      rcases Nat.mul_eq_zero.mp e with e | e <;> omega
    have hnz : nz p (val xs * 2 ^ m) = p := by unfold nz; rw [decide_eq_true (by omega), Bool.and_true]
    rw [if_neg hne, if_neg hne, if_neg hne, hnz]
    by_cases hm0 : m = 0
    · subst hm0
      rw [if_neg (by decide), if_neg (by decide), if_neg (by decide), if_neg (by decide), if_neg (by decide), if_neg (by decide)]
      simp only [Nat.pow_zero, Nat.mul_one, Int.ofNat_zero, Int.neg_zero, Int.toNat_zero, Int.cast_ofNat_Int, Int.toNat_neg_natCast]
      rw [(fit_yes hl128 p).1, (fit_yes hl128 p).2.1, (fit_yes hl128 p).2.2]
      exact ⟨hpx, hlx, rfl⟩
    · have n1 : (-(m : Int)) < 0 := by omega
      rw [if_pos n1, if_pos n1, if_pos n1]
      have e1 : (min (-(-(m : Int))) 4096).toNat = m := by omega
      rw [e1]
      have e2 : flQ p (val xs * 2 ^ m) false (2 ^ m) = val xs := by
        unfold flQ
        rw [if_neg (by rw [Nat.mul_mod_left]; simp), Nat.mul_div_cancel _ hp2]
      rw [e2]
      exact ⟨hpx, hlx, rfl⟩
theorem bits_big {p : Bool} {xs : List Int} (hx : Limbs xs) (g1 : okB p xs = true) : ∃ k : Nat, bitsR p xs = (k : Int) ∧ k ≤ 4096 ∧ (zC true (sgn false (val (lim 1) * 2 ^ k)) = 0 → cmpA false xs (zS true (sgn false (val (lim 1) * 2 ^ k))) (zL true (sgn false (val (lim 1) * 2 ^ k))) = -1) := by
  have hn := okB_norm g1
  have hR : bitsR p xs = bitsN xs := by unfold bitsR; rw [if_pos g1]
  have hb : 0 ≤ bitsN xs ∧ bitsN xs ≤ 4096 ∧ val xs < 2 ^ (bitsN xs).toNat := by
    by_cases h0 : xs.length = 0
    · have : xs = [] := List.length_eq_zero_iff.mp h0
      subst this
      unfold bitsN
      simp [val]
    · have h1 := bits_val hx hn.1 h0
      have h2 : bitsN xs = 32 * ((xs.length : Int) - 1) + (Lib.bitLen (xs.getD (xs.length - 1) 0).toNat : Int) := by unfold bitsN; rw [if_neg h0]
      have h3 := val_lt hx
      rw [R_pow] at h3
      have h4 : 2 ^ (bitsN xs).toNat < 2 ^ (32 * xs.length + 1) := by rw [Nat.pow_succ]; omega
      have h5 : (bitsN xs).toNat < 32 * xs.length + 1 := (Nat.pow_lt_pow_iff_right (by decide)).mp h4
      refine ⟨by omega, by omega, h1.2⟩
  obtain ⟨b0, b1, b2⟩ := hb
  refine ⟨(bitsN xs).toNat, by omega, by omega, fun hz => ?_⟩
  have hk := (z_val hz).2
  have hf := z_fit hz
  rw [sgn_abs] at hf
  have eL : zL true (sgn false (val (lim 1) * 2 ^ (bitsN xs).toNat)) = lim (val (lim 1) * 2 ^ (bitsN xs).toNat) := by rw [zL_sgn]; unfold opL; rw [if_pos rfl, (fit_yes hf false).1]
  have eS : zS true (sgn false (val (lim 1) * 2 ^ (bitsN xs).toNat)) = false := by rw [zS_sgn]; unfold opS; rw [if_pos rfl, (fit_yes hf false).2.2]; unfold nz; rfl
  rw [eS, eL] at hk
  rw [eS, eL]
  have k4 : okB false xs = true := by
    have h := g1
    unfold okB at h ⊢
    by_cases h0 : xs.length = 0
    · rw [if_pos h0]; rfl
    · rw [if_neg h0] at h ⊢; exact h
  unfold cmpA
  rw [if_pos ⟨k4, hk⟩]
  unfold cmpR cmpN
  rw [val_lim, val_lim, Nat.one_mul]
  simp [b2]
end Go.Proofs.Ythgpacajeaphhaa
