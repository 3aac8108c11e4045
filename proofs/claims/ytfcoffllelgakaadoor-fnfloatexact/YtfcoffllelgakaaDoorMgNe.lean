import Derived.Test.YtfcoffllelgakaaDoorMgVY
import Derived.Test.YtfcoffllelgakaaDoorBase
import Derived.Test.YtfcoffllelgakaaDoorCut
import Derived.Deep.RegionHeld3
import Derived.Test.YtfcoffllelgakaaDoorMgIK
import Derived.Test.YtfcoffllelgakaaDoorFBigL
import Derived.Test.YtfcoffllelgakaaDoorMgBc
import Derived.Test.YtfcoffllelgakaaDoorMgDr
import Derived.Test.YtfcoffllelgakaaDoorOfB
namespace Go.Proofs.YtfcoffllelgakaaDoor
set_option linter.unusedVariables false
set_option linter.unusedSimpArgs false

/-- The float of a small whole number. -/
def flI (n : Int) : Nat := rndV (decide (n < 0)) n.natAbs 1
structure FlI (n : Int) : Prop where
  lt : frung (flI n) < 9218868437227405312
  neg : fneg (flI n) = decide (n < 0)
  un : fu (flI n) = n.natAbs * lowP
  w : flI n < 18446744073709551616
  noN : isN (flI n) = false
  noI : isI (flI n) = false
theorem flI_facts (n : Int) (h : n.natAbs < 9007199254740992) : FlI n := by
  have e : Ieee.double.nearest (decide (n < 0)) n.natAbs 0 = flI n := near_of _ _ (by decide) (by simp)
  have hl : n.natAbs.log2 ≤ 1023 := by
    have : n.natAbs.log2 ≤ 52 := log2_le' (by rw [two53]; exact h)
    omega
  obtain ⟨h1, h2, h3, h4⟩ := near_exact (decide (n < 0)) n.natAbs n.natAbs 0 (by simp) h hl lowE rfl
  rw [e] at h1 h2 h3 h4
  refine ⟨h1, h2, by rw [h3, low_eq], h4, isN_of h1, ?_⟩
  unfold isI; rw [decide_eq_false (by omega)]
theorem FlI.sg {n : Int} (h : FlI n) : sgn (fneg (flI n)) (fu (flI n)) = n * (lowP : Int) := by
  rw [h.neg, h.un, sgn_scale]
  congr 1
  unfold sgn
  by_cases hn : n < 0
  · rw [decide_eq_true hn, if_pos rfl]; omega
  · rw [decide_eq_false hn, if_neg (by decide)]; omega
theorem rnd_low (s : Bool) (k : Nat) : rndV s (k * lowP) lowP = rndV s k 1 := by
  rw [← near_of s (mag := k) 0 lowP_pos (by simp), ← near_of s (mag := k) 0 (by decide) (by simp)]
theorem sum_gen (a b : Nat) (k : Int) (ha : isN a = false) (hb : isN b = false) (ia : isI a = false) (ib : isI b = false) (hs : sumI a b = k * (lowP : Int)) (hz : k = 0 → (fneg a && fneg b) = false) : sumV a b = flI k := by
  have hp : (0 : Int) < (lowP : Int) := by have := lowP_pos; omega
  unfold sumV
  rw [ha, hb, ia, ib, if_neg (by simp), if_neg (by decide), if_neg (by decide)]
  by_cases h0 : k = 0
  · rw [if_pos (by rw [hs, h0, Int.zero_mul]), hz h0, h0]
    unfold flI rndV
    rw [if_pos (show Int.natAbs 0 = 0 from rfl)]
    rfl
  · have hne : ¬ sumI a b = 0 := by
      rw [hs]; intro h
      rcases Int.mul_eq_zero.1 h with h1 | h1 <;> omega
    rw [if_neg hne, hs, Int.natAbs_mul, Int.natAbs_natCast, rnd_low]
    have hd : decide (k * (lowP : Int) < 0) = decide (k < 0) := decide_eq_decide.2 (by
      constructor
      · intro h
        rcases Int.lt_or_le k 0 with h1 | h1
        · exact h1
        · have := Int.mul_nonneg h1 (Int.le_of_lt hp); omega
      · intro h; have := Int.mul_lt_mul_of_pos_right h hp; rw [Int.zero_mul] at this; exact this)
    rw [hd]
    rfl
theorem sum_fl {n m : Int} (hn : FlI n) (hm : FlI m) : sumV (flI n) (flI m) = flI (n + m) := by
  refine sum_gen _ _ _ hn.noN hm.noN hn.noI hm.noI ?_ ?_
  · unfold sumI; rw [hn.sg, hm.sg, Int.add_mul]
  · intro h
    rw [hn.neg, hm.neg]
    by_cases h1 : n < 0
    · rw [decide_eq_true h1, decide_eq_false (by omega)]; rfl
    · rw [decide_eq_false h1]; rfl
theorem fu_frung (x : Nat) : fu (frung x) = fu x := by
  have e1 : fexp (frung x) = fexp x := by unfold frung fexp; omega
  have e2 : ffrac (frung x) = ffrac x := by unfold frung ffrac; omega
  unfold fu
  rw [e1, e2]
theorem fu_flip (b : Nat) (h : b < 18446744073709551616) : fu (flipN b) = fu b := by
  rw [← fu_frung, (flip_facts b h).2.1, fu_frung]
theorem sub_fl {n m : Int} (hn : FlI n) (hm : FlI m) : sumV (flI n) (flipN (flI m)) = flI (n - m) := by
  obtain ⟨f0, f1, f2⟩ := flip_facts (flI m) hm.w
  have hN : isN (flipN (flI m)) = false := by unfold isN; rw [f1]; exact hm.noN
  have hI : isI (flipN (flI m)) = false := by unfold isI; rw [f1]; exact hm.noI
  refine sum_gen _ _ _ hn.noN hN hn.noI hI ?_ ?_
  · have e : sgn (fneg (flipN (flI m))) (fu (flipN (flI m))) = -(sgn (fneg (flI m)) (fu (flI m))) := by
      rw [f2, fu_flip _ hm.w]
      unfold sgn
      cases fneg (flI m) <;> simp
    unfold sumI
    rw [e, hn.sg, hm.sg, Int.sub_mul]
    omega
  · intro h
    rw [f2, hn.neg, hm.neg]
    by_cases h1 : n < 0
    · rw [decide_eq_true h1, decide_eq_true (by omega)]; rfl
    · rw [decide_eq_false h1]; rfl
theorem fq_fl {n : Int} (hn : FlI n) : fbS (flI n) = decide (n < 0) ∧ fbL (flI n) = lim n.natAbs ∧ fbC (flI n) = 0 := by
  have hb : fbad (flI n) = false := by unfold fbad; rw [hn.noN, hn.noI]; rfl
  obtain ⟨e1, e2, e3⟩ := fb_good hb
  have hq : fq (flI n) = n.natAbs := by unfold fq; rw [hn.un]; exact Nat.mul_div_cancel _ lowP_pos
  rw [e1, e2, e3, hq, hn.neg]
  refine ⟨?_, rfl, rfl⟩
  unfold nz
  by_cases h : n < 0
  · rw [decide_eq_true h, decide_eq_true (by omega)]; rfl
  · rw [decide_eq_false h]; rfl
theorem cmp_fl {n m : Int} (hn : FlI n) (hm : FlI m) : ordI (Ieee.double.order (flI n) (flI m)) = ordI (some (compare n m)) := by
  rw [order_fin _ _ hn.lt hm.lt, hn.sg, hm.sg, cmp_scale _ _ _ lowP_pos]
theorem ok_lim {p : Bool} {N : Nat} (hl : (lim N).length ≤ 128) (h : N = 0 → p = false) : okB p (lim N) = true := by
  unfold okB
  have hn := lim_norm N
  by_cases h0 : (lim N).length = 0
  · rw [if_pos h0, h (lim_eq_nil.1 (List.length_eq_zero_iff.1 h0))]; rfl
  · rw [if_neg h0]
    rcases hn with h1 | h1
    · exact absurd h1 h0
    · simp [hl]; simpa using h1
theorem ok_int (n : Int) (h : n.natAbs < 9007199254740992) : okB (decide (n < 0)) (lim n.natAbs) = true := by
  refine ok_lim ?_ (fun h0 => by rw [decide_eq_false (by omega)])
  exact Nat.le_trans (lim_length_le (n := n.natAbs) (k := 2) (Nat.lt_trans h (by decide))) (by decide)
theorem ofB_fl (n : Int) (h : n.natAbs < 9007199254740992) : ofBX (decide (n < 0)) (lim n.natAbs) = flI n ∧ ofBC (decide (n < 0)) (lim n.natAbs) = 0 := by
  have hF := flI_facts n h
  unfold ofBX ofBC
  rw [if_pos (ok_int n h), if_pos (ok_int n h), val_lim]
  have : isI (rndV (decide (n < 0)) n.natAbs 1) = false := hF.noI
  rw [this, if_neg (by decide), if_neg (by decide)]
  exact ⟨rfl, rfl⟩
theorem sgn_int (n : Int) : sgn (decide (n < 0)) n.natAbs = n := by
  unfold sgn
  by_cases h : n < 0
  · rw [decide_eq_true h, if_pos rfl]; omega
  · rw [decide_eq_false h, if_neg (by decide)]; omega
theorem nz_int (n : Int) : nz (decide (n < 0)) n.natAbs = decide (n < 0) := by
  unfold nz
  by_cases h : n < 0
  · rw [decide_eq_true h, decide_eq_true (by omega)]; rfl
  · rw [decide_eq_false h]; rfl
theorem cmpA_int {n m : Int} (hn : n.natAbs < 9007199254740992) (hm : m.natAbs < 9007199254740992) : cmpA (decide (n < 0)) (lim n.natAbs) (decide (m < 0)) (lim m.natAbs) = ordI (some (compare n m)) := by
  unfold cmpA
  rw [if_pos ⟨ok_int n hn, ok_int m hm⟩, val_lim, val_lim]
  have := order_cmpR (decide (n < 0)) (decide (m < 0)) n.natAbs m.natAbs
  rw [nz_int, nz_int, sgn_int, sgn_int] at this
  exact this
theorem bfc_int {n m : Int} (hn : n.natAbs < 9007199254740992) (hm : FlI m) : bfc (decide (n < 0)) (lim n.natAbs) (flI m) = ordI (some (compare n m)) := by
  unfold bfc
  rw [if_pos ⟨ok_int n hn, hm.noN⟩, hm.noI, if_neg (by decide), val_lim, sgn_int, hm.sg, ← ordI_cmp, cmp_scale _ _ _ lowP_pos]
theorem next_fl {n : Int} (hn : FlI n) : flI n + 1 < 18446744073709551616 ∧ ∃ c, ordI (Ieee.double.order (flI n + 1) (flI n)) = c ∧ ¬ c = 0 := by
  have hl := hn.lt
  have hw := hn.w
  have e1 : frung (flI n + 1) = frung (flI n) + 1 := by unfold frung at *; omega
  have e2 : fneg (flI n + 1) = fneg (flI n) := by
    unfold fneg
    have : (flI n + 1) / 9223372036854775808 = flI n / 9223372036854775808 := by unfold frung at *; omega
    rw [this]
  refine ⟨by unfold frung at *; omega, _, rfl, ?_⟩
  by_cases hi : frung (flI n) + 1 = 9218868437227405312
  · rw [order_inf_num _ _ (by omega) hl]
    cases fneg (flI n + 1) <;> decide
  · rw [order_fin _ _ (by omega) hl, e2]
    have hm := fu_mono (a := frung (flI n)) (b := frung (flI n + 1)) (by omega) (by omega)
    rw [fu_frung, fu_frung] at hm
    have key : ∀ x y : Int, ¬ x = y → ¬ ordI (some (compare x y)) = 0 := by
      intro x y h
      rcases Int.lt_trichotomy x y with h1 | h1 | h1
      · rw [Int.compare_eq_lt.2 h1]; decide
      · exact absurd h1 h
      · rw [Int.compare_eq_gt.2 h1]; decide
    refine key _ _ ?_
    unfold sgn
    cases fneg (flI n) <;> simp <;> omega
end Go.Proofs.YtfcoffllelgakaaDoor

namespace Go.Proofs.YtfcoffllelgakaaDoor
open Go.RowKit
set_option linter.unusedVariables false
set_option linter.unusedSimpArgs false

theorem rem_small (x : Int) : (x.tmod 1125899906842624).natAbs < 1125899906842624 := by
  rw [Int.natAbs_tmod]
  exact Nat.mod_lt _ (by decide)
set_option maxHeartbeats 1500000 in
set_option maxRecDepth 100000 in
theorem law_floatexact (a : Option Addr) (n c : Nat) (bs : List Int) (a2 : Option Addr) (n2 c2 : Nat) (bs2 : List Int) (w : World) (hn : n ≤ 9223372036854775807) (h : n ≤ 1048576 → Src w a n c bs) (hn2 : n2 ≤ 9223372036854775807) (h2 : n2 ≤ 1048576 → Src w a2 n2 c2 bs2) (hEx : ∃ aA aZ aL, Errs w aA aZ aL) :
    Calls Tryd.prog 5 #[.slice a n c, .slice a2 n2 c2] w fun e w' => e = .returned (.bool true) ∧ Below w.heap.size w w' := by
  obtain ⟨aA, aZ, aL, hE⟩ := hEx
  go_enter Tryd.func5, Tryd.ntmps5
  go_wp2_with fail
  refine (bigD_any w a n c).mono ?_
  rintro e w1 ⟨rfl, rfl⟩
  by_cases hb : (1048576 : Int) < (n : Int)
  · rw [decide_eq_true hb]
    go_wp2
    go_ret
    exact ⟨rfl, Below.refl _ _⟩
  rw [decide_eq_false hb]
  have hs := h (by omega)
  clear h hb hn
  go_wp2_with fail
  refine (bigD_any w1 a2 n2 c2).mono ?_
  rintro e w2 ⟨rfl, rfl⟩
  by_cases hb : (1048576 : Int) < (n2 : Int)
  · rw [decide_eq_true hb]
    go_wp2
    go_ret
    exact ⟨rfl, Below.refl _ _⟩
  rw [decide_eq_false hb]
  have hs2 := h2 (by omega)
  clear h2 hb hn2
  go_wp2_with fail
  refine (drawBigOf_any _ a n c bs hs).mono ?_
  rintro e w3 ⟨x, rfl, x1, x2, b3⟩
  have hxs := rem_small x
  go_wp2_with fail
  refine (drawBigOf_any _ a2 n2 c2 bs2 (hs2.keep b3)).mono ?_
  rintro e w4 ⟨y, rfl, y1, y2, b4⟩
  have hys := rem_small y
  have V4 := b3.trans (b4.mono b3.size)
  go_upto_region 5 with fail
  generalize x.tmod 1125899906842624 = N at *
  generalize y.tmod 1125899906842624 = M at *
  have N1 : -9223372036854775808 ≤ N := by omega
  have N2 : N ≤ 9223372036854775807 := by omega
  have M1 : -9223372036854775808 ≤ M := by omega
  have M2 : M ≤ 9223372036854775807 := by omega
  obtain ⟨Sm, hSm⟩ : ∃ Sm : Int, N + M = Sm := ⟨_, rfl⟩
  obtain ⟨Df, hDf⟩ : ∃ Df : Int, N - M = Df := ⟨_, rfl⟩
  have FN := flI_facts N (by omega)
  have FM := flI_facts M (by omega)
  have FS := flI_facts Sm (by omega)
  have FD := flI_facts Df (by omega)
  have ln := FN.w
  have lm := FM.w
  have ls := FS.w
  have ld := FD.w
  obtain ⟨o1, o2⟩ := ofB_fl N (by omega)
  obtain ⟨o3, o4⟩ := ofB_fl M (by omega)
  have HBn := fun (W : World) => bigOf_any N W (by omega) (by omega)
  have HBm := fun (W : World) => bigOf_any M W (by omega) (by omega)
  have HSn := fun (W : World) => bigOfS_any N W (by omega) (by omega)
  have HSm := fun (W : World) => bigOfS_any M W (by omega) (by omega)
  have HSs := fun (W : World) => bigOfS_any Sm W (by omega) (by omega)
  have HSd := fun (W : World) => bigOfS_any Df W (by omega) (by omega)
  have HFn := fun (W : World) v hE h => floatOfBig_any (decide (N < 0)) v (lim N.natAbs) aA aZ aL W hE h
  have HFm := fun (W : World) v hE h => floatOfBig_any (decide (M < 0)) v (lim M.natAbs) aA aZ aL W hE h
  rw [o1, o2] at HFn
  rw [o3, o4] at HFm
  have HAd := fun (W : World) hE => floatOp_any 1 (flI N) (flI M) aA aZ aL W hE ln lm
  rw [foV_1, sum_fl FN FM, foC_low (by decide) (by decide), hSm] at HAd
  have HSb := fun (W : World) hE => floatOp_any 2 (flI N) (flI M) aA aZ aL W hE ln lm
  rw [foV_2, FM.noN, if_neg (by decide), sub_fl FN FM, foC_low (by decide) (by decide), hDf] at HSb
  obtain ⟨q1, q2, q3⟩ := fq_fl FS
  obtain ⟨q4, q5, q6⟩ := fq_fl FD
  have HGs := fun (W : World) hE => floatBig_any ((flI Sm : Nat) : Int) aA aZ aL W (by omega) (by omega) hE
  rw [Int.toNat_natCast, q1, q2, q3] at HGs
  have HGd := fun (W : World) hE => floatBig_any ((flI Df : Nat) : Int) aA aZ aL W (by omega) (by omega) hE
  rw [Int.toNat_natCast, q4, q5, q6] at HGd
  have HCm := fun (W : World) => floatCmp_any ((flI N : Nat) : Int) ((flI M : Nat) : Int) W (by omega) (by omega) (by omega) (by omega)
  rw [Int.toNat_natCast, Int.toNat_natCast, cmp_fl FN FM] at HCm
  obtain ⟨nx, cN, hcN, hcz⟩ := next_fl FN
  have HCx := fun (W : World) => floatCmp_any ((flI N + 1 : Nat) : Int) ((flI N : Nat) : Int) W (by omega) (by omega) (by omega) (by omega)
  rw [Int.toNat_natCast, Int.toNat_natCast, hcN] at HCx
  have HBc := fun (W : World) v u h1 h2 => bigCmpS_any (decide (N < 0)) (decide (M < 0)) v u (lim N.natAbs) (lim M.natAbs) W h1 h2
  rw [cmpA_int (by omega) (by omega)] at HBc
  have HBf := fun (W : World) v h hE => bigFloatCmp_any (decide (N < 0)) v (lim N.natAbs) ((flI M : Nat) : Int) aA W h (by omega) (by omega) hE
  rw [Int.toNat_natCast, bfc_int (by omega) FM] at HBf
  have HDs := fun (W : World) v u h1 h2 => sameBig_any (decide (Sm < 0)) v u (lim Sm.natAbs) W h1 h2
  have HDd := fun (W : World) v u h1 h2 => sameBig_any (decide (Df < 0)) v u (lim Df.natAbs) W h1 h2
  have hN1 : ((flI N : Nat) : Int) + 1 = ((flI N + 1 : Nat) : Int) := by omega
  have hnx : ((flI N + 1 : Nat) : Int) < 18446744073709551616 := by omega
  have hczb : (cN == 0) = false := by rw [beq_eq_false_iff_ne]; exact hcz
  have E4 := hE.below V4
  have n1' : -1125899906842624 < N := by omega
  have n2' : N < 1125899906842624 := by omega
  have m1' : -1125899906842624 < M := by omega
  have m2' : M < 1125899906842624 := by omega
  clear o1 o2 o3 o4 q1 q2 q3 q4 q5 q6 FN FM FS FD hcN hcz hxs hys hE hs hs2 b3 b4 x1 x2 y1 y2 N1 N2 M1 M2 ls ld ln lm
  generalize ordI (some (compare N M)) = CC at *
  generalize hAN : flI N + 1 = AN at *
  clear hAN
  generalize flI N = A at *
  generalize flI M = B at *
  generalize flI Sm = FSm at *
  generalize flI Df = FDf at *
  generalize decide (N < 0) = pN at *
  generalize decide (M < 0) = pM at *
  generalize decide (Sm < 0) = pS at *
  generalize decide (Df < 0) = pD at *
  generalize lim N.natAbs = LN at *
  generalize lim M.natAbs = LM at *
  generalize lim Sm.natAbs = LS at *
  generalize lim Df.natAbs = LD at *
  obtain ⟨A1, hA1⟩ : ∃ A1 : Int, ((AN : Nat) : Int) = A1 := ⟨_, rfl⟩
  rw [hA1] at hN1 hnx HCx
  clear hA1
  have hA0 : 0 ≤ A1 := by omega
  go_wp2_with fail
  refine (HBn _).mono ?_
  rintro e w5 ⟨a5, c5, rfl, O5, b5⟩
  have V5 := V4.trans (b5.mono V4.size)
  have E5 := E4.below b5
  go_wp2_with fail
  refine (HFn _ _ E5 O5.rd).mono ?_
  rintro e w6 ⟨rfl, b6⟩
  have V6 := V5.trans (b6.mono V5.size)
  have E6 := E5.below b6
  clear O5 E5 V5 b5 b6 HBn HFn E4 V4
  go_wp2_with fail
  refine (HBm _).mono ?_
  rintro e w7 ⟨a7, c7, rfl, O7, b7⟩
  have V7 := V6.trans (b7.mono V6.size)
  have E7 := E6.below b7
  go_wp2_with fail
  refine (HFm _ _ E7 O7.rd).mono ?_
  rintro e w8 ⟨rfl, b8⟩
  have V8 := V7.trans (b8.mono V7.size)
  have E8 := E7.below b8
  clear O7 E7 V7 b7 b8 HBm HFm E6 V6
  go_wp2_with fail
  refine (HAd _ E8).mono ?_
  rintro e w9 ⟨rfl, b9⟩
  have V9 := V8.trans (b9.mono V8.size)
  have E9 := E8.below b9
  go_wp2_with fail
  refine (HSb _ E9).mono ?_
  rintro e w10 ⟨rfl, b10⟩
  have V10 := V9.trans (b10.mono V9.size)
  have E10 := E9.below b10
  clear E8 E9 V8 V9 b9 b10 HAd HSb
  go_wp2_with fail
  refine (HGs _ E10).mono ?_
  rintro e w11 ⟨a11, c11, rfl, O11, b11⟩
  have V11 := (V10.trans (b11.mono V10.size)).alloc (by have := V10.size; have := b11.size; omega) (Obj.cells #[.bool pS, .slice a11 LS.length c11] 29)
  have al11 : Below w11.heap.size w11 (w11.alloc (Obj.cells #[.bool pS, .slice a11 LS.length c11] 29)) := (Below.refl _ _).alloc (Nat.le_refl _) _
  have E11 := (E10.below b11).below al11
  have rS := O11.rd.alloc (Obj.cells #[.bool pS, .slice a11 LS.length c11] 29)
  have bS := Box.new w11 (.bool pS) (.slice a11 LS.length c11) 29
  clear O11 b11 al11 E10 V10 HGs
  go_upto_region 10 with fail
  obtain ⟨g11, hg11⟩ : ∃ g, w11.heap.size = g := ⟨_, rfl⟩
  rw [hg11] at bS
  try rw [hg11]
  generalize w11.alloc (Obj.cells #[.bool pS, .slice a11 LS.length c11] 29) = w12 at *
  clear hg11
  go_wp2_with fail
  refine (HGd _ E11).mono ?_
  rintro e w13 ⟨a13, c13, rfl, O13, b13⟩
  have V13 := (V11.trans (b13.mono V11.size)).alloc (by have := V11.size; have := b13.size; omega) (Obj.cells #[.bool pD, .slice a13 LD.length c13] 29)
  have al13 : Below w13.heap.size w13 (w13.alloc (Obj.cells #[.bool pD, .slice a13 LD.length c13] 29)) := (Below.refl _ _).alloc (Nat.le_refl _) _
  have E13 := (E11.below b13).below al13
  have rD := O13.rd.alloc (Obj.cells #[.bool pD, .slice a13 LD.length c13] 29)
  have bD := Box.new w13 (.bool pD) (.slice a13 LD.length c13) 29
  have rS3 := (rS.keep b13).keep al13
  have bS3 := (bS.keep b13).keep al13
  clear O13 b13 al13 E11 V11 HGd rS bS
  go_upto_region 11 with fail
  obtain ⟨g13, hg13⟩ : ∃ g, w13.heap.size = g := ⟨_, rfl⟩
  rw [hg13] at bD
  try rw [hg13]
  generalize w13.alloc (Obj.cells #[.bool pD, .slice a13 LD.length c13] 29) = w14 at *
  clear hg13
  go_wp2_with fail
  refine (HCm _).mono ?_
  rintro e w15 ⟨rfl, hw15⟩
  rw [hw15]
  clear hw15 w15 HCm
  obtain ⟨-, k0, k1⟩ := id bS3
  obtain ⟨-, k2, k3⟩ := id bD
  obtain ⟨⟨gA, -, -⟩, -⟩ := id E13
  have EA : ErrA w14 aA := gA
  clear gA
  have hwS : IntKind.i64.wrap Sm = Sm := by rw [IntKind.wrap_i64]; omega
  have hwD : IntKind.i64.wrap Df = Df := by rw [IntKind.wrap_i64]; omega
  have hwA : IntKind.u64.wrap A1 = A1 := by rw [IntKind.wrap_u64]; omega
  have hcc : (CC == CC) = true := by simp
  have hbne : (cN != 0) = true := by rw [bne, hczb]; rfl
  clear n1' n2' m1' m2' nx hnx hA0
  go_upto_region 14 with fail
  go_region_held3 (fun W => W.cell? ⟨g11, 0, none⟩ = some (.bool pS) ∧ W.cell? ⟨g11, 1, none⟩ = some (.slice a11 LS.length c11) ∧ W.cell? ⟨g13, 0, none⟩ = some (.bool pD) ∧ W.cell? ⟨g13, 1, none⟩ = some (.slice a13 LD.length c13)) (go_keep) (first | (go_at_call 18; refine (HDd _ _ _ rD3 O23.rd).mono ?_; rintro e w24 ⟨rfl, b24⟩; have V24 := V23.trans (b24.mono V23.size); have EA24 := EA23.below b24; have bS24 := bS23.keep b24; have bD24 := bD23.keep b24; obtain ⟨-, s4, s5⟩ := id bS24; obtain ⟨-, s6, s7⟩ := id bD24) | (go_at_call 18; refine (HDs _ _ _ rS1 O21.rd).mono ?_; rintro e w22 ⟨rfl, b22⟩; have V22 := V21.trans (b22.mono V21.size); have EA22 := EA21.below b22; have bS22 := bS21.keep b22; have bD22 := bD21.keep b22; have rD2 := rD1.keep b22; obtain ⟨-, s8, s9⟩ := id bS22; obtain ⟨-, t0, t1⟩ := id bD22) | (go_at_call_of 19 (Value.int IntKind.i64 Sm); refine (HSs _).mono ?_; rintro e w21 ⟨a21, c21, rfl, O21, b21⟩; have V21 := V13.drew.trans (b21.mono (by have := V13.size; simp; omega)); have EA21 := EA.below ((Below.refl _ w14).drew.trans b21); have bS21 := bS3.drew.keep b21; have bD21 := bD.drew.keep b21; have rS1 := rS3.drew.keep b21; have rD1 := rD.drew.keep b21; obtain ⟨-, s0, s1⟩ := id bS21; obtain ⟨-, s2, s3⟩ := id bD21) | (go_at_call_of 19 (Value.int IntKind.i64 Df); refine (HSd _).mono ?_; rintro e w23 ⟨a23, c23, rfl, O23, b23⟩; have V23 := V22.trans (b23.mono V22.size); have EA23 := EA22.below b23; have bS23 := bS22.keep b23; have bD23 := bD22.keep b23; have rD3 := rD2.keep b23; obtain ⟨-, t2, t3⟩ := id bS23; obtain ⟨-, t4, t5⟩ := id bD23) | (go_at_call_of 19 (Value.int IntKind.i64 N); have VV := V27; refine (HSn _).mono ?_; rintro e w28 ⟨a28, c28, rfl, O28, b28⟩; have V28 := V27.trans (b28.mono V27.size); have EA28 := EA27.below b28; have bS28 := bS27.keep b28; have bD28 := bD27.keep b28; obtain ⟨-, u28a, u28b⟩ := id bS28; obtain ⟨-, u28c, u28d⟩ := id bD28) | (go_at_call_of 19 (Value.int IntKind.i64 N); refine (HSn _).mono ?_; rintro e w25 ⟨a25, c25, rfl, O25, b25⟩; have V25 := V24.trans (b25.mono V24.size); have EA25 := EA24.below b25; have bS25 := bS24.keep b25; have bD25 := bD24.keep b25; obtain ⟨-, u25a, u25b⟩ := id bS25; obtain ⟨-, u25c, u25d⟩ := id bD25) | (go_at_call_of 19 (Value.int IntKind.i64 M); refine (HSm _).mono ?_; rintro e w26 ⟨a26, c26, rfl, O26, b26⟩; have V26 := V25.trans (b26.mono V25.size); have EA26 := EA25.below b26; have r25 := O25.rd.keep b26; have bS26 := bS25.keep b26; have bD26 := bD25.keep b26; obtain ⟨-, u26a, u26b⟩ := id bS26; obtain ⟨-, u26c, u26d⟩ := id bD26) | (go_at_call 20; refine (HBc _ _ _ r25 O26.rd).mono ?_; rintro e w27 ⟨rfl, b27⟩; have V27 := V26.trans (b27.mono V26.size); have EA27 := EA26.below b27; have bS27 := bS26.keep b27; have bD27 := bD26.keep b27; obtain ⟨-, u27a, u27b⟩ := id bS27; obtain ⟨-, u27c, u27d⟩ := id bD27) | (go_at_call 21; refine (HBf _ _ O28.rd EA28).mono ?_; rintro e w29 ⟨rfl, b29⟩; have V29 := V28.trans (b29.mono V28.size); have bS29 := bS28.keep b29; have bD29 := bD28.keep b29; obtain ⟨-, u29a, u29b⟩ := id bS29; obtain ⟨-, u29c, u29d⟩ := id bD29) | (go_at_call 17; refine (HCx _).mono ?_; rintro e w30 ⟨rfl, hw30⟩; rw [hw30]; clear hw30 w30))
  all_goals go_wp2
  all_goals go_ret
  all_goals exact ⟨rfl, V29⟩
end Go.Proofs.YtfcoffllelgakaaDoor
