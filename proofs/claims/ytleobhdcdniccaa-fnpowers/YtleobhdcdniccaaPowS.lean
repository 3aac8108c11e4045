import Derived.Test.YtleobhdcdniccaaPowN
import Derived.Test.YtleobhdcdniccaaFloorX
import Derived.Deep.CutRange
import Derived.Test.YtleobhdcdniccaaMulS
import Derived.Test.YtleobhdcdniccaaCut
namespace Go.Proofs.Ytleobhdcdniccaa
open Go.RowKit
set_option linter.unusedVariables false
set_option linter.unusedSimpArgs false

theorem len_mono {a b : Nat} (h : a ≤ b) : (lim a).length ≤ (lim b).length := by
  rcases Nat.lt_or_ge (lim b).length (lim a).length with h1 | h1
  · have h2 := val_lt_of_len (lim_limbs b) (lim_limbs a) (lim_norm a) h1
    rw [val_lim, val_lim] at h2; omega
  · exact h1

set_option maxHeartbeats 100000000 in
set_option maxRecDepth 100000 in
/-- The loop of the specification's power: numbers of two binary digits and more. -/
theorem bigPowS_loop (p : Bool) (v : Value) (xs : List Int) (m : Nat) (w : World) (hx : Rd w v xs) (hok : okB p xs = true) (h1 : (m : Int) ≤ 9223372036854775807) (hm : 1 ≤ m) (hb2 : 2 ≤ bitsN xs) (hv2 : 2 ≤ val xs) :
    Calls Try.prog 26 #[.agg #[.bool p, v], .int .i64 m] w fun e w' => ∃ a c, e = .returned (.tuple #[.agg #[.bool (fitS (p && decide ((m : Int) % 2 = 1)) (val xs ^ m)), .slice a (fitL (val xs ^ m)).length c], .int .i64 (fitC (val xs ^ m))]) ∧ Own w' w.heap.size (.slice a (fitL (val xs ^ m)).length c) (fitL (val xs ^ m)) ∧ Below w.heap.size w w' := by
  have hnm := okB_norm hok
  have hokA := bigOkS_any p v xs ((w.alloc (Obj.cells #[.bool p, v] 26)).alloc (Obj.cells #[.bool false, .slice none 0 0] 26)) ((hx.alloc _).alloc _)
  rw [hok] at hokA
  have bA := (Box.new w (.bool p) v 26).alloc (Obj.cells #[.bool false, .slice none 0 0] 26)
  have bR := Box.new (w.alloc (Obj.cells #[.bool p, v] 26)) (.bool false) (.slice none 0 0) 26
  have fR := Unf.new (w.alloc (Obj.cells #[.bool p, v] 26)) #[.bool false, .slice none 0 0] 26
  have hW := ((Below.refl w.heap.size w).alloc (Nat.le_refl _) (Obj.cells #[.bool p, v] 26)).alloc (by simp) (Obj.cells #[.bool false, .slice none 0 0] 26)
  simp only [World.size_alloc] at bR fR
  have hx0 := hx
  obtain ⟨a, cap, rfl, hl, hz, hn0, hc⟩ := hx
  clear hc hn0 hok
  have hbl := fun W h => bitsMag_any (.slice a xs.length cap) xs W h
  generalize bitsN xs = bz at hbl hb2
  have h1W := fun W => bigOfS_any 1 W (by omega) (by omega)
  rw [show decide ((1 : Int) < 0) = false from rfl, show (1 : Int).natAbs = 1 from rfl] at h1W
  -- the powers, behind a name
  obtain ⟨P, hP⟩ : ∃ P : Nat → List Int, P = fun k => lim (val xs ^ k) := ⟨_, rfl⟩
  obtain ⟨sg, hsg⟩ : ∃ sg : Nat → Bool, sg = fun (k : Nat) => p && decide ((k : Int) % 2 = 1) := ⟨_, rfl⟩
  have e0 : lim 1 = P 0 := by subst hP; simp
  have eV : ∀ k, val (P k) = val xs ^ k := fun k => by subst hP; exact val_lim _
  have hM := fun k u (W : World) (ho : Rd W u (P k)) (hz : Rd W (.slice a xs.length cap) xs) (h2 : (P k).length ≤ 128) => mulMag_any u (.slice a xs.length cap) (P k) xs W ho hz (by omega) (by omega)
  have e3 : ∀ k, lim (val (P k) * val xs) = P (k + 1) := fun k => by rw [eV]; subst hP; simp only; rw [Nat.pow_succ]
  simp only [e3] at hM
  have hG := fun k u (W : World) (ho : Rd W u (P (k + 1))) => l1Big_any (sg k != p) u (P (k + 1)) W ho
  have e6 : ∀ k, nz (sg k != p) (val (P (k + 1))) = sg (k + 1) := fun k => by
    have : 0 < val xs ^ (k + 1) := Nat.pow_pos (by omega)
    rw [eV]; unfold nz; rw [decide_eq_true this, Bool.and_true]; subst hsg
    cases p
    · rfl
    · simp only [Bool.true_and]
      by_cases h : (k : Int) % 2 = 1
      · rw [decide_eq_true h, decide_eq_false (by omega)]; rfl
      · rw [decide_eq_false h, decide_eq_true (by omega)]; rfl
  have e7 : ∀ k, lim (val (P (k + 1))) = P (k + 1) := fun k => by rw [eV]; subst hP; rfl
  simp only [e6, e7] at hG
  rw [e0] at h1W
  have hs0 : sg 0 = false := by subst hsg; simp
  have hno : ∀ k, k ≤ m → ¬ (P k).length ≤ 128 → fitL (val xs ^ m) = [] ∧ fitC (val xs ^ m) = 3 ∧ fitS (p && decide ((m : Int) % 2 = 1)) (val xs ^ m) = false := fun k hk h => by
    refine fit_no (fun h2 => h ?_) _
    subst hP
    exact Nat.le_trans (len_mono (Nat.pow_le_pow_right (by omega) hk)) h2
  have hyes : (P m).length ≤ 128 → fitL (val xs ^ m) = P m ∧ fitC (val xs ^ m) = 0 ∧ fitS (p && decide ((m : Int) % 2 = 1)) (val xs ^ m) = sg m := fun h => by
    have := fit_yes (n := val xs ^ m) (by subst hP; exact h) (p && decide ((m : Int) % 2 = 1))
    refine ⟨by subst hP; exact this.1, this.2.1, ?_⟩
    rw [this.2.2]; subst hsg
    have h3 : 0 < val xs ^ m := Nat.pow_pos (by omega)
    unfold nz; rw [decide_eq_true h3, Bool.and_true]
  generalize fitS (p && decide ((m : Int) % 2 = 1)) (val xs ^ m) = S at hno hyes ⊢
  generalize fitL (val xs ^ m) = L at hno hyes ⊢
  generalize fitC (val xs ^ m) = C at hno hyes ⊢
  have HNO : Hid _ := hno
  have HYES : Hid _ := hyes
  have hP0 : (P 0).length ≤ 128 := by rw [← e0, lim_one]; simp
  clear hno hyes eV e3 e6 e7 hP hsg e0
  have hm0 : ((m : Int) == 0) = false := beq_len0 (by omega)
  go_enter Try.func26, Try.ntmps26
  go_wp2_with fail
  refine hokA.mono ?_
  rintro e w1 ⟨rfl, hB⟩
  clear hokA
  replace bA := bA.keep hB
  replace bR := bR.keep hB
  replace fR := fR.keep hB
  replace hW := hW.trans (hB.mono hW.size)
  clear hB
  obtain ⟨-, k0, k1⟩ := id bA
  go_wp2_with fail
  refine (hbl _ (hx0.keep hW)).mono ?_
  rintro e w2 ⟨rfl, rfl⟩
  clear hbl
  go_wp2_with fail
  refine (h1W _).mono ?_
  rintro e w3 ⟨a3, c3, rfl, hO3, hB⟩
  clear h1W k0 k1
  have hWl := hW.size
  have hw31 : w.heap.size + 1 < w2.heap.size := bR.1
  have hw23 := hB.size
  have hb3 : w.heap.size + 1 < w3.heap.size := (bR.keep hB).1
  replace bA := (bA.keep hB).alloc (Obj.cells #[.bool false, .slice a3 (P 0).length c3] 26)
  replace bR := (bR.keep hB).alloc (Obj.cells #[.bool false, .slice a3 (P 0).length c3] 26)
  replace fR := (fR.keep hB).keep ((Below.refl _ _).alloc (Nat.le_refl _) (Obj.cells #[.bool false, .slice a3 (P 0).length c3] 26))
  have bO := Box.new w3 (.bool false) (.slice a3 (P 0).length c3) 26
  have fO := Unf.new w3 #[.bool false, .slice a3 (P 0).length c3] 26
  replace hW := (hW.trans (hB.mono hW.size)).alloc (by omega) (Obj.cells #[.bool false, .slice a3 (P 0).length c3] 26)
  clear hB
  go_wp2
  go_loopw [7] (fun i wr => ∃ (k : Nat) (ao : Option Addr) (co : Nat), k ≤ m ∧ i = .int .i64 k ∧ (P k).length ≤ 128 ∧ Below w.heap.size w wr ∧ Box wr w.heap.size (.bool p) (.slice a xs.length cap) ∧ Box wr (w.heap.size + 1) (.bool false) (.slice none 0 0) ∧ Unf wr (w.heap.size + 1) ∧ Box wr w3.heap.size (.bool (sg k)) (.slice ao (P k).length co) ∧ Unf wr w3.heap.size ∧ Own wr w2.heap.size (.slice ao (P k).length co) (P k)) (fun i _ => m - (intOf i).toNat)
  case atStart => exact ⟨0, a3, c3, Nat.zero_le _, rfl, hP0, hW, bA, bR, fR, by rw [hs0]; exact bO, fO, hO3.alloc _⟩
  case round =>
    obtain ⟨k, ao, co, hk, rfl, hPk, hWr, qA, qR, gR, qO, gO, hO⟩ := hrel
    clear bA bR fR bO fO hO3 hW
    obtain ⟨hz1, k0, k1⟩ := id qA
    obtain ⟨hz2, k2, k3⟩ := id qO
    by_cases hlt : k < m
    · have hne : ¬ (w3.heap.size = w.heap.size) := by omega
      have hne' : ¬ (w.heap.size = w3.heap.size) := by omega
      go_upto_region 13 with fail
      go_cut [7] from 33 to 53 (fun s1 wc => ∃ (a6 : Option Addr) (c6 : Nat), s1 = .int .i64 k ∧ Below w.heap.size w wc ∧ Box wc w.heap.size (.bool p) (.slice a xs.length cap) ∧ Box wc (w.heap.size + 1) (.bool false) (.slice none 0 0) ∧ Unf wc (w.heap.size + 1) ∧ Box wc w3.heap.size (.bool (sg (k + 1))) (.slice a6 (P (k + 1)).length c6) ∧ Unf wc w3.heap.size ∧ Own wc w2.heap.size (.slice a6 (P (k + 1)).length c6) (P (k + 1)))
      case first =>
        clear hm hb2 hv2 hnm hl hz hs0 hm0 HYES HNO
        have HQ : Hid (Box wr w.heap.size (.bool p) (.slice a xs.length cap) ∧ Box wr (w.heap.size + 1) (.bool false) (.slice none 0 0) ∧ Unf wr (w.heap.size + 1) ∧ Box wr w3.heap.size (.bool (sg k)) (.slice ao (P k).length co) ∧ Unf wr w3.heap.size ∧ Below w.heap.size w wr) := ⟨qA, qR, gR, qO, gO, hWr⟩
        have hrd := hO.rd.drew
        have hrx := (hx0.keep hWr).drew
        have hmm := hM k _ wr.drew hrd hrx hPk
        have hgg := hG k
        clear qA qR gR qO gO hWr hO hrd hrx hM hG hx0 hPk
        go_region_with (first | (go_at_call 44; refine hmm.mono ?_; rintro e v1 ⟨a5, c5, rfl, hO5, hB5⟩; have x0 := (hB5.cell (p := ⟨w.heap.size, 0, none⟩) (HQ.out.1.drew.1)).trans HQ.out.1.drew.2.1; have x1 := (hB5.cell (p := ⟨w.heap.size, 1, none⟩) (HQ.out.1.drew.1)).trans HQ.out.1.drew.2.2; have y0 := (hB5.cell (p := ⟨w3.heap.size, 0, none⟩) (HQ.out.2.2.2.1.drew.1)).trans HQ.out.2.2.2.1.drew.2.1) | (go_at_call 43; refine (hgg _ _ hO5.rd).mono ?_; rintro e v2 ⟨a6, c6, rfl, hO6, hB6⟩; obtain ⟨-, y2, y3⟩ := (HQ.out.2.2.2.1.drew.keep hB5).keep hB6; obtain ⟨-, x2, x3⟩ := (HQ.out.1.drew.keep hB5).keep hB6; obtain ⟨-, hfo⟩ := (HQ.out.2.2.2.2.1.drew.keep hB5).keep hB6))
        all_goals go_wp2_with fail
        all_goals go_meet
        all_goals obtain ⟨qA, qR, gR, qO, gO, hWr⟩ := HQ.out
        all_goals have hW5 := hWr.drew.trans (hB5.mono hWr.size)
        all_goals have qO5 := qO.drew.keep hB5
        all_goals exact ⟨a6, c6, rfl, ((hW5.trans (hB6.mono hW5.size)).setCell (by show w.heap.size ≤ w3.heap.size; omega) _).setCell (by show w.heap.size ≤ w3.heap.size; omega) _, (((qA.drew.keep hB5).keep hB6).setOther hne' _ _).setOther hne' _ _, (((qR.drew.keep hB5).keep hB6).setOther (by omega) _ _).setOther (by omega) _ _, (((gR.drew.keep hB5).keep hB6).set _ _).set _ _, Box.set (qO5.keep hB6) _ _, (((gO.drew.keep hB5).keep hB6).set _ _).set _ _, ((hO6.setBelow (by show w3.heap.size < _; exact qO5.1) _).setBelow (by show w3.heap.size < _; exact qO5.1) _).mono (by have := qO5.1; omega)⟩
      case rest =>
        obtain ⟨a6, c6, rfl, hW6, qA6, qR6, gR6, qO6, gO6, hO6⟩ := hcut
        clear qA qR gR qO gO hWr hO k0 k1 k2 k3 hz1 hz2
        obtain ⟨-, k0, k1⟩ := id qA6
        obtain ⟨-, k2, k3⟩ := id qO6
        obtain ⟨hzr, r0, r1⟩ := id qR6
        obtain ⟨-, hfr⟩ := id gR6
        obtain ⟨-, hfo⟩ := id gO6
        by_cases hlen : (P (k + 1)).length ≤ 128
        · clear HYES HNO
          have hlen' : ¬ (128 : Int) < ((P (k + 1)).length : Int) := by omega
          go_wp2
          go_roundw
          case rel => exact ⟨k + 1, a6, c6, by omega, by go_num, hlen, hW6, qA6, qR6, gR6, qO6, gO6, hO6⟩
          case measure => simp [intOf]; omega
        · obtain ⟨e1, e2, e3⟩ := HNO.out (k + 1) (by omega) hlen
          clear HYES HNO
          subst e1
          subst e2
          subst e3
          have hlen' : (128 : Int) < ((P (k + 1)).length : Int) := by omega
          have hn2 : ¬ (w3.heap.size = w.heap.size + 1) := by omega
          have hn3 : ¬ (w.heap.size + 1 = w3.heap.size) := by omega
          clear hlen
          go_wp2
          refine bodyPost_ret (v := .tuple #[.agg #[.bool false, .slice none 0 0], .int .i64 3]) (by simp [results, Try.results26, go_sem, r0, r1, hzr, hn2, hn3]) rfl ⟨none, 0, rfl, Own.nil _ _, ?_⟩
          exact (hW6.setCell (by show w.heap.size ≤ w.heap.size + 1; omega) _).setCell (by show w.heap.size ≤ w.heap.size + 1; omega) _
    · have hkm : k = m := by omega
      subst hkm
      obtain ⟨e1, e2, e3⟩ := HYES.out hPk
      clear HYES HNO
      subst e1
      subst e2
      subst e3
      obtain ⟨hzr, r0, r1⟩ := id qR
      obtain ⟨-, hfr⟩ := id gR
      clear hM hG
      go_wp2
      refine bodyPost_ret (v := .tuple #[.agg #[.bool (sg k), .slice ao (P k).length co], .int .i64 0]) (by simp [results, Try.results26, go_sem, r0, r1, hzr]) rfl ⟨ao, co, rfl, ?_, ?_⟩
      · exact ((hO.setBelow (by show w.heap.size + 1 < _; exact hw31) _).setBelow (by show w.heap.size + 1 < _; exact hw31) _).mono hWl
      · exact (hWr.setCell (by show w.heap.size ≤ w.heap.size + 1; omega) _).setCell (by show w.heap.size ≤ w.heap.size + 1; omega) _
end Go.Proofs.Ytleobhdcdniccaa
