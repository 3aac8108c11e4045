import Derived.Test.YthgpacajeaphhaaBitsL
import Derived.Test.YthgpacajeaphhaaPower
import Derived.Test.YthgpacajeaphhaaRPow
import Derived.Test.YthgpacajeaphhaaFit
import Derived.Test.YthgpacajeaphhaaCmp
import Derived.Test.YthgpacajeaphhaaSum
namespace Go.Proofs.Ythgpacajeaphhaa
open Go.RowKit
set_option linter.unusedVariables false
set_option linter.unusedSimpArgs false


theorem pow_len_small {x k : Nat} (h : x ≤ 1) : (lim (x ^ k)).length ≤ 1 := by
  apply lim_length_le
  have : x ^ k ≤ 1 ^ k := Nat.pow_le_pow_left h k
  rw [Nat.one_pow] at this; omega

theorem pow_large_gen {x b n K : Nat} (h1 : 2 ^ b ≤ x) (h2 : 32 * K ≤ b * n) : K < (lim (x ^ n)).length := by
  apply lim_length_gt
  rw [R_pow]
  have h4 : (2 ^ b) ^ n ≤ x ^ n := Nat.pow_le_pow_left h1 n
  rw [← Nat.pow_mul] at h4
  exact Nat.le_trans (Nat.pow_le_pow_right (by omega) h2) h4

theorem pow_bound_gen {x b n k K : Nat} (h1 : x < 2 ^ (b + 1)) (hb : 1 ≤ b) (h2 : 2 * (b * n) < 32 * K) (hk : k ≤ n) : (lim (x ^ k)).length ≤ K := by
  apply lim_length_le
  rw [R_pow]
  have h3 : x ^ k ≤ (2 ^ (b + 1)) ^ k := Nat.pow_le_pow_left (Nat.le_of_lt h1) k
  rw [← Nat.pow_mul] at h3
  have h4 : (b + 1) * k ≤ 2 * (b * n) := by
    have e1 : (b + 1) * k ≤ (b + 1) * n := Nat.mul_le_mul_left _ hk
    have e2 : (b + 1) * n ≤ (2 * b) * n := Nat.mul_le_mul_right _ (by omega)
    rw [Nat.mul_assoc] at e2
    omega
  exact Nat.lt_of_le_of_lt h3 (Nat.pow_lt_pow_right (by omega) (by omega))

theorem pow_large {x b n : Nat} (h1 : 2 ^ b ≤ x) (h2 : 4096 ≤ b * n) : ¬ (lim (x ^ n)).length ≤ 128 := by
  have := pow_large_gen (K := 128) h1 (by omega)
  omega
theorem pow_bound {x b n k : Nat} (h1 : x < 2 ^ (b + 1)) (hb : 1 ≤ b) (h2 : b * n ≤ 4095) (hk : k ≤ n) : (lim (x ^ k)).length ≤ 1000 :=
  pow_bound_gen (K := 1000) h1 hb (by omega) hk

/-- What BigPow answers. -/
def pwS (g p : Bool) (x : Nat) (n : Int) : Bool := if g = true then (if n < 0 then false else fitS (p && decide (n % 2 = 1)) (x ^ n.toNat)) else false
def pwL (g : Bool) (x : Nat) (n : Int) : List Int := if g = true then (if n < 0 then [] else fitL (x ^ n.toNat)) else []
def pwC (g : Bool) (x : Nat) (n : Int) : Int := if g = true then (if n < 0 then 4 else fitC (x ^ n.toNat)) else 1

set_option maxHeartbeats 1000000 in
set_option maxRecDepth 100000 in
theorem bigPow_ok (p : Bool) (v : Value) (xs : List Int) (n : Int) (w : World) (hx : Rd w v xs) (hok : okB p xs = true) (h0 : 0 ≤ n) (h1 : n ≤ 9223372036854775807) :
    Calls Try.prog 25 #[.agg #[.bool p, v], .int .i64 n] w fun e w' => ∃ a c, e = .returned (.tuple #[.agg #[.bool (fitS (p && decide (n % 2 = 1)) (val xs ^ n.toNat)), .slice a (fitL (val xs ^ n.toNat)).length c], .int .i64 (fitC (val xs ^ n.toNat))]) ∧ Own w' w.heap.size (.slice a (fitL (val xs ^ n.toNat)).length c) (fitL (val xs ^ n.toNat)) ∧ Below w.heap.size w w' := by
  have hnm := okB_norm hok
  have hokA := bigOk_any p v xs ((w.alloc (Obj.cells #[.bool p, v] 26)).alloc (Obj.cells #[.bool false, .slice none 0 0] 26)) ((hx.alloc _).alloc _)
  rw [hok] at hokA
  have bA := (Box.new w (.bool p) v 26).alloc (Obj.cells #[.bool false, .slice none 0 0] 26)
  have bR := Box.new (w.alloc (Obj.cells #[.bool p, v] 26)) (.bool false) (.slice none 0 0) 26
  have fR := Unf.new (w.alloc (Obj.cells #[.bool p, v] 26)) #[.bool false, .slice none 0 0] 26
  have hW := ((Below.refl w.heap.size w).alloc (Nat.le_refl _) (Obj.cells #[.bool p, v] 26)).alloc (by simp) (Obj.cells #[.bool false, .slice none 0 0] 26)
  simp only [World.size_alloc] at bR fR
  have hx0 := hx
  obtain ⟨a, cap, rfl, hl, hz, hn0, hc⟩ := hx
  clear hc hn0
  obtain ⟨m, rfl⟩ : ∃ m : Nat, n = m := ⟨n.toNat, by omega⟩
  rw [Int.toNat_natCast]
  have hbl := fun W h => bitLength_any (.slice a xs.length cap) xs W h
  have hbz : 0 ≤ bitsN xs ∧ bitsN xs ≤ 4096 := by
    unfold bitsN
    split
    · omega
    · have := bitLen_32 (xs.getD (xs.length - 1) 0).toNat (by have := hz.get (xs.length - 1); omega)
      omega
  have hbv : 1 < bitsN xs → 2 ^ (bitsN xs - 1).toNat ≤ val xs ∧ val xs < 2 ^ ((bitsN xs - 1).toNat + 1) := fun h => by
    have hne : ¬ xs.length = 0 := fun e => by unfold bitsN at h; rw [if_pos e] at h; omega
    obtain ⟨b1, b2⟩ := bits_val hz hnm.1 hne
    have e : (bitsN xs).toNat = (bitsN xs - 1).toNat + 1 := by omega
    rw [e] at b1 b2
    rw [Nat.pow_succ] at b1
    exact ⟨by omega, b2⟩
  have hbs : ¬ 1 < bitsN xs → val xs ≤ 1 := fun h => by
    by_cases hne : xs.length = 0
    · have : xs = [] := List.length_eq_zero_iff.mp hne
      subst this; simp [val]
    · obtain ⟨b1, b2⟩ := bits_val hz hnm.1 hne
      have : (bitsN xs).toNat ≤ 1 := by omega
      have h3 : 2 ^ (bitsN xs).toNat ≤ 2 ^ 1 := Nat.pow_le_pow_right (by omega) this
      omega
  have HBV : Hid _ := hbv
  have HBS : Hid _ := hbs
  clear hbv hbs
  generalize hbb : bitsN xs = bz at hbl hbz HBV HBS
  have hrefuse : 1 < bz → 4095 / (bz - 1) < (m : Int) → ¬ (lim (val xs ^ m)).length ≤ 128 := fun g1 g2 => by
    have hv := (HBV.out g1).1
    obtain ⟨b, hb⟩ : ∃ b : Nat, bz - 1 = b := ⟨(bz - 1).toNat, by omega⟩
    rw [hb] at g2 hv
    rw [Int.toNat_natCast] at hv
    have hb1 : 1 ≤ b := by omega
    have g3 : 4095 / b < m := by have : ((4095 / b : Nat) : Int) = (4095 : Int) / (b : Int) := by rw [Int.natCast_ediv]; rfl
                                 omega
    have := (Nat.div_lt_iff_lt_mul (by omega)).mp g3
    exact pow_large hv (by rw [Nat.mul_comm]; omega)
  have hgo : ¬ (1 < bz ∧ 4095 / (bz - 1) < (m : Int)) → ∀ k, k ≤ m → (lim (val xs ^ k)).length ≤ 1000 := fun g k hk => by
    by_cases g1 : 1 < bz
    · have g2 : (m : Int) ≤ 4095 / (bz - 1) := by
        rcases Int.lt_or_le (4095 / (bz - 1)) m with h | h
        · exact absurd ⟨g1, h⟩ g
        · exact h
      have hv := (HBV.out g1).2
      obtain ⟨b, hb⟩ : ∃ b : Nat, bz - 1 = b := ⟨(bz - 1).toNat, by omega⟩
      rw [hb] at g2 hv
      rw [Int.toNat_natCast] at hv
      have hb1 : 1 ≤ b := by omega
      have g3 : m ≤ 4095 / b := by have : ((4095 / b : Nat) : Int) = (4095 : Int) / (b : Int) := by rw [Int.natCast_ediv]; rfl
                                   omega
      have := (Nat.le_div_iff_mul_le (by omega)).mp g3
      exact pow_bound hv hb1 (by rw [Nat.mul_comm]; exact this) hk
    · exact Nat.le_trans (pow_len_small (HBS.out g1)) (by omega)
  by_cases hc1 : 1 < bz ∧ 4095 / (bz - 1) < (m : Int)
  · obtain ⟨g1, g2⟩ := hc1
    obtain ⟨e1, e2, e3⟩ := fit_no (hrefuse g1 g2) (p && decide ((m : Int) % 2 = 1))
    rw [e1, e2, e3]
    clear e1 e2 e3 hrefuse hgo HBV HBS hbb
    go_enter Try.func25, Try.ntmps25
    go_wp2_with fail
    refine hokA.mono ?_
    rintro e w1 ⟨rfl, hB⟩
    clear hokA
    replace bA := bA.keep hB
    replace bR := bR.keep hB
    replace fR := fR.keep hB
    replace hW := hW.trans (hB.mono hW.size)
    clear hB
    obtain ⟨-, k0, k1⟩ := id bA
    obtain ⟨hzr, r0, r1⟩ := id bR
    obtain ⟨-, hfr⟩ := id fR
    go_wp2_with fail
    refine (hbl _ (hx0.keep hW)).mono ?_
    rintro e w2 ⟨rfl, rfl⟩
    clear hbl
    go_wp2
    refine bodyPost_ret (v := .tuple #[.agg #[.bool false, .slice none 0 0], .int .i64 3]) (by simp [results, Try.results25, go_sem, r0, r1, hzr]) rfl ⟨none, 0, rfl, Own.nil _ _, ?_⟩
    exact (hW.setCell (by show w.heap.size ≤ w.heap.size + 1; omega) _).setCell (by show w.heap.size ≤ w.heap.size + 1; omega) _
  · have hg := hgo hc1
    have hP := fun W h => power_any (.slice a xs.length cap) xs m W h (by omega) (by omega) hg
    have hS := fun B n c a W z h e b => signed_any (p && decide ((m : Int) % 2 = 1)) B n c a z (val xs ^ m) W h e b
    generalize fitS (p && decide ((m : Int) % 2 = 1)) (val xs ^ m) = s at hS ⊢
    generalize fitL (val xs ^ m) = L at hS ⊢
    generalize fitC (val xs ^ m) = C at hS ⊢
    have HVL : Hid (val (lim (val xs ^ m)) = val xs ^ m) := val_lim _
    generalize lim (val xs ^ m) = L1 at hP HVL
    clear hrefuse hgo hg HBV HBS hbb
    have hcut : (1 < bz ∧ (m : Int) ≤ 4095 / (bz - 1)) ∨ bz ≤ 1 := by
      by_cases g1 : 1 < bz
      · left
        refine ⟨g1, ?_⟩
        rcases Int.lt_or_le (4095 / (bz - 1)) m with h | h
        · exact absurd ⟨g1, h⟩ hc1
        · exact h
      · right; omega
    clear hc1
    rcases hcut with ⟨g1, g2⟩ | g1
    · cases p with
      | true =>
        go_enter Try.func25, Try.ntmps25
        go_wp2_with fail
        refine hokA.mono ?_
        rintro e w1 ⟨rfl, hB⟩
        clear hokA
        replace bA := bA.keep hB
        replace bR := bR.keep hB
        replace fR := fR.keep hB
        replace hW := hW.trans (hB.mono hW.size)
        clear hB
        obtain ⟨-, k0, k1⟩ := id bA
        obtain ⟨hzr, r0, r1⟩ := id bR
        obtain ⟨-, hfr⟩ := id fR
        go_wp2_with fail
        refine (hbl _ (hx0.keep hW)).mono ?_
        rintro e w2 ⟨rfl, rfl⟩
        clear hbl
        go_wp2_with fail
        refine (hP _ (hx0.keep hW)).mono ?_
        rintro e w3 ⟨a3, c3, rfl, hO3, hB⟩
        clear hP k0 k1 r0 r1 hzr hfr
        have hlo := fR.1
        have hWl := hW.size
        have hl3 := hB.size
        replace bA := bA.keep hB
        replace bR := bR.keep hB
        replace fR := fR.keep hB
        replace hW := hW.trans (hB.mono hW.size)
        clear hB
        go_wp2_with fail
        refine (hS _ _ _ _ _ _ hO3 HVL.out hl3).mono ?_
        rintro e w4 ⟨a4, c4, rfl, hO4, hB⟩
        clear hS
        replace bR := bR.keep hB
        replace fR := fR.keep hB
        replace hW := hW.trans (hB.mono hW.size)
        obtain ⟨hzr, r0, r1⟩ := id bR
        obtain ⟨-, hfr⟩ := id fR
        go_wp2
        refine bodyPost_ret (v := .tuple #[.agg #[.bool s, .slice a4 L.length c4], .int .i64 C]) (by simp [results, Try.results25, go_sem, r0, r1, hzr]) rfl ⟨a4, c4, rfl, ?_, ?_⟩
        · exact ((hO4.setBelow (by show w.heap.size + 1 < _; exact hlo) _).setBelow (by show w.heap.size + 1 < _; exact hlo) _).mono hWl
        · exact (hW.setCell (by show w.heap.size ≤ w.heap.size + 1; omega) _).setCell (by show w.heap.size ≤ w.heap.size + 1; omega) _
      | false =>
        go_enter Try.func25, Try.ntmps25
        go_wp2_with fail
        refine hokA.mono ?_
        rintro e w1 ⟨rfl, hB⟩
        clear hokA
        replace bA := bA.keep hB
        replace bR := bR.keep hB
        replace fR := fR.keep hB
        replace hW := hW.trans (hB.mono hW.size)
        clear hB
        obtain ⟨-, k0, k1⟩ := id bA
        obtain ⟨hzr, r0, r1⟩ := id bR
        obtain ⟨-, hfr⟩ := id fR
        go_wp2_with fail
        refine (hbl _ (hx0.keep hW)).mono ?_
        rintro e w2 ⟨rfl, rfl⟩
        clear hbl
        go_wp2_with fail
        refine (hP _ (hx0.keep hW)).mono ?_
        rintro e w3 ⟨a3, c3, rfl, hO3, hB⟩
        clear hP k0 k1 r0 r1 hzr hfr
        have hlo := fR.1
        have hWl := hW.size
        have hl3 := hB.size
        replace bA := bA.keep hB
        replace bR := bR.keep hB
        replace fR := fR.keep hB
        replace hW := hW.trans (hB.mono hW.size)
        clear hB
        go_wp2_with fail
        refine (hS _ _ _ _ _ _ hO3 HVL.out hl3).mono ?_
        rintro e w4 ⟨a4, c4, rfl, hO4, hB⟩
        clear hS
        replace bR := bR.keep hB
        replace fR := fR.keep hB
        replace hW := hW.trans (hB.mono hW.size)
        obtain ⟨hzr, r0, r1⟩ := id bR
        obtain ⟨-, hfr⟩ := id fR
        go_wp2
        refine bodyPost_ret (v := .tuple #[.agg #[.bool s, .slice a4 L.length c4], .int .i64 C]) (by simp [results, Try.results25, go_sem, r0, r1, hzr]) rfl ⟨a4, c4, rfl, ?_, ?_⟩
        · exact ((hO4.setBelow (by show w.heap.size + 1 < _; exact hlo) _).setBelow (by show w.heap.size + 1 < _; exact hlo) _).mono hWl
        · exact (hW.setCell (by show w.heap.size ≤ w.heap.size + 1; omega) _).setCell (by show w.heap.size ≤ w.heap.size + 1; omega) _
    · cases p with
      | true =>
        go_enter Try.func25, Try.ntmps25
        go_wp2_with fail
        refine hokA.mono ?_
        rintro e w1 ⟨rfl, hB⟩
        clear hokA
        replace bA := bA.keep hB
        replace bR := bR.keep hB
        replace fR := fR.keep hB
        replace hW := hW.trans (hB.mono hW.size)
        clear hB
        obtain ⟨-, k0, k1⟩ := id bA
        obtain ⟨hzr, r0, r1⟩ := id bR
        obtain ⟨-, hfr⟩ := id fR
        go_wp2_with fail
        refine (hbl _ (hx0.keep hW)).mono ?_
        rintro e w2 ⟨rfl, rfl⟩
        clear hbl
        go_wp2_with fail
        refine (hP _ (hx0.keep hW)).mono ?_
        rintro e w3 ⟨a3, c3, rfl, hO3, hB⟩
        clear hP k0 k1 r0 r1 hzr hfr
        have hlo := fR.1
        have hWl := hW.size
        have hl3 := hB.size
        replace bA := bA.keep hB
        replace bR := bR.keep hB
        replace fR := fR.keep hB
        replace hW := hW.trans (hB.mono hW.size)
        clear hB
        go_wp2_with fail
        refine (hS _ _ _ _ _ _ hO3 HVL.out hl3).mono ?_
        rintro e w4 ⟨a4, c4, rfl, hO4, hB⟩
        clear hS
        replace bR := bR.keep hB
        replace fR := fR.keep hB
        replace hW := hW.trans (hB.mono hW.size)
        obtain ⟨hzr, r0, r1⟩ := id bR
        obtain ⟨-, hfr⟩ := id fR
        go_wp2
        refine bodyPost_ret (v := .tuple #[.agg #[.bool s, .slice a4 L.length c4], .int .i64 C]) (by simp [results, Try.results25, go_sem, r0, r1, hzr]) rfl ⟨a4, c4, rfl, ?_, ?_⟩
        · exact ((hO4.setBelow (by show w.heap.size + 1 < _; exact hlo) _).setBelow (by show w.heap.size + 1 < _; exact hlo) _).mono hWl
        · exact (hW.setCell (by show w.heap.size ≤ w.heap.size + 1; omega) _).setCell (by show w.heap.size ≤ w.heap.size + 1; omega) _
      | false =>
        go_enter Try.func25, Try.ntmps25
        go_wp2_with fail
        refine hokA.mono ?_
        rintro e w1 ⟨rfl, hB⟩
        clear hokA
        replace bA := bA.keep hB
        replace bR := bR.keep hB
        replace fR := fR.keep hB
        replace hW := hW.trans (hB.mono hW.size)
        clear hB
        obtain ⟨-, k0, k1⟩ := id bA
        obtain ⟨hzr, r0, r1⟩ := id bR
        obtain ⟨-, hfr⟩ := id fR
        go_wp2_with fail
        refine (hbl _ (hx0.keep hW)).mono ?_
        rintro e w2 ⟨rfl, rfl⟩
        clear hbl
        go_wp2_with fail
        refine (hP _ (hx0.keep hW)).mono ?_
        rintro e w3 ⟨a3, c3, rfl, hO3, hB⟩
        clear hP k0 k1 r0 r1 hzr hfr
        have hlo := fR.1
        have hWl := hW.size
        have hl3 := hB.size
        replace bA := bA.keep hB
        replace bR := bR.keep hB
        replace fR := fR.keep hB
        replace hW := hW.trans (hB.mono hW.size)
        clear hB
        go_wp2_with fail
        refine (hS _ _ _ _ _ _ hO3 HVL.out hl3).mono ?_
        rintro e w4 ⟨a4, c4, rfl, hO4, hB⟩
        clear hS
        replace bR := bR.keep hB
        replace fR := fR.keep hB
        replace hW := hW.trans (hB.mono hW.size)
        obtain ⟨hzr, r0, r1⟩ := id bR
        obtain ⟨-, hfr⟩ := id fR
        go_wp2
        refine bodyPost_ret (v := .tuple #[.agg #[.bool s, .slice a4 L.length c4], .int .i64 C]) (by simp [results, Try.results25, go_sem, r0, r1, hzr]) rfl ⟨a4, c4, rfl, ?_, ?_⟩
        · exact ((hO4.setBelow (by show w.heap.size + 1 < _; exact hlo) _).setBelow (by show w.heap.size + 1 < _; exact hlo) _).mono hWl
        · exact (hW.setCell (by show w.heap.size ≤ w.heap.size + 1; omega) _).setCell (by show w.heap.size ≤ w.heap.size + 1; omega) _
end Go.Proofs.Ythgpacajeaphhaa
