import Derived.Test.YtfcoffllelgakaaDoorRdW
import Derived.Test.YtfcoffllelgakaaDoorFCmp
import Derived.Test.YtfcoffllelgakaaDoorLimOne
import Derived.Test.YtfcoffllelgakaaDoorOk
namespace Go.Proofs.YtfcoffllelgakaaDoor
open Go.RowKit
set_option linter.unusedVariables false
set_option linter.unusedSimpArgs false

theorem rndV_lt (neg : Bool) {N D : Nat} (hD : 0 < D) : rndV neg N D < 18446744073709551616 := by
  unfold rndV
  split
  · exact setN_lt _ _ (by decide)
  · rename_i h0
    have h1 := rQ2_lt (N := N) (by omega) hD
    have h2 := rE2_ge N D
    split
    · exact setN_lt _ _ (by decide)
    · rename_i h3
      split
      · exact setN_lt _ _ (by omega)
      · refine setN_lt _ _ (Nat.or_lt_two_pow (n := 64) ?_ ?_)
        · have : (rE2 N D + 1075).toNat ≤ 2046 := by omega
          have h4 := Nat.mul_le_mul_right 4503599627370496 this
          omega
        · omega
theorem fu_len (x : Nat) : (lim (fu x)).length ≤ 70 :=
  lim_len_gen _ 2047 70 (fu_lt x 2047 (by have : fexp x < 2048 := Nat.mod_lt _ (by decide); omega)) (by decide)
/-- What FloatOfBig answers. -/
def ofBX (p : Bool) (xs : List Int) : Nat := if okB p xs = true then (if isI (rndV p (val xs) 1) = true then 0 else rndV p (val xs) 1) else 0
def ofBC (p : Bool) (xs : List Int) : Int := if okB p xs = true then (if isI (rndV p (val xs) 1) = true then 3 else 0) else 1
theorem ofBX_lt (p : Bool) (xs : List Int) : ofBX p xs < 18446744073709551616 := by
  unfold ofBX
  split
  · split
    · decide
    · exact rndV_lt p (by decide)
  · decide
set_option maxRecDepth 100000 in
set_option maxHeartbeats 1000000 in
theorem floatOfS_any (p : Bool) (v : Value) (xs : List Int) (w : World) (hx : Rd w v xs) :
    Calls Tryd.prog 7 #[.agg #[.bool p, v]] w fun e w' => e = .returned (.tuple #[.int .u64 (ofBX p xs : Nat), .int .i64 (ofBC p xs)]) ∧ Below w.heap.size w w' := by
  have hz : Limbs xs := by obtain ⟨_, _, _, _, h, _⟩ := hx; exact h
  have hok := bigOkS_any p v xs (w.alloc (Obj.cells #[.bool p, v] 29)) (hx.alloc _)
  have bA := Box.new w (.bool p) v 29
  have rx := hx.alloc (Obj.cells #[.bool p, v] 29)
  have hW := (Below.refl w.heap.size w).alloc (Nat.le_refl _) (Obj.cells #[.bool p, v] 29)
  obtain ⟨a, cap, rfl, _⟩ := id hx
  clear hx
  cases g : okB p xs
  · have h1 : ofBX p xs = 0 := by unfold ofBX; rw [g]; rfl
    have h2 : ofBC p xs = 1 := by unfold ofBC; rw [g]; rfl
    rw [h1, h2]
    rw [g] at hok
    clear h1 h2 g
    go_enter Tryd.func7, Tryd.ntmps7
    go_wp2_with fail
    refine hok.mono ?_
    rintro e w1 ⟨rfl, b1⟩
    go_wp2
    exact bodyPost_ret (v := .tuple #[.int .u64 (0 : Nat), .int .i64 1]) (by simp [results, Tryd.results7, go_sem]) rfl ⟨rfl, hW.trans (b1.mono hW.size)⟩
  · have hn := okB_norm g
    have hlx : lim (val xs) = xs := lim_val hz hn.1
    rw [g] at hok
    have h1 : ofBX p xs = if isI (rndV p (val xs) 1) = true then 0 else rndV p (val xs) 1 := by unfold ofBX; rw [if_pos g]
    have h2 : ofBC p xs = if isI (rndV p (val xs) 1) = true then 3 else 0 := by unfold ofBC; rw [if_pos g]
    have hlt := rndV_lt p (N := val xs) (D := 1) (by decide)
    have HRd := fun (W : World) (v u : Value) (h1 : Rd W v xs) (h2 : Rd W u [1]) => round_any p v u (val xs) 1 W (by rw [hlx]; exact h1) (by rw [lim_one]; exact h2) (by rw [hlx]; omega) (by rw [lim_one]; decide) (by decide)
    have HIn := fun W : World => isInfS_any (rndV p (val xs) 1 : Nat) W (by omega) (by omega)
    simp only [Int.toNat_natCast] at HIn
    rw [h1, h2]
    generalize rndV p (val xs) 1 = X at HRd HIn hlt ⊢
    clear h1 h2 g hn hlx
    cases hI : isI X
    · rw [if_neg (by decide), if_neg (by decide)]
      simp only [hI] at HIn
      go_enter Tryd.func7, Tryd.ntmps7
      go_wp2_with fail
      refine hok.mono ?_
      rintro e w1 ⟨rfl, b1⟩
      obtain ⟨l1, k0, k1⟩ := bA.keep b1
      have r1 := rx.keep b1
      have V1 := hW.trans (b1.mono hW.size)
      have al : Below w1.heap.size w1 (w1.alloc (.cells #[.int .u32 1] 48)) := (Below.refl _ _).alloc (Nat.le_refl _) _
      have HR1 := HRd _ _ _ (r1.keep al) (Rd.one w1 w1.heap.size rfl 48 (by omega) (by omega))
      have V2 := V1.trans (al.mono V1.size)
      clear hok b1 bA rx HRd
      go_wp2_with fail
      refine HR1.mono ?_
      rintro e w2 ⟨rfl, b2⟩
      have V3 := V2.trans (b2.mono V2.size)
      clear HR1
      go_wp2_with fail
      refine (HIn _).mono ?_
      rintro e w3 ⟨rfl, hw3⟩
      rw [hw3]
      clear hw3 w3
      go_wp2
      exact bodyPost_ret (v := .tuple #[.int .u64 (X : Nat), .int .i64 0]) (by simp [results, Tryd.results7, go_sem]) rfl ⟨rfl, V3⟩
    · rw [if_pos rfl, if_pos rfl]
      simp only [hI] at HIn
      go_enter Tryd.func7, Tryd.ntmps7
      go_wp2_with fail
      refine hok.mono ?_
      rintro e w1 ⟨rfl, b1⟩
      obtain ⟨l1, k0, k1⟩ := bA.keep b1
      have r1 := rx.keep b1
      have V1 := hW.trans (b1.mono hW.size)
      have al : Below w1.heap.size w1 (w1.alloc (.cells #[.int .u32 1] 48)) := (Below.refl _ _).alloc (Nat.le_refl _) _
      have HR1 := HRd _ _ _ (r1.keep al) (Rd.one w1 w1.heap.size rfl 48 (by omega) (by omega))
      have V2 := V1.trans (al.mono V1.size)
      clear hok b1 bA rx HRd
      go_wp2_with fail
      refine HR1.mono ?_
      rintro e w2 ⟨rfl, b2⟩
      have V3 := V2.trans (b2.mono V2.size)
      clear HR1
      go_wp2_with fail
      refine (HIn _).mono ?_
      rintro e w3 ⟨rfl, hw3⟩
      rw [hw3]
      clear hw3 w3
      go_wp2
      exact bodyPost_ret (v := .tuple #[.int .u64 (0 : Nat), .int .i64 3]) (by simp [results, Tryd.results7, go_sem]) rfl ⟨rfl, V3⟩
end Go.Proofs.YtfcoffllelgakaaDoor

namespace Go.Proofs.YtfcoffllelgakaaDoor
open Go.RowKit
set_option linter.unusedVariables false
set_option linter.unusedSimpArgs false

theorem fu_pos {x : Nat} (h : ¬ frung x = 0) : 0 < fu x := by
  unfold fu
  split
  · rename_i h1
    unfold frung at h
    unfold fexp at h1
    unfold ffrac
    omega
  · exact Nat.mul_pos (by omega) (Nat.pow_pos (by decide))
/-- What l2Over answers. -/
def overV (a b : Nat) : Nat := if (isN a || isN b || (isI a && isI b)) = true then 9221120237041090560 else if isI a = true then setN (fneg a != fneg b) 9218868437227405312 else if isI b = true then setN (fneg a != fneg b) 0 else rndV (fneg a != fneg b) (fu a) (fu b)
end Go.Proofs.YtfcoffllelgakaaDoor
