import Derived.Test.YtfcoffllelgakaaDoorMgST
import Derived.Test.YtfcoffllelgakaaDoorFloorA
namespace Go.Proofs.YtfcoffllelgakaaDoor
open Go.RowKit
set_option linter.unusedVariables false
set_option linter.unusedSimpArgs false

/-- What l2FloorOf answers. -/
def flF (x : Nat) : Nat := flQ (nz (fneg x) (fu x)) (fu x) false lowP
def flV (x : Nat) : Nat := if (isN x || isI x) = true then x else rndV (nz (nz (fneg x) (fu x)) (flF x)) (flF x) 1
theorem flF_len (x : Nat) : (lim (flF x)).length ≤ 72 := by
  have h1 := fu_lt x 2047 (by have : fexp x < 2048 := Nat.mod_lt _ (by decide); omega)
  obtain ⟨K, hK⟩ : ∃ K : Nat, K = 2047 := ⟨_, rfl⟩
  rw [← hK] at h1
  refine lim_len_gen _ (K + 1) 72 ?_ (by omega)
  have h2 : fu x / lowP ≤ fu x := Nat.div_le_self _ _
  have h3 : flF x ≤ fu x / lowP + 1 := by unfold flF flQ; split <;> omega
  have e : 2 ^ (K + 1) = 2 * 2 ^ K := by rw [Nat.pow_succ, Nat.mul_comm]
  have h4 := Nat.two_pow_pos K
  rw [e]
  generalize 2 ^ K = A at h1 h4
  omega
set_option maxRecDepth 100000 in
set_option maxHeartbeats 1500000 in
theorem floorOfS_any (x : Nat) (w : World) (hx : x < 18446744073709551616) :
    Calls Tryd.prog 36 #[.int .u64 x] w fun e w' => e = .returned (.int .u64 (flV x : Nat)) ∧ Below w.heap.size w w' := by
  have Na := fun W : World => negS_any (x : Int) W (by omega) (by omega)
  have Xa := fun W : World => isNanS_any (x : Int) W (by omega) (by omega)
  have Ia := fun W : World => isInfS_any (x : Int) W (by omega) (by omega)
  have Ua := fun W : World => unitsS_any (x : Int) W (by omega) (by omega)
  simp only [Int.toNat_natCast] at Na Xa Ia Ua
  have HV : Hid (flV x = if (isN x || isI x) = true then x else rndV (nz (nz (fneg x) (fu x)) (flF x)) (flF x) 1) := rfl
  have la := fu_len x
  have lo := low_len
  have lf := flF_len x
  have Ga := fun (W : World) v h => l1Big_lim (fneg x) v (fu x) W h
  have Gb := fun (W : World) v h => l1Big_lim false v lowP W h
  have hnz : nz false lowP = false := rfl
  rw [hnz] at Gb
  have HF := fun (W : World) v u h1 h2 => l1Floor_any (nz (fneg x) (fu x)) false v u (lim (fu x)) (lim lowP) W h1 h2 (lim_norm _) (lim_norm _) (by omega) (by omega) (by rw [val_lim]; exact lowP_pos)
  rw [val_lim, val_lim, show (nz (fneg x) (fu x) != false) = nz (fneg x) (fu x) from by cases nz (fneg x) (fu x) <;> rfl] at HF
  have HF2 : ∀ (W : World) (v u : Value), Rd W v (lim (fu x)) → Rd W u (lim lowP) → Calls Tryd.prog 68 #[.agg #[.bool (nz (fneg x) (fu x)), v], .agg #[.bool false, u]] W fun e w' => ∃ a c s a' c' n, e = .returned (.tuple #[.agg #[.bool (nz (nz (fneg x) (fu x)) (flF x)), .slice a (lim (flF x)).length c], .agg #[.bool s, .slice a' n c']]) ∧ Own w' W.heap.size (.slice a (lim (flF x)).length c) (lim (flF x)) ∧ Below W.heap.size W w' := by
    intro W v u h1 h2
    refine (HF W v u h1 h2).mono ?_
    rintro e w' ⟨a, c, a', c', rfl, o1, _, b⟩
    exact ⟨a, c, _, a', c', _, rfl, o1, b⟩
  clear HF
  have HR := fun (W : World) (v u : Value) (h1 : Rd W v (lim (flF x))) (h2 : Rd W u [1]) => round_any (nz (nz (fneg x) (fu x)) (flF x)) v u (flF x) 1 W h1 (by rw [lim_one]; exact h2) (by omega) (by rw [lim_one]; decide) (by decide)
  have HO := fun W : World => oneS_any W
  obtain ⟨V, hV⟩ : ∃ V, flV x = V := ⟨_, rfl⟩
  rw [hV]
  have HVV : Hid (flV x = V) := hV
  clear hV
  generalize isN x = xa at *
  generalize isI x = ia at *
  cases xa
  · cases ia
    · have e1 : V = rndV (nz (nz (fneg x) (fu x)) (flF x)) (flF x) 1 := by rw [← HVV.out, HV.out, if_neg (by simp)]
      rw [← e1] at HR
      clear HV HVV e1 la lo lf hnz
      generalize nz (nz (fneg x) (fu x)) (flF x) = sf at *
      generalize nz (fneg x) (fu x) = sa at *
      generalize lim (flF x) = LF at *
      generalize lim (fu x) = LA at *
      generalize lim lowP = LO at *
      go_enter Tryd.func36, Tryd.ntmps36
      go_wp2_with fail
      refine (Xa _).mono ?_
      rintro e w1 ⟨rfl, hw1⟩
      rw [hw1]
      clear hw1 w1
      go_wp2_with fail
      refine (Ia _).mono ?_
      rintro e w1 ⟨rfl, hw1⟩
      rw [hw1]
      clear hw1 w1
      go_wp2_with fail
      refine (Na _).mono ?_
      rintro e w1 ⟨rfl, hw1⟩
      rw [hw1]
      clear hw1 w1
      go_wp2_with fail
      refine (Ua _).mono ?_
      rintro e w1 ⟨a1, c1, rfl, O1, b1⟩
      go_wp2_with fail
      refine (Ga _ _ O1.rd).mono ?_
      rintro e w2 ⟨a2, c2, rfl, O2, b2⟩
      have V2 := b1.trans (b2.mono b1.size)
      go_wp2_with fail
      refine (HO _).mono ?_
      rintro e w3 ⟨a3, c3, rfl, O3, b3⟩
      have V3 := V2.trans (b3.mono V2.size)
      go_wp2_with fail
      refine (Gb _ _ O3.rd).mono ?_
      rintro e w4 ⟨a4, c4, rfl, O4, b4⟩
      have V4 := V3.trans (b4.mono V3.size)
      have R2 := (O2.rd.keep b3).keep b4
      clear O1 O3 b1 b2 b3 b4 V2 V3 Ga Gb HO Ua
      go_wp2_with fail
      refine (HF2 _ _ _ R2 O4.rd).mono ?_
      rintro e w5 ⟨a5, c5, s5, a6, c6, n6, rfl, O5, b5⟩
      have V5 := V4.trans (b5.mono V4.size)
      clear O2 O4 R2 b5 V4 HF2
      have bS := (Box.new w5 (.bool sf) (.slice a5 LF.length c5) 29).alloc (Obj.cells #[.bool s5, .slice a6 n6 c6] 29)
      have V6 := (V5.alloc V5.size (Obj.cells #[.bool sf, .slice a5 LF.length c5] 29)).alloc (by simp; have := V5.size; omega) (Obj.cells #[.bool s5, .slice a6 n6 c6] 29)
      have rL := (O5.rd.alloc (Obj.cells #[.bool sf, .slice a5 LF.length c5] 29)).alloc (Obj.cells #[.bool s5, .slice a6 n6 c6] 29)
      go_upto_region 4 with fail
      generalize (w5.alloc (Obj.cells #[Value.bool sf, Value.slice a5 LF.length c5] 29)).alloc (Obj.cells #[Value.bool s5, Value.slice a6 n6 c6] 29) = w6 at *
      obtain ⟨-, k0, k1⟩ := id bS
      have al : Below w6.heap.size w6 (w6.alloc (.cells #[.int .u32 1] 48)) := (Below.refl _ _).alloc (Nat.le_refl _) _
      have HR1 := HR _ _ _ (rL.keep al) (Rd.one w6 w6.heap.size rfl 48 (by omega) (by omega))
      have V7 := V6.trans (al.mono V6.size)
      clear HR O5
      go_wp2_with fail
      refine HR1.mono ?_
      rintro e w7 ⟨rfl, b7⟩
      have V8 := V7.trans (b7.mono V7.size)
      clear HR1
      go_wp2
      go_ret
      exact ⟨rfl, V8⟩
    · have e1 : V = x := by rw [← HVV.out, HV.out, if_pos (by simp)]
      subst e1
      clear HV HVV Ga Gb HF2 HR HO
      go_enter Tryd.func36, Tryd.ntmps36
      go_wp2_with fail
      refine (Xa _).mono ?_
      rintro e w1 ⟨rfl, hw1⟩
      rw [hw1]
      clear hw1 w1
      go_wp2_with fail
      refine (Ia _).mono ?_
      rintro e w1 ⟨rfl, hw1⟩
      rw [hw1]
      clear hw1 w1
      go_wp2
      go_ret
      exact ⟨rfl, Below.refl _ _⟩
  · have e1 : V = x := by rw [← HVV.out, HV.out, if_pos (by simp)]
    subst e1
    clear HV HVV Ga Gb HF2 HR HO
    go_enter Tryd.func36, Tryd.ntmps36
    go_wp2_with fail
    refine (Xa _).mono ?_
    rintro e w1 ⟨rfl, hw1⟩
    rw [hw1]
    clear hw1 w1
    go_wp2
    go_ret
    exact ⟨rfl, Below.refl _ _⟩
end Go.Proofs.YtfcoffllelgakaaDoor
