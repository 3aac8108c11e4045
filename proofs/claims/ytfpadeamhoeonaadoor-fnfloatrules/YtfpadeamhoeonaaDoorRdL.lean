import Derived.Test.YtfpadeamhoeonaaDoorRdU
namespace Go.Proofs.YtfpadeamhoeonaaDoor
open Go.RowKit
set_option linter.unusedVariables false
set_option linter.unusedSimpArgs false

theorem bigFr_any (w : World) (a : Option Addr) (n c : Nat) :
    Calls Tryd.prog 4 #[.slice a n c] w fun e w' => e = .returned (.bool (decide ((1048576 : Int) < (n : Int)))) ∧ w' = w := by
  go_enter Tryd.func4, Tryd.ntmps4
  go_wp2
  go_ret
  exact ⟨by simp, rfl⟩
set_option maxRecDepth 100000 in
set_option maxHeartbeats 4000000 in
theorem law_floatrules (a : Option Addr) (ZL c : Nat) (bs : List Int) (w : World) (hr : ZL ≤ 1048576 → Src w a ZL c bs) (hEx : ∃ aA aZ aL, Errs w aA aZ aL) :
    Calls Tryd.prog 3 #[.slice a ZL c] w fun e w' => e = .returned (.bool true) ∧ Below w.heap.size w w' := by
  obtain ⟨aA, aZ, aL, hE⟩ := hEx
  have HB := fun W => bigFr_any W a ZL c
  by_cases hbig : 1048576 < ZL
  · rw [decide_eq_true (by omega)] at HB
    go_enter Tryd.func3, Tryd.ntmps3
    go_wp2_with fail
    refine (HB _).mono ?_
    rintro e w2 ⟨rfl, rfl⟩
    go_wp2
    go_ret
    exact ⟨rfl, Below.refl _ _⟩
  rw [decide_eq_false (by omega)] at HB
  have HD := drawFloatOp_any w a ZL c bs (hr (by omega))
  clear hr
  go_enter Tryd.func3, Tryd.ntmps3
  go_wp2_with fail
  refine (HB _).mono ?_
  rintro e w1 ⟨rfl, hw1⟩
  rw [hw1]
  clear hw1 w1 HB
  go_wp2_with fail
  refine HD.mono ?_
  rintro e w1 ⟨o, x, y, rfl, hx, hy, V⟩
  have E := hE.below V
  clear HD hE
  have A1 := fun W h => floatAdd_any x y aA aZ aL W h
  have A2 := fun W h => floatAdd_any y x aA aZ aL W h
  have M1 := fun W h => floatMul_any x y aA aZ aL W h
  have M2 := fun W h => floatMul_any y x aA aZ aL W h
  have S1 := fun W h => floatSub_any x x aA aZ aL W h
  have O1 := fun W h => floatAdd_any 4607182418800017408 4607182418800017408 aA aZ aL W h
  rw [add_comm2 y x] at A2
  rw [mul_comm2 y x] at M2
  rw [one_one] at O1
  have C1 := fun W : World => floatCmp_any (x : Int) (y : Int) W (by omega) (by omega) (by omega) (by omega)
  have C2 := fun W : World => floatCmp_any (y : Int) (x : Int) W (by omega) (by omega) (by omega) (by omega)
  have C3 : ∀ W : World, Calls Tryd.prog 7 #[.int .u64 4607182418800017408, .int .u64 4611686018427387904] W fun e w' => e = .returned (.int .i64 (-1)) ∧ w' = W := fun W => by
    have h := floatCmp_any 4607182418800017408 4611686018427387904 W (by omega) (by omega) (by omega) (by omega)
    rw [show (4607182418800017408 : Int).toNat = 4607182418800017408 from rfl, show (4611686018427387904 : Int).toNat = 4611686018427387904 from rfl, one_two] at h
    exact h
  have O2 : ∀ (W : World), Errs W aA aZ aL → Calls Tryd.prog 6 #[.int .i64 1, .int .u64 4607182418800017408, .int .u64 4607182418800017408] W fun e w' => e = .returned (.tuple #[.int .u64 4611686018427387904, .int .i64 0]) ∧ Below W.heap.size W w' := fun W h => O1 W h
  simp only [Int.toNat_natCast] at C1 C2
  have hsw := ordI_swap x y
  have hsub := sub_self2 x
  generalize fbV (Ieee.double.add x y) = V1 at A1 A2
  generalize fbV (Ieee.double.mul x y) = V2 at M1 M2
  generalize fbV (Ieee.double.sub x x) = V3 at S1 hsub
  generalize ordI (Ieee.double.order x y) = c1 at C1 hsw
  generalize ordI (Ieee.double.order y x) = c2 at C2 hsw
  clear O1
  go_wp2_with fail
  refine (A1 _ E).mono ?_
  rintro e w2 ⟨rfl, bw2⟩
  replace V := V.trans (bw2.mono V.size)
  replace E := E.below bw2
  clear bw2
  go_wp2_with fail
  refine (A2 _ E).mono ?_
  rintro e w3 ⟨rfl, bw3⟩
  replace V := V.trans (bw3.mono V.size)
  replace E := E.below bw3
  clear bw3
  go_wp2_with fail
  refine (M1 _ E).mono ?_
  rintro e w4 ⟨rfl, bw4⟩
  replace V := V.trans (bw4.mono V.size)
  replace E := E.below bw4
  clear bw4
  go_wp2_with fail
  refine (M2 _ E).mono ?_
  rintro e w5 ⟨rfl, bw5⟩
  replace V := V.trans (bw5.mono V.size)
  replace E := E.below bw5
  clear bw5
  rcases hsw with ⟨rfl, rfl⟩ | ⟨rfl, rfl⟩ | ⟨rfl, rfl⟩ | ⟨rfl, rfl⟩
  all_goals
    go_wp2_with fail
    refine (C1 _).mono ?_
    rintro e w6 ⟨rfl, hww6⟩
    rw [hww6]
    clear hww6 w6
    go_wp2_with fail
    refine (C2 _).mono ?_
    rintro e w7 ⟨rfl, hww7⟩
    rw [hww7]
    clear hww7 w7
    go_wp2_with fail
    refine (S1 _ E).mono ?_
    rintro e w8 ⟨rfl, bw8⟩
    replace V := V.trans (bw8.mono V.size)
    replace E := E.below bw8
    clear bw8
    go_wp2_with fail
    refine (O2 _ E).mono ?_
    rintro e w9 ⟨rfl, bw9⟩
    replace V := V.trans (bw9.mono V.size)
    replace E := E.below bw9
    clear bw9
    go_wp2_with fail
    refine (C3 _).mono ?_
    rintro e w10 ⟨rfl, hww10⟩
    rw [hww10]
    clear hww10 w10
    rcases hsub with rfl | rfl
    all_goals
      go_wp2
      go_ret
      exact ⟨rfl, V⟩
end Go.Proofs.YtfpadeamhoeonaaDoor
