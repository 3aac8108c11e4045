import Derived.Test.YtlnekedehalbdaaPsP
namespace Go.Proofs.Ytlnekedehalbdaa
open Go.RowKit
set_option linter.unusedVariables false
set_option linter.unusedSimpArgs false

theorem mid_get (D P R : List Int) (k : Nat) (hk : k < P.length) : (D ++ (P ++ R)).getD (D.length + k) 0 = P.getD k 0 := by
  simp only [List.getD]
  rw [List.getElem?_append_right (by omega), List.getElem?_append_left (by omega)]
  congr 2; omega
theorem mid_set (D P R : List Int) (k : Nat) (hk : k < P.length) (z : Int) : (D ++ (P ++ R)).set (D.length + k) z = D ++ (P.set k z ++ R) := by
  rw [List.set_append_right _ _ (by omega), List.set_append_left _ _ (by omega)]
  congr 3; omega
set_option maxRecDepth 100000 in
set_option maxHeartbeats 1000000 in
theorem reverse_any (B g N c o m cc : Nat) (D P R : List Int) (w : World) (hO : Own w B (.slice (some ⟨g, 0, none⟩) N c) (D ++ (P ++ R))) (ho : D.length = o) (hm : P.length = m) (hm1 : m ≤ 2000) (hcc : m ≤ cc) :
    Calls Try.prog 46 #[.slice (some ⟨g, o, none⟩) m cc] w fun e w' => e = .returned (.tuple #[]) ∧ Own w' B (.slice (some ⟨g, 0, none⟩) N c) (D ++ (P.reverse ++ R)) ∧ w.grownBy w' (some g) := by
  have hr0 := rvK_zero P
  have Ho : Hid (D.length = o) := ho
  have Hm : Hid (P.length = m) := hm
  have hlim := hO.2.2
  have hPb : ∀ k, -9223372036854775808 ≤ P.getD k 0 ∧ P.getD k 0 < 9223372036854775808 := by
    intro k
    by_cases hk : k < P.length
    · have := hlim.get (D.length + k)
      rw [mid_get D P R k hk] at this
      exact this
    · have : P.getD k 0 = 0 := by simp [List.getD, List.getElem?_eq_none (by omega : P.length ≤ k)]
      omega
  have w1 : IntKind.i64.wrap ((m : Int) - 1) = (m : Int) - 1 := by rw [IntKind.wrap_i64]; omega
  clear ho hm
  go_enter Try.func46, Try.ntmps46
  go_wp2_with fail
  go_loopw [2, 3] (fun i j wr => ∃ k : Nat, k ≤ m / 2 ∧ i = .int .i64 k ∧ j = .int .i64 ((m : Int) - 1 - k) ∧ Own wr B (.slice (some ⟨g, 0, none⟩) N c) (D ++ (rvK P k ++ R)) ∧ w.grownBy wr (some g)) (fun i _ _ => m - (intOf i).toNat)
  case atStart => exact ⟨0, Nat.zero_le _, rfl, by simp, by rw [hr0]; exact hO, World.grownBy.refl _ _⟩
  case round =>
    obtain ⟨k, hk, rfl, rfl, hOk, hGk⟩ := hrel
    generalize wr = W1 at *
    by_cases hlt : k < m / 2
    · obtain ⟨z, hz⟩ : ∃ z, m - 1 - k = z := ⟨_, rfl⟩
      have hzi : (m : Int) - 1 - (k : Int) = (z : Int) := by omega
      have hlti : (k : Int) < (z : Int) := by omega
      have hlen : (rvK P k).length = m := by rw [rvK_len, Hm.out]
      have hst := rvK_step P k (by rw [Hm.out]; exact hlt)
      rw [Hm.out, hz] at hst
      have c1 := hOk.cell (o + k) (by simp [rvK_len, Ho.out, Hm.out]; omega)
      have c2 := hOk.cell (o + z) (by simp [rvK_len, Ho.out, Hm.out]; omega)
      rw [← Ho.out, mid_get D (rvK P k) R k (by rw [hlen]; omega), rvK_getD P k k (by rw [Hm.out]; omega), if_neg (by rw [Hm.out]; omega)] at c1
      rw [← Ho.out, mid_get D (rvK P k) R z (by rw [hlen]; omega), rvK_getD P k z (by rw [Hm.out]; omega), if_neg (by rw [Hm.out]; omega)] at c2
      have f1 := hOk.frozen (o + k)
      have f2 := hOk.frozen (o + z)
      have e1 := hPb k
      have e2 := hPb z
      have hO1 := hOk.store (o + k) (z := P.getD z 0) (by omega) (by omega)
      have hO2 := hO1.store (o + z) (z := P.getD k 0) (by omega) (by omega)
      rw [← Ho.out, mid_set D (rvK P k) R k (by rw [hlen]; omega), mid_set D _ R z (by rw [List.length_set, hlen]; omega), hst] at hO2
      rw [Ho.out] at c1 c2 hO2
      obtain ⟨y1, hy1⟩ : ∃ y, P.getD k 0 = y := ⟨_, rfl⟩
      obtain ⟨y2, hy2⟩ : ∃ y, P.getD z 0 = y := ⟨_, rfl⟩
      rw [hy1] at c1 e1 hO2
      rw [hy2] at c2 e2 hO1 hO2
      have hkz : ¬ o + k = o + z := by omega
      have hzk : ¬ o + z = o + k := by omega
      have hzm : (z : Int) < (m : Int) := by omega
      have hkm : (k : Int) < (m : Int) := by omega
      rw [hzi]
      have hz1 : (z : Int) - 1 = (m : Int) - 1 - ((k : Int) + 1) := by omega
      have HZ1 : Hid ((z : Int) - 1 = (m : Int) - 1 - ((k : Int) + 1)) := hz1
      clear hst hy1 hy2 hz hzi hPb hz1 hO1 hlen
      go_wp2_with fail
      go_region
      all_goals
        go_wp2_with fail
        go_roundw
        case rel => exact ⟨k + 1, by omega, by go_num, by rw [HZ1.out]; go_num, hO2.drew, gb_trans (gb_trans (gb_trans hGk (gb_below _ (Below.refl _ _).drew)) (gb_set _ _ _ _)) (gb_set _ _ _ _)⟩
        case measure => simp [intOf]; omega
    · have hlti : ¬ (k : Int) < (m : Int) - 1 - (k : Int) := by omega
      obtain rfl : k = m / 2 := by omega
      have hrv : rvK P (m / 2) = P.reverse := by rw [← Hm.out]; exact rvK_end P
      rw [hrv] at hOk
      go_wp2_with fail
      go_end0
      exact ⟨rfl, hOk, hGk⟩
end Go.Proofs.Ytlnekedehalbdaa
