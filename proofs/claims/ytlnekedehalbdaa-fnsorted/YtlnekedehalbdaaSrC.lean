import Derived.Test.YtlnekedehalbdaaSrB
namespace Go.Proofs.Ytlnekedehalbdaa
open Go.RowKit
set_option linter.unusedVariables false
set_option linter.unusedSimpArgs false

def PlanP (w : World) (A : List (Int × Int) × List Int × Bool) (e : Ending) (w' : World) : Prop := ∃ v0 v1, e = .returned (.tuple #[v0, v1, .bool A.2.2]) ∧ RdG shQ w' v0 A.1 ∧ Rd w' v1 A.2.1 ∧ Below w.heap.size w w'
theorem RdG.none1 (w : World) : RdG shQ (w.alloc (.cells #[] 43)) (.slice (some ⟨w.heap.size, 0, none⟩) 0 0) [] := (show OwnG shQ 43 (w.alloc (.cells #[] 43)) w.heap.size (.slice (some ⟨w.heap.size, 0, none⟩) 0 0) [] from ⟨World.ownsRow_lit w #[] 0 (Nat.le_refl _) (Nat.zero_le _) rfl, by simp, by simp⟩).rd
set_option maxRecDepth 100000 in
set_option maxHeartbeats 1000000 in
theorem planS_any (w : World) (n : Int) (av : Value) (ans : List Bool) (hr : RdG shB w av ans) (hn0 : -9223372036854775808 ≤ n) (hn1 : n < 9223372036854775808) :
    Calls Try.prog 12 #[.int .i64 n, av] w fun e w' => PlanP w (ansA n ans) e w' := by
  by_cases hb : n < 0 ∨ 2000 < n
  · have ha : ansA n ans = ([], [], false) := by unfold ansA; rw [if_pos hb]
    rw [ha]
    have hret : PlanP w ([], [], false) (.returned (.tuple #[.slice (some ⟨w.heap.size, 0, none⟩) 0 0, .slice (some ⟨w.heap.size + 1, 0, none⟩) 0 0, .bool false])) ((w.alloc (.cells #[] 43)).alloc (.cells #[] 2)) := by
      refine ⟨_, _, rfl, (RdG.none1 w).alloc _, ?_, ((Below.refl _ w).alloc (Nat.le_refl _) _).alloc (by simp) _⟩
      have := (Own.empty (w.alloc (.cells #[] 43))).rd
      simpa using this
    rcases hb with h | h
    · go_enter Try.func12, Try.ntmps12
      go_wp2_with fail
      exact bodyPost_ret (v := .tuple #[.slice (some ⟨w.heap.size, 0, none⟩) 0 0, .slice (some ⟨w.heap.size + 1, 0, none⟩) 0 0, .bool false]) (by simp [results, Try.results12, go_sem]) rfl hret
    · have h0 : ¬ n < 0 := by omega
      go_enter Try.func12, Try.ntmps12
      go_wp2_with fail
      exact bodyPost_ret (v := .tuple #[.slice (some ⟨w.heap.size, 0, none⟩) 0 0, .slice (some ⟨w.heap.size + 1, 0, none⟩) 0 0, .bool false]) (by simp [results, Try.results12, go_sem]) rfl hret
  · have h0 : ¬ n < 0 := by omega
    have h1 : ¬ 2000 < n := by omega
    obtain ⟨m, rfl⟩ : ∃ m : Nat, n = (m : Int) := ⟨n.toNat, by omega⟩
    have hS := SS.start w false (.slice none 0 0) av
    have HC := allS_any (tellA ans) w _ (w.heap.size + 1) m false (.slice none 0 0) av (by omega) (LessC.answers w _ _ _ ans m (by omega) hr) hS
    have ha : ansA (m : Int) ans = ((sortS (tellA ans) m).2.h, if (sortS (tellA ans) m).2.k then [] else (sortS (tellA ans) m).1.headD [], !(sortS (tellA ans) m).2.k) := by unfold ansA; rw [if_neg hb]; rfl
    have has := sortS_asks (tellA ans) m (by omega)
    generalize hZ : sortS (tellA ans) m = Z at *
    have HA : Hid (ansA (m : Int) ans = (Z.2.h, if Z.2.k then [] else Z.1.headD [], !Z.2.k)) := ha
    generalize ansA (m : Int) ans = AA at *
    have HZ : Hid (sortS (tellA ans) m = Z) := hZ
    clear hZ ha hS hb
    obtain ⟨ra, rc, rfl⟩ := hr.form
    go_enter Try.func12, Try.ntmps12
    go_wp2_with fail
    refine HC.mono ?_
    rintro e w3 ⟨v, L, rfl, hrd, hS3, hF3, hgo⟩
    rw [HZ.out] at hS3 hgo
    obtain ⟨-, aq, hBx, hA, hB3⟩ := hS3
    obtain ⟨qa, qc, rfl⟩ := hA.form
    have hqr := hA.rd
    obtain ⟨k1, k2, k3, k4, k5, k6, k7, -⟩ := id hBx
    obtain ⟨va, vc, rfl⟩ : ∃ a c, v = .slice a L.length c := by obtain ⟨a, c, e, _⟩ := hrd; exact ⟨a, c, e⟩
    obtain ⟨LQ, hLQ⟩ : ∃ LQ, Z.2.h.length = LQ := ⟨_, rfl⟩
    rw [hLQ] at k5 has
    clear HC hBx hA k2 k3 k4 k7
    cases hk : Z.2.k
    · rw [hk] at k6
      have hL := hgo hk
      have hret : PlanP w AA (.returned (.tuple #[.slice qa LQ qc, .slice va L.length vc, .bool true])) w3 := by
        rw [HA.out, hk]
        exact ⟨_, _, rfl, by rw [← hLQ]; exact hqr, by simp only [Bool.false_eq_true, if_false]; rw [← hL]; exact hrd, hB3⟩
      clear hgo hL hLQ
      go_wp2_with fail
      exact bodyPost_ret (v := .tuple #[.slice qa LQ qc, .slice va L.length vc, .bool true]) (by simp [results, Try.results12, go_sem]) rfl hret
    · rw [hk] at k6
      have hret : PlanP w AA (.returned (.tuple #[.slice qa LQ qc, .slice (some ⟨w3.heap.size, 0, none⟩) 0 0, .bool false])) (w3.alloc (.cells #[] 2)) := by
        rw [HA.out, hk]
        exact ⟨_, _, rfl, by rw [← hLQ]; exact hqr.alloc _, (Own.empty w3).rd, hB3.alloc hB3.size _⟩
      clear hgo hLQ
      go_wp2_with fail
      exact bodyPost_ret (v := .tuple #[.slice qa LQ qc, .slice (some ⟨w3.heap.size, 0, none⟩) 0 0, .bool false]) (by simp [results, Try.results12, go_sem]) rfl hret
end Go.Proofs.Ytlnekedehalbdaa
