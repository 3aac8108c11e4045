import Derived.Test.YtlnekedehalbdaaPsT
namespace Go.Proofs.Ytlnekedehalbdaa
open Go.RowKit
set_option linter.unusedVariables false
set_option linter.unusedSimpArgs false

theorem upTo_drop (t : Tl) (d : Bool) (P : List Int) (k : Nat) (hk : k < P.length) (p : Int) (s : St) : upTo t d p (P.drop k) s = if (ask t s (P.getD k 0) p).1 = d then ((upTo t d (P.getD k 0) (P.drop (k + 1)) (ask t s (P.getD k 0) p).2).1 + 1, (upTo t d (P.getD k 0) (P.drop (k + 1)) (ask t s (P.getD k 0) p).2).2) else (0, (ask t s (P.getD k 0) p).2) := by
  rw [List.drop_eq_getElem_cons hk]
  have : P.getD k 0 = P[k] := by simp [List.getD, hk]
  rw [this]
  rfl
/-- What runSize leaves. -/
def RszP (t : Tl) (E : Nat → Prop) (S : World → St → Prop) (w : World) (B g N c : Nat) (D P : List Int) (s : St) (e : Ending) (w' : World) : Prop := e = .returned (.int .i64 ((runN t P s).1 : Int)) ∧ Own w' B (.slice (some ⟨g, 0, none⟩) N c) (D ++ ((if (runN t P s).2.1 then (P.take (runN t P s).1).reverse else P.take (runN t P s).1) ++ P.drop (runN t P s).1)) ∧ S w' (runN t P s).2.2 ∧ OfE (Ei E g) w w'
set_option maxRecDepth 100000 in
set_option maxHeartbeats 1000000 in
theorem runSize_any (t : Tl) (n Z Y : Nat) (E : Nat → Prop) (S : World → St → Prop) (T : Tlr t n Z Y E S) (w : World) (B g N c o m cc : Nat) (D P : List Int) (s : St) (hn : n ≤ 2000) (hS : S w s)
    (hO : Own w B (.slice (some ⟨g, 0, none⟩) N c) (D ++ P)) (ho : D.length = o) (hm : P.length = m) (hm0 : 0 < m) (hm1 : m ≤ 2000) (hcc : m ≤ cc) (hZB : Z ≤ B) (hgE : ¬ E g) (hP : ∀ y ∈ P, 0 ≤ y ∧ y < (n : Int)) (hl : s.h.length + m < 1000000) :
    Calls Try.prog 41 #[.pointer (some ⟨Y, 0, none⟩), .slice (some ⟨g, o, none⟩) m cc] w fun e w' => RszP t E S w B g N c D P s e w' := by
  have hKEEP : ∀ W, OfE E w W → Own W B (.slice (some ⟨g, 0, none⟩) N c) (D ++ P) := fun W h => hO.offE (fun q hq => by simp [Value.ownBlock] at hq; subst hq; exact hgE) h
  have hCELL : ∀ W, OfE E w W → ∀ k, k < m → W.cell? ⟨g, o + k, none⟩ = some (.int .i64 (P.getD k 0)) := fun W h k hk => by
    have := (hKEEP W h).cell (o + k) (by simp [ho, hm]; omega)
    rw [this]
    have h2 := mid_get D P [] k (by omega)
    rw [List.append_nil, ho] at h2
    rw [h2]
  have hRNG : ∀ k, k < m → ∃ y : Nat, P.getD k 0 = (y : Int) ∧ y < n := fun k hk => by
    have := hP (P.getD k 0) (by simp [List.getD, show k < P.length by omega])
    exact ⟨(P.getD k 0).toNat, by omega, by omega⟩
  by_cases h2 : m < 2
  · obtain rfl : m = 1 := by omega
    have hrun : runN t P s = (1, false, s) := by
      match P, hm with
      | [x], _ => rfl
    have hret : RszP t E S w B g N c D P s (.returned (.int .i64 ((1 : Nat) : Int))) w := by
      refine ⟨by rw [hrun], ?_, by rw [hrun]; exact hS, OfE.refl _ _⟩
      rw [hrun]
      simp only [Bool.false_eq_true, if_false]
      rw [List.take_append_drop]
      exact hO
    go_enter Try.func41, Try.ntmps41
    go_wp2_with fail
    go_ret
    exact hret
  · obtain ⟨x0, hx0, hx0n⟩ := hRNG 0 (by omega)
    obtain ⟨x1, hx1, hx1n⟩ := hRNG 1 (by omega)
    have hrun : runN t P s = ((upTo t (ask t s (x1 : Int) x0).1 x1 (P.drop 2) (ask t s (x1 : Int) x0).2).1 + 2, (ask t s (x1 : Int) x0).1, (upTo t (ask t s (x1 : Int) x0).1 x1 (P.drop 2) (ask t s (x1 : Int) x0).2).2) := by
      match P, hm with
      | [], hm => simp at hm; omega
      | [_], hm => simp at hm; omega
      | a :: b :: r, hm =>
        simp [List.getD] at hx0 hx1
        subst hx0 hx1
        rfl
    have HC := fun W h => T.ask W s x1 x0 h hx1n hx0n (by omega)
    have hal := (ask_len t s (x1 : Int) x0).2
    generalize hAsk : ask t s (x1 : Int) x0 = RR at *
    obtain ⟨d, s1⟩ := RR
    have hal1 : s1.h.length ≤ s.h.length + 1 := hal
    have Hrun : Hid (runN t P s = ((upTo t d x1 (P.drop 2) s1).1 + 2, d, (upTo t d x1 (P.drop 2) s1).2)) := hrun
    have Hx1 : Hid (P.getD 1 0 = (x1 : Int)) := hx1
    have c0 := hCELL w (OfE.refl _ _) 0 (by omega)
    have c1 := hCELL w (OfE.refl _ _) 1 (by omega)
    rw [hx0, Nat.add_zero] at c0
    rw [hx1] at c1
    have hx0' : Hid (P.getD 0 0 = (x0 : Int)) := hx0
    have Ho : Hid (D.length = o) := ho
    have Hm : Hid (P.length = m) := hm
    clear hrun hAsk hal hx0 hx1 ho hm
    have g1 : ¬ (m : Int) < 2 := by omega
    have g2 : (1 : Int) < (m : Int) := by omega
    have g3 : (0 : Int) < (m : Int) := by omega
    have HCE : Hid (∀ W, OfE E w W → ∀ k, k < m → W.cell? ⟨g, o + k, none⟩ = some (.int .i64 (P.getD k 0))) := hCELL
    have HKE : Hid (∀ W, OfE E w W → Own W B (.slice (some ⟨g, 0, none⟩) N c) (D ++ P)) := hKEEP
    have HRN : Hid (∀ k, k < m → ∃ y : Nat, P.getD k 0 = (y : Int) ∧ y < n) := hRNG
    clear hCELL hKEEP hRNG
    go_enter Try.func41, Try.ntmps41
    go_wp2_with fail
    go_region_held3 (fun W => W.cell? ⟨g, o, none⟩ = some (.int .i64 x0) ∧ W.cell? ⟨g, o + 1, none⟩ = some (.int .i64 x1)) (go_keep) (first | (go_at_call 45; refine (HC _ (T.al hS (Below.refl _ _).drew)).mono ?_; rintro e w3 ⟨rfl, hS3, hF3⟩; have hF4 : OfE E w w3 := (OfE.below (Below.refl _ _).drew).trans hF3; have k0 := HCE.out w3 hF4 0 (by omega); have k1 := HCE.out w3 hF4 1 (by omega); rw [hx0'.out, Nat.add_zero] at k0; rw [Hx1.out] at k1))
    clear k0 k1 c0 c1 HC
    go_upto_block 0 with fail
    go_cut [6] from 20 (fun vn wc => ∃ (k : Nat) (s' : St), 2 ≤ k ∧ k ≤ m ∧ vn = .int .i64 k ∧ S wc s' ∧ OfE E w wc ∧ Hid (runN t P s = (k, d, s')))
    case first =>
      go_wp2_with fail
      go_loopw [6] (fun vn wr => ∃ (k : Nat) (s' : St), 2 ≤ k ∧ k ≤ m ∧ vn = .int .i64 k ∧ S wr s' ∧ OfE E w wr ∧ s'.h.length ≤ s.h.length + k ∧ Hid (runN t P s = ((upTo t d (P.getD (k - 1) 0) (P.drop k) s').1 + k, d, (upTo t d (P.getD (k - 1) 0) (P.drop k) s').2))) (fun vn _ => m - (intOf vn).toNat)
      case atStart => exact ⟨2, s1, Nat.le_refl _, by omega, rfl, hS3, hF4, by omega, by rw [Hx1.out]; exact Hrun⟩
      case round =>
        obtain ⟨k, s', hk2, hkm, rfl, hS5, hF5, hlh, HR⟩ := hrel
        clear Hrun hS3 hF4 hal1
        generalize wr = W5 at *
        by_cases hlt : k < m
        · obtain ⟨q, rfl⟩ : ∃ q, k = q + 1 := ⟨k - 1, by omega⟩
          have hlti : (q : Int) + 1 < (m : Int) := by omega
          obtain ⟨y, hy, hyn⟩ := HRN.out (q + 1) hlt
          obtain ⟨z, hz, hzn⟩ := HRN.out q (by omega)
          have e1 := HCE.out W5 hF5 (q + 1) hlt
          have e2 := HCE.out W5 hF5 q (by omega)
          rw [hy] at e1
          rw [hz] at e2
          have hqi : (q : Int) + 1 - 1 = (q : Int) := by omega
          have hqw : IntKind.i64.wrap ((q : Int) + 1 - 1) = (q : Int) := by rw [IntKind.wrap_i64]; omega
          have hqv : IntKind.i64.wrap (q : Int) = (q : Int) := by rw [IntKind.wrap_i64]; omega
          have hqm : (q : Int) < (m : Int) := by omega
          have hq0 : (0 : Int) ≤ (q : Int) + 1 := by omega
          rw [Nat.add_sub_cancel] at HR
          have hup := upTo_drop t d P (q + 1) (by rw [Hm.out]; exact hlt) (P.getD q 0) s'
          rw [hy, hz] at hup
          have HC := fun W h => T.ask W s' y z h hyn hzn (by omega)
          have hal := (ask_len t s' (y : Int) z).2
          generalize hAsk : ask t s' (y : Int) z = RR at *
          obtain ⟨r, s4⟩ := RR
          have hal4 : s4.h.length ≤ s'.h.length + 1 := hal
          have Hup : Hid (upTo t d (z : Int) (P.drop (q + 1)) s' = if r = d then ((upTo t d y (P.drop (q + 1 + 1)) s4).1 + 1, (upTo t d y (P.drop (q + 1 + 1)) s4).2) else (0, s4)) := hup
          have Hy : Hid (P.getD (q + 1) 0 = (y : Int)) := hy
          have Hz : Hid (P.getD q 0 = (z : Int)) := hz
          clear hup hAsk hal hy hz
          have wk : IntKind.i64.wrap ((q : Int) + 1 + 1) = (q : Int) + 1 + 1 := by rw [IntKind.wrap_i64]; omega
          go_wp2_with fail
          go_region_held3 (fun W => W.cell? ⟨g, o + (q + 1), none⟩ = some (.int .i64 y) ∧ W.cell? ⟨g, o + q, none⟩ = some (.int .i64 z)) (go_keep) (first | (go_at_call 45; refine (HC _ (T.al hS5 (Below.refl _ _).drew)).mono ?_; rintro e w6 ⟨rfl, hS6, hF6⟩; have hF7 : OfE E w w6 := (hF5.trans (OfE.below (Below.refl _ _).drew)).trans hF6; have k0 := HCE.out w6 hF7 (q + 1) hlt; have k1 := HCE.out w6 hF7 q (by omega); rw [Hy.out] at k0; rw [Hz.out] at k1))
          clear k0 k1 e1 e2 HC
          by_cases hrd : r = d
          · subst hrd
            have HR2 : Hid (runN t P s = ((upTo t r (P.getD (q + 1 + 1 - 1) 0) (P.drop (q + 1 + 1)) s4).1 + (q + 1 + 1), r, (upTo t r (P.getD (q + 1 + 1 - 1) 0) (P.drop (q + 1 + 1)) s4).2)) := by
              have h := HR.out
              rw [Hz.out, Hup.out, if_pos rfl] at h
              rw [Nat.add_sub_cancel, Hy.out]
              exact h.trans (by simp; omega)
            cases r
            all_goals
              go_wp2_with fail
              go_roundw
              case rel => exact ⟨q + 1 + 1, s4, by omega, by omega, by go_num, hS6, hF7, by omega, HR2⟩
              case measure => simp [intOf]; omega
          · have HR2 : Hid (runN t P s = (q + 1, d, s4)) := by
              have h := HR.out
              rw [Hz.out, Hup.out, if_neg hrd] at h
              exact h.trans (by simp)
            cases d <;> cases r <;> first | (exact absurd rfl hrd) | skip
            all_goals
              clear hrd
              go_wp2_with fail
              go_meet
              case rel => exact ⟨q + 1, s4, hk2, hkm, rfl, hS6, hF7, HR2⟩
        · obtain rfl : k = m := by omega
          have hlti : ¬ (k : Int) < (k : Int) := by omega
          have HR2 : Hid (runN t P s = (k, d, s')) := by
            have h := HR.out
            rw [List.drop_of_length_le (by rw [Hm.out]; exact Nat.le_refl _)] at h
            exact h.trans (by simp [upTo])
          go_wp2_with fail
          go_quiet (fail)
          go_wp2_with fail
          go_meet
          case rel => exact ⟨k, s', hk2, Nat.le_refl _, rfl, T.al hS5 ⟨rfl, rfl, rfl, Nat.le_refl _, fun _ _ => rfl⟩, hF5.trans (OfE.below ⟨rfl, rfl, rfl, Nat.le_refl _, fun _ _ => rfl⟩), HR2⟩
    case rest =>
      obtain ⟨k, s', hk2, hkm, rfl, hS5, hF5, HR⟩ := hcut
      clear Hrun hS3 hF4 hal1
      generalize wc = W5 at *
      have hO5 := HKE.out W5 hF5
      have hsplit : D ++ P = D ++ (P.take k ++ P.drop k) := by rw [List.take_append_drop]
      have h1 := HR.out
      have htl : (P.take k).length = k := by simp [Hm.out]; omega
      cases d
      · have hret : RszP t E S w B g N c D P s (.returned (.int .i64 (k : Int))) W5 := by
          refine ⟨by rw [h1], ?_, by rw [h1]; exact hS5, hF5.ei⟩
          rw [h1]
          simp only [Bool.false_eq_true, if_false]
          rw [← hsplit]; exact hO5
        clear h1 hsplit htl
        go_wp2_with fail
        go_ret
        exact hret
      · rw [hsplit] at hO5
        have HC := reverse_any B g N c o k cc D (P.take k) (P.drop k) W5 hO5 Ho.out htl (by omega) (by omega)
        have q1 : (k : Int) ≤ (cc : Int) := by omega
        have HK : ∀ W, Own W B (.slice (some ⟨g, 0, none⟩) N c) (D ++ ((P.take k).reverse ++ P.drop k)) → W5.grownBy W (some g) → RszP t E S w B g N c D P s (.returned (.int .i64 (k : Int))) W := fun W hOW hgW => by
          refine ⟨by rw [h1], ?_, ?_, hF5.ei.trans (OfE.eg hgW)⟩
          · rw [h1]; exact hOW
          · rw [h1]; exact T.gr hS5 hO5 hZB hgE hgW
        clear h1 hsplit htl
        go_wp2_with fail
        refine HC.mono ?_
        rintro e w6 ⟨rfl, hO6, hg6⟩
        have hret := HK w6 hO6 hg6
        clear HK HC
        go_wp2_with fail
        go_ret
        exact hret
end Go.Proofs.Ytlnekedehalbdaa
