import Derived.Test.YtlnekedehalbdaaSrN
import Derived.Deep.Cut
import Derived.Deep.CutBlock
import Derived.Deep.DeepCutAuto
namespace Go.Proofs.Ytlnekedehalbdaa
open Go.RowKit
set_option linter.unusedVariables false
set_option linter.unusedSimpArgs false

/-- What a run answers. -/
def RunP (t : Tl) (w0 w : World) (X n f : Nat) (ov : Bool) (ks an : Value) (s : St) (e : Ending) (w' : World) : Prop := ∃ (v : Value) (k : Nat) (L : List Int) (s' : St), e = .returned (.tuple #[v, .int .i64 ((f + k : Nat) : Int)]) ∧ 1 ≤ k ∧ f + k ≤ n ∧ Own w' w.heap.size v L ∧ L.length = k ∧ SS w0 w' X ov ks an s' ∧ Off w w' X ∧ (oneS t (nf f n) s).2.2 = s' ∧ (s'.k = false → (oneS t (nf f n) s).1 = L ∧ (oneS t (nf f n) s).2.1 = nf (f + k) n)
set_option maxRecDepth 100000 in
set_option maxHeartbeats 1000000 in
theorem runS_any (t : Tl) (w0 w : World) (X n f : Nat) (ov : Bool) (ks an : Value) (s : St) (hf : f < n) (hn : n ≤ 2000) (hL : LessC t w0 X ov ks an n) (hS : SS w0 w X ov ks an s) (hk : s.k = false) (hl : s.h.length + 6 * (n - f) < 1000000) :
    Calls Try.prog 33 #[.pointer (some ⟨X, 0, none⟩), .int .i64 f, .int .i64 n] w fun e w' => RunP t w0 w X n f ov ks an s e w' := by
  have hXw := hS.lt
  have hfR : -9223372036854775808 ≤ (f : Int) ∧ (f : Int) < 9223372036854775808 := by omega
  have bE : Below w.heap.size w (w.alloc (.cells #[.int .i64 (f : Int)] 2)) := (Below.refl _ w).alloc (Nat.le_refl _) _
  have oE := Own.lit1 w w.heap.size rfl hfR.1 hfR.2
  have hS1 := hS.keep bE
  have hF1 : Off w (w.alloc (.cells #[.int .i64 (f : Int)] 2)) X := Off.below bE
  have w1 : IntKind.i64.wrap ((f : Int) + 1) = (f : Int) + 1 := by rw [IntKind.wrap_i64]; omega
  go_enter Try.func33, Try.ntmps33
  go_upto_if 23 with fail
  generalize w.alloc (.cells #[.int .i64 (f : Int)] 2) = W1 at *
  have hz1 := hF1.1
  clear bE hS
  go_cut [8, 9] from 10 (fun vo va wc => ∃ (k : Nat) (L : List Int) (s' : St), Own wc w.heap.size vo L ∧ va = .int .i64 ((f + k : Nat) : Int) ∧ 1 ≤ k ∧ f + k ≤ n ∧ L.length = k ∧ SS w0 wc X ov ks an s' ∧ Off w wc X ∧ RunA t (nf f n) s k L s')
  case first =>
    by_cases h1 : f + 1 < n
    · have h1i : (f : Int) + 1 < (n : Int) := by omega
      have HC := hL W1 s (f + 1) f hS1 (by omega) (by omega) (by omega)
      have hrun : runN t (nf f n) s = ((upTo t (ask t s ((f + 1 : Nat) : Int) f).1 ((f + 1 : Nat) : Int) (nf (f + 2) n) (ask t s ((f + 1 : Nat) : Int) f).2).1 + 2, (ask t s ((f + 1 : Nat) : Int) f).1, (upTo t (ask t s ((f + 1 : Nat) : Int) f).1 ((f + 1 : Nat) : Int) (nf (f + 2) n) (ask t s ((f + 1 : Nat) : Int) f).2).2) := by rw [nf_two h1]; rfl
      have hal := (ask_len t s ((f + 1 : Nat) : Int) f).2
      generalize hAsk : ask t s ((f + 1 : Nat) : Int) f = R at *
      obtain ⟨d, s2⟩ := R
      have Hrun : Hid (runN t (nf f n) s = ((upTo t d ((f + 1 : Nat) : Int) (nf (f + 2) n) s2).1 + 2, d, (upTo t d ((f + 1 : Nat) : Int) (nf (f + 2) n) s2).2)) := hrun
      clear hrun hAsk
      have hal2 : s2.h.length ≤ s.h.length + 1 := hal
      clear hal
      rw [show ((f + 1 : Nat) : Int) = (f : Int) + 1 from rfl] at HC
      go_wp2_with fail
      refine HC.mono ?_
      rintro e w3 ⟨rfl, hS3, hF3⟩
      have hF4 : Off w w3 X := hF1.trans hF3
      have hO4 : Own w3 w.heap.size (.slice (some ⟨w.heap.size, 0, none⟩) 1 1) [(f : Int)] := oE.off (X := X) hXw hF3
      have hz4 := hF4.1
      have hgR : -9223372036854775808 ≤ (f : Int) + 1 ∧ (f : Int) + 1 < 9223372036854775808 := by omega
      have bL : Below w3.heap.size w3 (w3.alloc (.cells #[.int .i64 ((f : Int) + 1)] 2)) := (Below.refl _ w3).alloc (Nat.le_refl _) _
      clear HC oE hS1 hF1 hF3
      have w2 : IntKind.i64.wrap ((f : Int) + 1 + 1) = (f : Int) + 2 := by rw [IntKind.wrap_i64]; omega
      go_upto_block 0 with (at_builtin; refine wpList_append_gb rfl _ _ 22 rfl Try.underlying22 w.heap.size _ _ [(f : Int)] [(f : Int) + 1] 2 (by simp) rfl rfl (hO4.alloc _) (Rd.one w3 w3.heap.size rfl 2 hgR.1 hgR.2) (by simp) (by omega) (by simp; omega) ?_; intro a5 c5 w5 hO5 hg5)
      have hS5 : SS w0 w5 X ov ks an s2 := (hS3.keep bL).gb (hO4.alloc _) hXw hg5
      have hF5 : Off w w5 X := (hF4.low (bL.mono hz4)).far hg5 (fun j hj => (hO4.lt j hj).1)
      have hO6 : Own w5 w.heap.size (.slice a5 2 c5) (seg f 2) := hO5
      clear hO5 hg5 bL hO4 hS3 hF4 hz4
      generalize w5 = W5 at *
      go_cut [8, 9] from 34 (fun vo va wc => ∃ (k : Nat) (s' : St), 2 ≤ k ∧ f + k ≤ n ∧ Own wc w.heap.size vo (seg f k) ∧ va = .int .i64 ((f + k : Nat) : Int) ∧ SS w0 wc X ov ks an s' ∧ Off w wc X ∧ (runN t (nf f n) s).2.2 = s' ∧ (runN t (nf f n) s).2.1 = d ∧ (s'.k = false → (runN t (nf f n) s).1 = k))
      case first =>
        go_wp2_with fail
        go_loopw [8, 9] (fun vo va wr => ∃ (k : Nat) (s' : St), 2 ≤ k ∧ f + k ≤ n ∧ Own wr w.heap.size vo (seg f k) ∧ va = .int .i64 ((f + k : Nat) : Int) ∧ SS w0 wr X ov ks an s' ∧ Off w wr X ∧ s'.h.length ≤ s.h.length + k ∧ Hid (runN t (nf f n) s = ((upTo t d ((f + k - 1 : Nat) : Int) (nf (f + k) n) s').1 + k, d, (upTo t d ((f + k - 1 : Nat) : Int) (nf (f + k) n) s').2))) (fun _ va _ => n - (intOf va).toNat)
        case atStart => exact ⟨2, s2, Nat.le_refl _, by omega, hO6, rfl, hS5, hF5, by omega, Hrun⟩
        case round =>
          obtain ⟨k, s', hk2, hkn, hO, rfl, hS, hF, hlh, HR⟩ := hrel
          clear hS5 hF5 hO6 Hrun hal2
          generalize wr = W6 at *
          obtain ⟨oa, oc, eo⟩ := hO.form
          rw [seg_len] at eo
          subst eo
          have hst := hS.k
          obtain ⟨P, hP⟩ : ∃ P, f + k = P := ⟨_, rfl⟩
          rw [hP] at hkn HR ⊢
          have HP : Hid (f + k = P) := hP
          have hPk : f + 2 ≤ P := by omega
          have hlP : s'.h.length < 1000000 := by omega
          have hkm : k + 1 ≤ 16777216 := by omega
          clear hP
          by_cases hPn : P = n
          · subst hPn
            rw [nf_nil] at HR
            have HR' : runN t (nf f P) s = (k, d, s') := by rw [HR.out]; simp [upTo]
            go_wp2_with fail
            go_meet
            case rel => exact ⟨k, s', hk2, by have := HP.out; omega, hO, by rw [HP.out], hS, hF, by rw [HR'], by rw [HR'], fun _ => by rw [HR']⟩
          · have hPi : (P : Int) < (n : Int) := by omega
            cases hsk : s'.k
            · rw [hsk] at hst
              have HC := hL W6 s' P (P - 1) hS (by omega) (by omega) (by omega)
              have hup : upTo t d ((P - 1 : Nat) : Int) (nf P n) s' = if (ask t s' P ((P - 1 : Nat) : Int)).1 = d then ((upTo t d P (nf (P + 1) n) (ask t s' P ((P - 1 : Nat) : Int)).2).1 + 1, (upTo t d P (nf (P + 1) n) (ask t s' P ((P - 1 : Nat) : Int)).2).2) else (0, (ask t s' P ((P - 1 : Nat) : Int)).2) := by rw [nf_cons (by omega)]; rfl
              have hal := (ask_len t s' P ((P - 1 : Nat) : Int)).2
              generalize hAsk : ask t s' P ((P - 1 : Nat) : Int) = R at *
              obtain ⟨r, s3⟩ := R
              have hal3 : s3.h.length ≤ s'.h.length + 1 := hal
              have Hup : Hid (upTo t d ((P - 1 : Nat) : Int) (nf P n) s' = if r = d then ((upTo t d P (nf (P + 1) n) s3).1 + 1, (upTo t d P (nf (P + 1) n) s3).2) else (0, s3)) := hup
              clear hup hAsk hal
              obtain ⟨Q, hQ⟩ : ∃ Q : Int, (P : Int) - 1 = Q := ⟨_, rfl⟩
              have hQ1 : ((P - 1 : Nat) : Int) = Q := by omega
              have hQw : IntKind.i64.wrap ((P : Int) - 1) = Q := by rw [IntKind.wrap_i64]; omega
              rw [hQ1] at HC
              have HQ : Hid ((P : Int) - 1 = Q) := hQ
              clear hQ1
              go_wp2_with fail
              refine HC.mono ?_
              rintro e w7 ⟨rfl, hS7, hF7⟩
              skip
              clear HC hst
              have hF8 : Off w w7 X := hF.trans hF7
              have hO8 : Own w7 w.heap.size (.slice oa k oc) (seg f k) := hO.off (X := X) hXw hF7
              have hz8 := hF8.1
              have hs8 := hS7.k
              have hPR : -9223372036854775808 ≤ (P : Int) ∧ (P : Int) < 9223372036854775808 := by omega
              by_cases hrd : r = d
              · subst hrd
                have hrr : (r != r) = false := by simp
                cases h3k : s3.k
                · rw [h3k] at hs8
                  have HR' : Hid (runN t (nf f n) s = ((upTo t r P (nf (P + 1) n) s3).1 + (k + 1), r, (upTo t r P (nf (P + 1) n) s3).2)) := by
                    have h := HR.out
                    rw [Hup.out, if_pos rfl] at h
                    exact h.trans (by simp; omega)
                  have bL : Below w7.heap.size w7 (w7.alloc (.cells #[.int .i64 (P : Int)] 2)) := (Below.refl _ w7).alloc (Nat.le_refl _) _
                  have hseg : Hid (seg f k ++ [(P : Int)] = seg f (k + 1)) := by rw [seg_succ, HP.out]; exact rfl
                  go_wp2_with (at_builtin; refine wpList_append_gb rfl _ _ 22 rfl Try.underlying22 w.heap.size _ _ (seg f k) [(P : Int)] (k + 1) (by simp [seg_len]) rfl rfl (hO8.alloc _) (Rd.one w7 w7.heap.size rfl 2 hPR.1 hPR.2) (by simp) (by omega) (by simp; omega) ?_; intro a9 c9 w9 hO9 hg9)
                  have hS9 : SS w0 w9 X ov ks an s3 := (hS7.keep bL).gb (hO8.alloc _) hXw hg9
                  have hF9 : Off w w9 X := (hF8.low (bL.mono hz8)).far hg9 (fun j hj => (hO8.lt j hj).1)
                  go_roundw
                  case rel => exact ⟨k + 1, s3, by omega, by have := HP.out; omega, by rw [← hseg.out]; exact hO9, by have := HP.out; go_num, hS9, hF9, by omega, by have e := HP.out; rw [show f + (k + 1) = P + 1 by omega]; exact HR'⟩
                  case measure => simp [intOf]; omega
                · rw [h3k] at hs8
                  have HR' : (runN t (nf f n) s).2.2 = s3 := by rw [HR.out, Hup.out, if_pos rfl]; exact upTo_mono t r _ _ s3 h3k
                  have HD : (runN t (nf f n) s).2.1 = r := by rw [HR.out]
                  go_wp2_with fail
                  go_meet
                  case rel => exact ⟨k, s3, hk2, by have := HP.out; omega, hO8, by rw [HP.out], hS7, hF8, HR', HD, fun h => by rw [h3k] at h; cases h⟩
              · have HR' : runN t (nf f n) s = (k, d, s3) := by rw [HR.out, Hup.out, if_neg hrd]; simp
                cases d <;> cases r <;> first | (exact absurd rfl hrd) | skip
                all_goals
                  clear hrd
                  go_wp2_with fail
                  go_meet
                  case rel => exact ⟨k, s3, hk2, by have := HP.out; omega, hO8, by rw [HP.out], hS7, hF8, by rw [HR'], by rw [HR'], fun _ => by rw [HR']⟩
            · rw [hsk] at hst
              have HR' : (runN t (nf f n) s).2.2 = s' := by rw [HR.out]; exact upTo_mono t d _ _ s' hsk
              have HD : (runN t (nf f n) s).2.1 = d := by rw [HR.out]
              go_wp2_with fail
              go_meet
              case rel => exact ⟨k, s', hk2, by have := HP.out; omega, hO, by rw [HP.out], hS, hF, HR', HD, fun h => by rw [hsk] at h; cases h⟩
      case rest =>
        obtain ⟨k, s', hk2, hkn, hO, rfl, hS, hF, hst, hd, hgo⟩ := hcut
        clear hS5 hF5 hO6 Hrun hal2
        generalize wc = W6 at *
        obtain ⟨oa, oc, eo⟩ := hO.form
        rw [seg_len] at eo
        subst eo
        obtain ⟨P, hP⟩ : ∃ P, f + k = P := ⟨_, rfl⟩
        rw [hP] at hkn ⊢
        have HP : Hid (f + k = P) := hP
        clear hP
        have Hgo : Hid (s'.k = false → (runN t (nf f n) s).1 = k) := hgo
        have Hst : Hid ((runN t (nf f n) s).2.2 = s') := hst
        have Hd : Hid ((runN t (nf f n) s).2.1 = d) := hd
        clear hgo hst hd
        cases d
        · go_wp2_with fail
          go_meet
          case rel => exact ⟨k, seg f k, s', hO, by rw [HP.out], by omega, by have := HP.out; omega, seg_len _ _, hS, hF, Hst.out, fun h => ⟨Hgo.out h, by rw [Hd.out, nf_take (by have := HP.out; omega)]; rfl⟩⟩
        · rcases hO.shape with ⟨-, e⟩ | ⟨g, cap, e, hBg, hg, hcap⟩
          · have := congrArg List.length e; rw [seg_len] at this; simp at this; omega
          simp only [Value.slice.injEq] at e
          obtain ⟨rfl, -, rfl⟩ := e
          have hr0 := rvK_zero (seg f k)
          have hk16 : k ≤ 2000 := by have := HP.out; omega
          obtain ⟨G, hG⟩ : ∃ G, seg f k = G := ⟨_, rfl⟩
          have hGl : G.length = k := by rw [← hG]; exact seg_len _ _
          have HG : Hid (seg f k = G) := hG
          rw [hG] at hO hr0
          have hGb : ∀ m, 0 ≤ G.getD m 0 ∧ G.getD m 0 < 9223372036854775808 := by
            intro m
            by_cases hm : m < G.length
            · have : G.getD m 0 ∈ seg f k := by rw [hG]; simp [List.getD, hm]
              have := seg_mem this
              omega
            · simp [List.getD, List.getElem?_eq_none (by omega : G.length ≤ m)]
          have HGl : Hid (G.length = k) := hGl
          clear hG hGl hcap
          go_wp2_with fail
          go_loopw [11] (fun i wr => ∃ j : Nat, j ≤ k / 2 ∧ i = .int .i64 j ∧ Own wr w.heap.size (.slice (some ⟨g, 0, none⟩) k oc) (rvK G j) ∧ W6.grownBy wr (some g)) (fun i _ => k - (intOf i).toNat)
          case atStart => exact ⟨0, Nat.zero_le _, rfl, by rw [hr0]; exact hO, World.grownBy.refl _ _⟩
          case round =>
            obtain ⟨j, hj, rfl, hOj, hGj⟩ := hrel
            generalize wr = W7 at *
            by_cases hlt : j < k / 2
            · have hlti : (j : Int) < (k : Int) / 2 := by omega
              have hst := rvK_step G j (by rw [HGl.out]; exact hlt)
              rw [HGl.out] at hst
              obtain ⟨z, hz⟩ : ∃ z, k - 1 - j = z := ⟨_, rfl⟩
              have c1 := hOj.cell j (by rw [rvK_len, HGl.out]; omega)
              have c2 := hOj.cell z (by rw [rvK_len, HGl.out]; omega)
              rw [rvK_getD G j j (by rw [HGl.out]; omega), if_neg (by rw [HGl.out]; omega)] at c1
              rw [rvK_getD G j z (by rw [HGl.out]; omega), if_neg (by rw [HGl.out]; omega)] at c2
              have f1 := hOj.frozen j
              have f2 := hOj.frozen z
              have e1 := hGb j
              have e2 := hGb z
              rw [hz] at hst
              have Hst2 : Hid (((rvK G j).set j (G.getD z 0)).set z (G.getD j 0) = rvK G (j + 1)) := hst
              have hO1 := hOj.store j (z := G.getD z 0) (by omega) (by omega)
              have hO2 := hO1.store z (z := G.getD j 0) (by omega) (by omega)
              rw [Hst2.out] at hO2
              obtain ⟨y1, hy1⟩ : ∃ y, G.getD j 0 = y := ⟨_, rfl⟩
              obtain ⟨y2, hy2⟩ : ∃ y, G.getD z 0 = y := ⟨_, rfl⟩
              rw [hy1] at c1 e1 hO2
              rw [hy2] at c2 e2 hO1 hO2
              have hzi : (k : Int) - 1 - (j : Int) = (z : Int) := by omega
              have hzw : IntKind.i64.wrap ((k : Int) - 1 - (j : Int)) = (z : Int) := by rw [IntKind.wrap_i64]; omega
              have hjz : ¬ j = z := by omega
              have hzj : ¬ z = j := by omega
              have hzk : (z : Int) < (k : Int) := by omega
              have hjk : (j : Int) < (k : Int) := by omega
              clear hst hy1 hy2 hz Hst2 hGb
              go_wp2_with fail
              go_roundw
              case rel => exact ⟨j + 1, by omega, by go_num, hO2, gb_trans (gb_trans hGj (gb_set _ _ _ _)) (gb_set _ _ _ _)⟩
              case measure => simp [intOf]; omega
            · have hlti : ¬ (j : Int) < (k : Int) / 2 := by omega
              obtain rfl : j = k / 2 := by omega
              have hrv : rvK G (k / 2) = G.reverse := by rw [← HGl.out]; exact rvK_end G
              rw [hrv] at hOj
              go_wp2_with fail
              go_meet
              case rel => exact ⟨k, G.reverse, s', hOj, by rw [HP.out], by omega, by have := HP.out; omega, by simp [HGl.out], hS.gb hO hXw hGj, hF.far hGj (fun j hj => by simp at hj; omega), Hst.out, fun h => ⟨Hgo.out h, by rw [Hd.out, nf_take (by have := HP.out; omega), HG.out]; rfl⟩⟩
    · have h1i : ¬ (f : Int) + 1 < (n : Int) := by omega
      obtain rfl : n = f + 1 := by omega
      go_wp2_with fail
      go_meet
      case rel => exact ⟨1, [(f : Int)], s, oE, rfl, Nat.le_refl _, Nat.le_refl _, rfl, hS1, hF1, by rw [nf_cons (by omega), nf_nil]; rfl, fun _ => by rw [nf_cons (by omega), nf_nil]; exact ⟨rfl, rfl⟩⟩
  case rest =>
    obtain ⟨k, L, s', hO, rfl, hk1, hkn, hLk, hS, hF, hA⟩ := hcut
    clear hS1 hF1 oE w1
    generalize wc = W2 at *
    have hfo := (fillS_mono t (nf (f + k) n) L s')
    have hras := runN_asks t (nf f n) s
    have hrle := runN_le t (nf f n) s
    rw [nf_len] at hrle
    rw [hA.st] at hras
    have H1 : s'.k = true → (oneS t (nf f n) s).2.2 = s' := fun h => by
      have h1 := hA.st
      unfold oneS
      rw [h1]
      exact fillS_mono t _ _ s' h
    have H2 : s'.k = false → oneS t (nf f n) s = fillS t L (nf (f + k) n) s' ∧ ∀ y ∈ L, 0 ≤ y ∧ y < (n : Int) := fun h => by
      obtain ⟨e1, e2⟩ := hA.go h
      refine ⟨?_, ?_⟩
      · unfold oneS
        rw [e1, hA.st, nf_drop hkn, ← e2]
      · intro y hy
        rw [e2] at hy
        have : y ∈ (nf f n).take k := by
          revert hy
          split
          · simp
          · simp
        have := seg_mem (List.mem_of_mem_take this)
        omega
    have hlh : s'.k = false → s'.h.length + 6 * (n - (f + k)) ≤ s.h.length + 6 * (n - f) := fun h => by have := (hA.go h).1; omega
    have HB : Hid ((s'.k = true → (oneS t (nf f n) s).2.2 = s') ∧ (s'.k = false → oneS t (nf f n) s = fillS t L (nf (f + k) n) s' ∧ ∀ y ∈ L, 0 ≤ y ∧ y < (n : Int))) := ⟨H1, H2⟩
    clear H1 H2 hA hfo hras hrle
    clear hk hz1 hfR
    go_wp2_with fail
    go_loopw [8, 9] (fun vo va wr => ∃ (k : Nat) (L : List Int) (s' : St), Own wr w.heap.size vo L ∧ va = .int .i64 ((f + k : Nat) : Int) ∧ 1 ≤ k ∧ f + k ≤ n ∧ L.length = k ∧ SS w0 wr X ov ks an s' ∧ Off w wr X ∧ (s'.k = false → s'.h.length + 6 * (n - (f + k)) ≤ s.h.length + 6 * (n - f)) ∧ Hid ((s'.k = true → (oneS t (nf f n) s).2.2 = s') ∧ (s'.k = false → oneS t (nf f n) s = fillS t L (nf (f + k) n) s' ∧ ∀ y ∈ L, 0 ≤ y ∧ y < (n : Int)))) (fun _ va _ => n - (intOf va).toNat)
    case atStart => exact ⟨k, L, s', hO, rfl, hk1, hkn, hLk, hS, hF, hlh, HB⟩
    case round =>
      clear hO hk1 hkn hLk hS hF hlh HB
      obtain ⟨k, L, s', hO, rfl, hk1, hkn, hLk, hS, hF, hlh, HB⟩ := hrel
      generalize wr = W3 at *
      rcases hO.shape with ⟨-, e⟩ | ⟨g, oc, e, hBg, hg, hcap⟩
      · rw [e] at hLk; simp at hLk; omega
      subst e
      rw [hLk] at hO hcap ⊢
      have HLk : Hid (L.length = k) := hLk
      obtain ⟨P, hP⟩ : ∃ P, f + k = P := ⟨_, rfl⟩
      rw [hP] at hkn HB hlh ⊢
      have HP : Hid (f + k = P) := hP
      have hst := hS.k
      have hk2 : k ≤ 2000 := by omega
      have hPf : f + 1 ≤ P := by omega
      clear hP hLk
      by_cases hend : P < n ∧ k < 6 ∧ s'.k = false
      · obtain ⟨h1, h2, h3⟩ := hend
        have h1i : (P : Int) < (n : Int) := by omega
        have h2i : (k : Int) < 6 := by omega
        rw [h3] at hst
        have hlh3 := hlh h3
        obtain ⟨-, HB2⟩ := HB.out
        obtain ⟨hone, hrng⟩ := HB2 h3
        have HO : Hid (oneS t (nf f n) s = fillS t L (nf P n) s') := hone
        clear hlh HB HB2 hone
        go_wp2_with fail
        go_loopw [13, 14] (fun lo hi wr => ∃ (a b : Nat) (s2 : St), lo = .int .i64 a ∧ hi = .int .i64 b ∧ a ≤ b ∧ b ≤ k ∧ SS w0 wr X ov ks an s2 ∧ Off W3 wr X ∧ Hid (bis t P L (b - a) a b s2 = bis t P L k 0 k s') ∧ s2.h.length + (b - a) ≤ s'.h.length + k) (fun lo hi _ => (intOf hi).toNat - (intOf lo).toNat)
        case atStart => exact ⟨0, k, s', rfl, rfl, Nat.zero_le _, Nat.le_refl _, hS, Off.refl _ _, rfl, by omega⟩
        case round =>
          obtain ⟨a, b, s2, rfl, rfl, hab, hbk, hS2, hF2, Hb, hasks⟩ := hrel
          generalize wr = W4 at *
          have hst2 := hS2.k
          have hO2 : Own W4 w.heap.size (.slice (some ⟨g, 0, none⟩) k oc) L := hO.off (X := X) hXw hF2
          clear hst
          by_cases hgo : a < b ∧ s2.k = false
          · obtain ⟨h4, h5⟩ := hgo
            have h4i : (a : Int) < (b : Int) := by omega
            rw [h5] at hst2
            obtain ⟨m, hm⟩ : ∃ m, (a + b) / 2 = m := ⟨_, rfl⟩
            have hmi : ((a : Int) + (b : Int)) / 2 = (m : Int) := by omega
            have hmw : IntKind.i64.wrap ((a : Int) + (b : Int)) = (a : Int) + (b : Int) := by rw [IntKind.wrap_i64]; omega
            have hmk : m < k := by omega
            have hmki : (m : Int) < (k : Int) := by omega
            have hcm := hO2.cell m (by rw [HLk.out]; exact hmk)
            have hym := hrng (L.getD m 0) (by have := HLk.out; simp [List.getD, show m < L.length by omega])
            obtain ⟨y, hy⟩ : ∃ y : Nat, L.getD m 0 = (y : Int) := ⟨(L.getD m 0).toNat, by omega⟩
            rw [hy] at hcm hym
            have HC := fun W h => hL W s2 P y h (by omega) (by omega) (by omega)
            have hbs : bis t P L (b - a) a b s2 = (if (ask t s2 P (y : Int)).1 then bis t P L (m - a) a m (ask t s2 P (y : Int)).2 else bis t P L (b - (m + 1)) (m + 1) b (ask t s2 P (y : Int)).2) := by
              obtain ⟨q, hq⟩ : ∃ q, b - a = q + 1 := ⟨b - a - 1, by omega⟩
              rw [hq]
              simp only [bis]
              rw [if_pos h4, hm, hy]
              split
              · exact bis_fuel t P L _ _ _ _ _ (by omega) (by omega)
              · exact bis_fuel t P L _ _ _ _ _ (by omega) (by omega)
            have hal := (ask_len t s2 P (y : Int)).2
            generalize hAsk : ask t s2 P (y : Int) = R at *
            obtain ⟨r, s4⟩ := R
            have hal4 : s4.h.length ≤ s2.h.length + 1 := hal
            have Hbs : Hid (bis t P L (b - a) a b s2 = (if r then bis t P L (m - a) a m s4 else bis t P L (b - (m + 1)) (m + 1) b s4)) := hbs
            have hma : a ≤ m := by omega
            have hmb : m < b := by omega
            clear hbs hAsk hal hy hm
            go_wp2_with fail
            refine (HC _ hS2).mono ?_
            rintro e w5 ⟨rfl, hS5, hF5⟩
            have hF6 : Off W3 w5 X := hF2.trans hF5
            clear HC
            have wm : IntKind.i64.wrap ((m : Int) + 1) = (m : Int) + 1 := by rw [IntKind.wrap_i64]; omega
            cases r
            · go_wp2_with fail
              go_roundw
              case rel => exact ⟨m + 1, b, s4, by go_num, rfl, by omega, hbk, hS5, hF6, by have h := Hb.out; rw [Hbs.out] at h; exact h, by omega⟩
              case measure => simp [intOf]; omega
            · go_wp2_with fail
              go_roundw
              case rel => exact ⟨a, m, s4, rfl, rfl, hma, by omega, hS5, hF6, by have h := Hb.out; rw [Hbs.out] at h; exact h, by omega⟩
              case measure => simp [intOf]; omega
          · have hres : (bis t P L k 0 k s').2 = s2 ∧ (s2.k = false → (bis t P L k 0 k s').1 = a) := by
              rw [← Hb.out]
              by_cases h6 : s2.k = true
              · exact ⟨bis_mono t P L _ _ _ s2 h6, fun h => by rw [h6] at h; cases h⟩
              · have h7 : ¬ a < b := fun h => hgo ⟨h, by simpa using h6⟩
                rw [show b - a = 0 by omega]
                exact ⟨rfl, fun _ => rfl⟩
            have Hres : Hid ((bis t P L k 0 k s').2 = s2 ∧ (s2.k = false → (bis t P L k 0 k s').1 = a)) := hres
            have hcase : (¬ a < b) ∨ (a < b ∧ s2.k = true) := by
              by_cases h : a < b
              · right; refine ⟨h, ?_⟩
                cases h8 : s2.k
                · exact absurd ⟨h, h8⟩ hgo
                · rfl
              · exact .inl h
            clear hres hgo Hb
            have hak : a ≤ k := by omega
            have HNEW : Hid ((s2.k = true → (oneS t (nf f n) s).2.2 = s2) ∧ (s2.k = false → oneS t (nf f n) s = fillS t (L.take a ++ [(P : Int)] ++ L.drop a) (nf (f + (k + 1)) n) s2 ∧ ∀ y ∈ L.take a ++ [(P : Int)] ++ L.drop a, 0 ≤ y ∧ y < (n : Int))) := by
              have hP := HP.out
              have hLk := HLk.out
              obtain ⟨q1, q2⟩ := Hres.out
              have hone := HO.out
              rw [nf_cons h1] at hone
              simp only [fillS] at hone
              rw [if_pos (by omega)] at hone
              have hput : (putS t P L s').2 = s2 := by unfold putS; rw [hLk]; exact q1
              refine ⟨fun h => ?_, fun h => ⟨?_, ?_⟩⟩
              · rw [hone, hput]; exact fillS_mono t _ _ s2 h
              · rw [hone, hput, show f + (k + 1) = P + 1 by omega]
                have : (putS t P L s').1 = L.take a ++ [(P : Int)] ++ L.drop a := by unfold putS; rw [hLk, q2 h]; simp
                rw [this]
              · intro y hy
                simp only [List.mem_append, List.mem_singleton] at hy
                rcases hy with (hy | hy) | hy
                · exact hrng y (List.mem_of_mem_take hy)
                · omega
                · exact hrng y (List.mem_of_mem_drop hy)
            have oE4 := Own.empty W4
            have bE4 : Below W4.heap.size W4 (W4.alloc (.cells #[] 2)) := (Below.refl _ W4).alloc (Nat.le_refl _) _
            have hPR : -9223372036854775808 ≤ (P : Int) ∧ (P : Int) < 9223372036854775808 := by omega
            have hz4 : w.heap.size ≤ W4.heap.size := Nat.le_trans hF.1 hF2.1
            have hgW : g < W4.heap.size := Nat.lt_of_lt_of_le hg hF2.1
            have haki : (a : Int) ≤ (k : Int) := by omega
            have haoi : (k : Int) ≤ (oc : Int) := by omega
            have haci : (a : Int) ≤ (oc : Int) := by omega
            have hrdO := hO2.rd
            clear HO hrng Hres
            rcases hcase with h4 | ⟨h4, h5⟩
            · have h4i : ¬ (a : Int) < (b : Int) := by omega
              rcases Nat.lt_or_ge a oc with hoc | hoc
              · have hne : ¬ oc = a := by omega
                have RT : ∀ W, Below W4.heap.size W4 W → Rd W (.slice (some ⟨g, a, none⟩) (k - a) (oc - a)) (L.drop a) := fun W h => by
                  obtain ⟨a1, c1, e1, hl1, hz1, hn1, hc1⟩ := hrdO.keep h
                  simp only [Value.slice.injEq] at e1
                  obtain ⟨rfl, -, rfl⟩ := e1
                  have hk' := HLk.out
                  refine ⟨_, _, by rw [List.length_drop, hk'], by simp; omega, hz1.drop a, ⟨by simp; omega, fun h => by cases h⟩, fun h0 => ?_⟩
                  obtain ⟨b2, o2, e2, hb2, hcc⟩ := hc1 (by omega)
                  simp only [Option.some.injEq, Addr.mk.injEq, and_true] at e2
                  obtain ⟨rfl, rfl⟩ := e2
                  refine ⟨g, a, rfl, hb2, fun q hq => ?_⟩
                  have := hcc (a + q) (by simp at hq; omega)
                  rw [Nat.zero_add] at this
                  rw [this]
                  simp [List.getD]
                go_wp2_with (at_builtin; first | (refine wpList_append_rg rfl _ _ 22 rfl Try.underlying22 w.heap.size _ _ (L.take a ++ [(P : Int)]) (L.drop a) (k + 1) (by have := HLk.out; simp; omega) rfl rfl hO7 hR7.rd (by omega) (by omega) ?_; intro a8 c8 w8 hO8 hg8) | (refine wpList_append_gb rfl _ _ 22 rfl Try.underlying22 w.heap.size _ _ (L.take a) [(P : Int)] (a + 1) (by have := HLk.out; simp; omega) rfl rfl (hU6.alloc _) (Rd.one w6 w6.heap.size rfl 2 hPR.1 hPR.2) (by simp) (by omega) (by simp; omega) ?_; intro a7 c7 w7 hO7 hg7; have hg7' : World.grownBy (w6.alloc (.cells #[.int .i64 (P : Int)] 2)) w7 (some g) := hg7; have hR7 := (hO6.alloc (.cells #[.int .i64 (P : Int)] 2)).but hg7' (by rcases hO6.shape with ⟨e1, -⟩ | ⟨g6, cc6, e1, hb6, -⟩ <;> rw [e1] <;> simp [Value.ownBlock] <;> omega); have hz7 : w6.heap.size + 1 ≤ w7.heap.size := by simpa using hg7'.size) | (refine wpList_append_rg rfl _ _ 22 rfl Try.underlying22 W4.heap.size _ _ [] (L.drop a) (k - a) (by have := HLk.out; simp; omega) rfl rfl oE4 (RT _ bE4) (by omega) (by simp) ?_; intro a6 c6 w6 hO6 hg6; have bB6 : Below W4.heap.size W4 w6 := bE4.trans (gb_to hg6 (fun q hq => (oE4.lt q hq).1) (by simp)); have hU6 := (hO2.keep bB6).upto a (by rw [HLk.out]; exact hak); have hz6 := bB6.size))
                have hS6 : SS w0 w6 X ov ks an s2 := hS2.keep bB6
                have hF6 : Off w w6 X := (hF.trans hF2).low (bB6.mono hz4)
                have bL6 : Below w6.heap.size w6 (w6.alloc (.cells #[.int .i64 (P : Int)] 2)) := (Below.refl _ w6).alloc (Nat.le_refl _) _
                have hS7 : SS w0 w7 X ov ks an s2 := (hS6.keep bL6).gb (hU6.alloc _) hXw hg7
                have hF7 : Off w w7 X := (hF6.low (bL6.mono (by omega))).far hg7 (fun j hj => (hU6.lt j hj).1)
                have hS8 : SS w0 w8 X ov ks an s2 := hS7.gb hO7 hXw hg8
                have hF8 : Off w w8 X := hF7.far hg8 (fun j hj => (hO7.lt j hj).1)
                go_roundw
                case rel => exact ⟨k + 1, L.take a ++ [(P : Int)] ++ L.drop a, s2, hO8, by have := HP.out; go_num, by omega, by have := HP.out; omega, by have := HLk.out; simp; omega, hS8, hF8, fun h => by have := HP.out; omega, HNEW⟩
                case measure => simp [intOf]; omega
              · obtain rfl : a = k := by omega
                obtain rfl : oc = a := by omega
                have RT : ∀ W, Below W4.heap.size W4 W → Rd W (.slice (some ⟨g, 0, none⟩) 0 0) (L.drop oc) := fun W h => by
                  rw [List.drop_of_length_le (by rw [HLk.out]; exact Nat.le_refl _)]
                  exact ⟨_, _, rfl, by simp, Limbs.nil, ⟨by simp, fun h => by cases h⟩, fun h => by simp at h⟩
                go_wp2_with (at_builtin; first | (refine wpList_append_rg rfl _ _ 22 rfl Try.underlying22 w.heap.size _ _ (L.take oc ++ [(P : Int)]) (L.drop oc) (oc + 1) (by have := HLk.out; simp; omega) rfl rfl hO7 hR7.rd (by omega) (by omega) ?_; intro a8 c8 w8 hO8 hg8) | (refine wpList_append_gb rfl _ _ 22 rfl Try.underlying22 w.heap.size _ _ (L.take oc) [(P : Int)] (oc + 1) (by have := HLk.out; simp; omega) rfl rfl (hU6.alloc _) (Rd.one w6 w6.heap.size rfl 2 hPR.1 hPR.2) (by simp) (by omega) (by simp; omega) ?_; intro a7 c7 w7 hO7 hg7; have hg7' : World.grownBy (w6.alloc (.cells #[.int .i64 (P : Int)] 2)) w7 (some g) := hg7; have hR7 := (hO6.alloc (.cells #[.int .i64 (P : Int)] 2)).but hg7' (by rcases hO6.shape with ⟨e1, -⟩ | ⟨g6, cc6, e1, hb6, -⟩ <;> rw [e1] <;> simp [Value.ownBlock] <;> omega); have hz7 : w6.heap.size + 1 ≤ w7.heap.size := by simpa using hg7'.size) | (refine wpList_append_rg rfl _ _ 22 rfl Try.underlying22 W4.heap.size _ _ [] (L.drop oc) 0 (by have := HLk.out; simp; omega) rfl rfl oE4 (RT _ bE4) (by omega) (by simp) ?_; intro a6 c6 w6 hO6 hg6; have bB6 : Below W4.heap.size W4 w6 := bE4.trans (gb_to hg6 (fun q hq => (oE4.lt q hq).1) (by simp)); have hU6 := (hO2.keep bB6).upto oc (by rw [HLk.out]; exact Nat.le_refl _); have hz6 := bB6.size))
                have hS6 : SS w0 w6 X ov ks an s2 := hS2.keep bB6
                have hF6 : Off w w6 X := (hF.trans hF2).low (bB6.mono hz4)
                have bL6 : Below w6.heap.size w6 (w6.alloc (.cells #[.int .i64 (P : Int)] 2)) := (Below.refl _ w6).alloc (Nat.le_refl _) _
                have hS7 : SS w0 w7 X ov ks an s2 := (hS6.keep bL6).gb (hU6.alloc _) hXw hg7
                have hF7 : Off w w7 X := (hF6.low (bL6.mono (by omega))).far hg7 (fun j hj => (hU6.lt j hj).1)
                have hS8 : SS w0 w8 X ov ks an s2 := hS7.gb hO7 hXw hg8
                have hF8 : Off w w8 X := hF7.far hg8 (fun j hj => (hO7.lt j hj).1)
                go_roundw
                case rel => exact ⟨oc + 1, L.take oc ++ [(P : Int)] ++ L.drop oc, s2, hO8, by have := HP.out; go_num, by omega, by have := HP.out; omega, by have := HLk.out; simp; omega, hS8, hF8, fun h => by have := HP.out; omega, HNEW⟩
                case measure => simp [intOf]; omega
            · have h4i : (a : Int) < (b : Int) := by omega
              rw [h5] at hst2
              rcases Nat.lt_or_ge a oc with hoc | hoc
              · have hne : ¬ oc = a := by omega
                have RT : ∀ W, Below W4.heap.size W4 W → Rd W (.slice (some ⟨g, a, none⟩) (k - a) (oc - a)) (L.drop a) := fun W h => by
                  obtain ⟨a1, c1, e1, hl1, hz1, hn1, hc1⟩ := hrdO.keep h
                  simp only [Value.slice.injEq] at e1
                  obtain ⟨rfl, -, rfl⟩ := e1
                  have hk' := HLk.out
                  refine ⟨_, _, by rw [List.length_drop, hk'], by simp; omega, hz1.drop a, ⟨by simp; omega, fun h => by cases h⟩, fun h0 => ?_⟩
                  obtain ⟨b2, o2, e2, hb2, hcc⟩ := hc1 (by omega)
                  simp only [Option.some.injEq, Addr.mk.injEq, and_true] at e2
                  obtain ⟨rfl, rfl⟩ := e2
                  refine ⟨g, a, rfl, hb2, fun q hq => ?_⟩
                  have := hcc (a + q) (by simp at hq; omega)
                  rw [Nat.zero_add] at this
                  rw [this]
                  simp [List.getD]
                go_wp2_with (at_builtin; first | (refine wpList_append_rg rfl _ _ 22 rfl Try.underlying22 w.heap.size _ _ (L.take a ++ [(P : Int)]) (L.drop a) (k + 1) (by have := HLk.out; simp; omega) rfl rfl hO7 hR7.rd (by omega) (by omega) ?_; intro a8 c8 w8 hO8 hg8) | (refine wpList_append_gb rfl _ _ 22 rfl Try.underlying22 w.heap.size _ _ (L.take a) [(P : Int)] (a + 1) (by have := HLk.out; simp; omega) rfl rfl (hU6.alloc _) (Rd.one w6 w6.heap.size rfl 2 hPR.1 hPR.2) (by simp) (by omega) (by simp; omega) ?_; intro a7 c7 w7 hO7 hg7; have hg7' : World.grownBy (w6.alloc (.cells #[.int .i64 (P : Int)] 2)) w7 (some g) := hg7; have hR7 := (hO6.alloc (.cells #[.int .i64 (P : Int)] 2)).but hg7' (by rcases hO6.shape with ⟨e1, -⟩ | ⟨g6, cc6, e1, hb6, -⟩ <;> rw [e1] <;> simp [Value.ownBlock] <;> omega); have hz7 : w6.heap.size + 1 ≤ w7.heap.size := by simpa using hg7'.size) | (refine wpList_append_rg rfl _ _ 22 rfl Try.underlying22 W4.heap.size _ _ [] (L.drop a) (k - a) (by have := HLk.out; simp; omega) rfl rfl oE4 (RT _ bE4) (by omega) (by simp) ?_; intro a6 c6 w6 hO6 hg6; have bB6 : Below W4.heap.size W4 w6 := bE4.trans (gb_to hg6 (fun q hq => (oE4.lt q hq).1) (by simp)); have hU6 := (hO2.keep bB6).upto a (by rw [HLk.out]; exact hak); have hz6 := bB6.size))
                have hS6 : SS w0 w6 X ov ks an s2 := hS2.keep bB6
                have hF6 : Off w w6 X := (hF.trans hF2).low (bB6.mono hz4)
                have bL6 : Below w6.heap.size w6 (w6.alloc (.cells #[.int .i64 (P : Int)] 2)) := (Below.refl _ w6).alloc (Nat.le_refl _) _
                have hS7 : SS w0 w7 X ov ks an s2 := (hS6.keep bL6).gb (hU6.alloc _) hXw hg7
                have hF7 : Off w w7 X := (hF6.low (bL6.mono (by omega))).far hg7 (fun j hj => (hU6.lt j hj).1)
                have hS8 : SS w0 w8 X ov ks an s2 := hS7.gb hO7 hXw hg8
                have hF8 : Off w w8 X := hF7.far hg8 (fun j hj => (hO7.lt j hj).1)
                go_roundw
                case rel => exact ⟨k + 1, L.take a ++ [(P : Int)] ++ L.drop a, s2, hO8, by have := HP.out; go_num, by omega, by have := HP.out; omega, by have := HLk.out; simp; omega, hS8, hF8, fun h => by have := HP.out; omega, HNEW⟩
                case measure => simp [intOf]; omega
              · exfalso; omega
      · have hfin : (oneS t (nf f n) s).2.2 = s' ∧ (s'.k = false → (oneS t (nf f n) s).1 = L ∧ (oneS t (nf f n) s).2.1 = nf P n) := by
          obtain ⟨q1, q2⟩ := HB.out
          cases h6 : s'.k
          · obtain ⟨e, -⟩ := q2 h6
            rw [e]
            have : fillS t L (nf P n) s' = (L, nf P n, s') := by
              by_cases h7 : P < n
              · rw [nf_cons h7]
                simp only [fillS]
                rw [if_neg (fun h8 => hend ⟨h7, by rw [HLk.out] at h8; exact h8, h6⟩)]
              · obtain rfl : P = n := by omega
                rw [nf_nil]; rfl
            rw [this]
            exact ⟨rfl, fun _ => ⟨rfl, rfl⟩⟩
          · exact ⟨q1 h6, fun h => by cases h⟩
        have Hfin : Hid ((oneS t (nf f n) s).2.2 = s' ∧ (s'.k = false → (oneS t (nf f n) s).1 = L ∧ (oneS t (nf f n) s).2.1 = nf P n)) := hfin
        have hcase : (¬ P < n) ∨ (P < n ∧ ¬ k < 6) ∨ (P < n ∧ k < 6 ∧ s'.k = true) := by
          by_cases h1 : P < n
          · by_cases h2 : k < 6
            · right; right; refine ⟨h1, h2, ?_⟩
              cases h8 : s'.k
              · exact absurd ⟨h1, h2, h8⟩ hend
              · rfl
            · exact .inr (.inl ⟨h1, h2⟩)
          · exact .inl h1
        clear hfin hend HB hlh
        have hret : RunP t w0 w X n f ov ks an s (.returned (.tuple #[.slice (some ⟨g, 0, none⟩) k oc, .int .i64 (P : Int)])) W3 := ⟨_, k, L, s', by rw [HP.out], hk1, by rw [HP.out]; exact hkn, hO, HLk.out, hS, hF, Hfin.out.1, by rw [HP.out]; exact Hfin.out.2⟩
        have Hret : Hid _ := hret
        clear hret
        rcases hcase with h1 | ⟨h1, h2⟩ | ⟨h1, h2, h3⟩
        · have h1i : ¬ (P : Int) < (n : Int) := by omega
          go_wp2_with fail
          exact bodyPost_ret (v := .tuple #[.slice (some ⟨g, 0, none⟩) k oc, .int .i64 (P : Int)]) (by simp [results, Try.results33, go_sem]) rfl Hret.out
        · have h1i : (P : Int) < (n : Int) := by omega
          have h2i : ¬ (k : Int) < 6 := by omega
          go_wp2_with fail
          exact bodyPost_ret (v := .tuple #[.slice (some ⟨g, 0, none⟩) k oc, .int .i64 (P : Int)]) (by simp [results, Try.results33, go_sem]) rfl Hret.out
        · have h1i : (P : Int) < (n : Int) := by omega
          have h2i : (k : Int) < 6 := by omega
          rw [h3] at hst
          go_wp2_with fail
          exact bodyPost_ret (v := .tuple #[.slice (some ⟨g, 0, none⟩) k oc, .int .i64 (P : Int)]) (by simp [results, Try.results33, go_sem]) rfl Hret.out
end Go.Proofs.Ytlnekedehalbdaa
