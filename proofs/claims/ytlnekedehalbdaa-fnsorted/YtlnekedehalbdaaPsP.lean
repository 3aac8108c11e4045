import Derived.Test.YtlnekedehalbdaaPsL
namespace Go.Proofs.Ytlnekedehalbdaa
open Go.RowKit
set_option linter.unusedVariables false
set_option linter.unusedSimpArgs false

def PInv (t : Tl) (E : Nat → Prop) (S : World → St → Prop) (w : World) (n : Nat) (Ls : List (List Int)) (s : St) (vr vn : Value) (wr : World) : Prop := ∃ (Rs Ns : List (List Int)) (s2 : St), RY E w vr Rs ∧ RO E wr w.heap.size vn Ns ∧ S wr s2 ∧ OfE E w wr ∧ Ns.length + Rs.length ≤ Ls.length ∧ (∀ l ∈ Rs, ∀ y ∈ l, 0 ≤ y ∧ y < (n : Int)) ∧ s2.h.length + tot Rs ≤ s.h.length + tot Ls ∧ Hid (pairS t Ls s = (Ns ++ (pairS t Rs s2).1, (pairS t Rs s2).2))
set_option maxRecDepth 100000 in
set_option maxHeartbeats 1000000 in
theorem pairs_any (t : Tl) (n Z Y : Nat) (E : Nat → Prop) (S : World → St → Prop) (T : Tlr t n Z Y E S) (w : World) (vr : Value) (Ls : List (List Int)) (s : St) (hn : n ≤ 2000) (hS : S w s) (hr : RY E w vr Ls)
    (hA : ∀ l ∈ Ls, ∀ y ∈ l, 0 ≤ y ∧ y < (n : Int)) (hl : s.h.length + tot Ls < 1000000) (hLn : Ls.length ≤ 2000) :
    Calls Try.prog 36 #[.pointer (some ⟨Y, 0, none⟩), vr] w fun e w' => ∃ v, e = .returned v ∧ RO E w' w.heap.size v (pairS t Ls s).1 ∧ S w' (pairS t Ls s).2 ∧ OfE E w w' := by
  have hEw := T.lt w s hS
  have hZw := T.bel w s hS
  generalize hM : pairS t Ls s = M
  have HM : Hid (pairS t Ls s = M) := hM
  clear hM
  have bE := al_below w (.cells #[] 22)
  have rE := RO.nil E w
  obtain ⟨ra0, rc0, rfl⟩ := hr.form
  go_enter Try.func36, Try.ntmps36
  go_wp2_with fail
  go_loopw [1, 5] (fun vr vn wr => PInv t E S w n Ls s vr vn wr) (fun vr _ _ => slM vr)
  case atStart => exact ⟨Ls, [], s, hr, rE, T.al hS bE, OfE.below bE, by simp, hA, Nat.le_refl _, by rw [List.nil_append]; exact rfl⟩
  case round =>
    obtain ⟨Rs, Ns, s2, hR, hN, hS2, hF, hcnt, hrng, has, HP⟩ := hrel
    clear rE bE
    generalize wr = W1 at *
    have hz1 := hF.1
    obtain ⟨na, nc, rfl⟩ := hN.form
    obtain ⟨ra, rc, rfl⟩ := hR.form
    obtain ⟨NN, hNN⟩ : ∃ NN, Ns.length = NN := ⟨_, rfl⟩
    have HNN : Hid (Ns.length = NN) := hNN
    obtain ⟨NR, hNR⟩ : ∃ NR, Rs.length = NR := ⟨_, rfl⟩
    have HNR : Hid (Rs.length = NR) := hNR
    rw [hNN] at hcnt hN ⊢
    rw [hNR] at hcnt hR ⊢
    clear hNN hNR
    by_cases h1 : 1 < NR
    · obtain ⟨NQ, rfl⟩ : ∃ q, NR = q + 2 := ⟨NR - 2, by omega⟩
      have h1i : (1 : Int) < (NQ : Int) + 2 := by omega
      have hL0 : 0 < Rs.length := by rw [HNR.out]; omega
      have hL1 : 1 < Rs.length := by rw [HNR.out]; omega
      obtain ⟨g, off, rfl, hgz, hgE, hgS, hcap, a1, c1, hc1, hr1⟩ := hR.at 0 hL0
      obtain ⟨g', off', e', _, _, _, _, a2, c2, hc2, hr2⟩ := hR.at 1 hL1
      simp only [Option.some.injEq, Addr.mk.injEq, and_true] at e'
      obtain ⟨rfl, rfl⟩ := e'
      simp only [Nat.add_zero] at hc1
      have KEEP : ∀ W, OfE E w W → W.cell? ⟨g, off, none⟩ = some (.slice a1 Rs[0].length c1) ∧ W.cell? ⟨g, off + 1, none⟩ = some (.slice a2 Rs[1].length c2) := fun W h => by
        have hb := h.2 g hgz hgE hgS.nq
        exact ⟨(World.cell?_of_block (a := ⟨g, off, none⟩) hb).trans hc1, (World.cell?_of_block (a := ⟨g, off + 1, none⟩) hb).trans hc2⟩
      obtain ⟨d1, d2⟩ := KEEP W1 hF
      have hdr := hR.drop2 (by omega)
      have hrng2 : ∀ l ∈ Rs.drop 2, ∀ y ∈ l, 0 ≤ y ∧ y < (n : Int) := fun l hl => hrng l (List.mem_of_mem_drop hl)
      have htw := tot_two Rs 0 hL1
      have hpt := pair_two t Rs 0 hL1 s2
      simp only [List.drop_zero, Nat.zero_add] at htw hpt
      have HC := fun W (h : S W s2) (ha : RdY E W (.slice a1 Rs[0].length c1) Rs[0]) (hb : RdY E W (.slice a2 Rs[1].length c2) Rs[1]) => merged_any t n Z Y E S T W (.slice a1 Rs[0].length c1) (.slice a2 Rs[1].length c2) Rs[0] Rs[1] s2 hn h ha hb (hrng _ (List.getElem_mem hL0)) (hrng _ (List.getElem_mem hL1)) (by omega)
      have hml := mrg2_asks t Rs[0] Rs[1] s2
      have has4 : (mrg2 t Rs[0] Rs[1] s2).2.h.length + tot (Rs.drop 2) ≤ s.h.length + tot Ls := by omega
      have HPT : Hid (pairS t Rs s2 = ((mrg2 t Rs[0] Rs[1] s2).1 :: (pairS t (Rs.drop 2) (mrg2 t Rs[0] Rs[1] s2).2).1, (pairS t (Rs.drop 2) (mrg2 t Rs[0] Rs[1] s2).2).2)) := hpt
      generalize hMM : mrg2 t Rs[0] Rs[1] s2 = M1 at *
      obtain ⟨ML, Ms⟩ := M1
      have hRF1 := hr1.off hF
      have hRF2 := hr2.off hF
      have hlen2 : (Rs.drop 2).length = NQ := by simp [HNR.out]
      rw [HNR.out] at hdr hcap
      rw [Nat.add_sub_cancel] at hdr
      generalize Rs[0].length = L1 at *
      generalize Rs[1].length = L2 at *
      have HL2 : Hid ((Rs.drop 2).length = NQ) := hlen2
      clear hMM hpt htw hml has hlen2 hc1 hc2 hr1 hr2
      have hFd : OfE E W1 W1.drew := OfE.below (Below.refl _ _).drew
      have hNl : NN ≤ 2000 := by omega
      have hneF : some g ≠ (Value.slice na NN nc).ownBlock := by
        obtain ⟨sl0, p1, _⟩ := hN
        intro e
        have := (p1.lt _ e.symm).1
        omega
      have q1 : (2 : Int) ≤ (NQ : Int) + 2 := by omega
      have q2 : (NQ : Int) + 2 ≤ (rc : Int) := by omega
      have q3 : (0 : Int) < (NQ : Int) + 2 := by omega
      go_wp2_with fail
      go_region_held3 (fun W => W.cell? ⟨g, off, none⟩ = some (.slice a1 L1 c1) ∧ W.cell? ⟨g, off + 1, none⟩ = some (.slice a2 L2 c2)) (go_keep) (first | (go_at_call 43; refine (HC _ (T.al hS2 (Below.refl _ _).drew) (hRF1.off hFd) (hRF2.off hFd)).mono ?_; rintro e w5 ⟨v5, rfl, hO5, hS5, hF5⟩; obtain ⟨va, vc, ev⟩ := hO5.form; subst ev; have hF6 : OfE E w w5 := (hF.trans hFd).trans hF5; have k1 : w5.cell? ⟨g, off, none⟩ = some (.slice a1 L1 c1) := (KEEP w5 hF6).1; have k2 : w5.cell? ⟨g, off + 1, none⟩ = some (.slice a2 L2 c2) := (KEEP w5 hF6).2; obtain ⟨sls, o1, o2, o3⟩ := (hN.off hEw (hFd.trans hF5)).off hEw (OfE.below (al_below w5 (.cells #[.slice va ML.length vc] 22))); have hsl : Hid (sls.length = NN) := (by rw [o2]; exact HNN.out); have hz5 := hF6.1) | (refine step_append_one Try.info22 rfl (by decide) rfl (.tmp 10) (.tmp 19) 57 rfl Try.underlying57 w.heap.size _ sls ⟨va, ML.length, vc⟩ trivial w5.heap.size 1 rfl rfl o1 (sl_cell w5 va ML.length vc) (by rw [hsl.out]; omega) (by simp; omega) ?_; intro a6 c6 w6 hO6 hg6; have k3 := hg6.cell (cell_al _ k1) hneF; have k4 := hg6.cell (cell_al _ k2) hneF))
      have hI6 := (hO5.rdY (E := E) (fun q hq he => by have := (hO5.lt q hq).1; have := hEw q he; have : W1.drew.heap.size = W1.heap.size := rfl; omega)).off (OfE.below (al_below w5 (.cells #[.slice va ML.length vc] 22)))
      have hR6 := RO.snoc o1 o2 o3 hg6 hO6 hI6
      have hS6 := T.gs (T.al hS5 (al_below w5 (.cells #[.slice va ML.length vc] 22))) o1 hZw hEw hg6
      have hF7 : OfE E w w6 := (hF6.low ((al_below w5 (.cells #[.slice va ML.length vc] 22)).mono hz5)).far hg6 (fun j hj => (o1.lt j hj).1)
      clear k3 k4 KEEP HC
      go_wp2_with fail
      go_roundw
      case rel =>
        have hrel2 : PInv t E S w n Ls s (.slice (if rc = 2 then some ⟨g, off, none⟩ else some ⟨g, off + 2, none⟩) NQ (rc - 2)) (.slice a6 (Ns.length + 1) c6) w6 := ⟨Rs.drop 2, Ns ++ [ML], Ms, hdr, by rw [← o2]; simpa using hR6, hS6, hF7, by have := HNN.out; have := HL2.out; simp only [List.length_append, List.length_singleton]; omega, hrng2, has4, by have h := HP.out; rw [HPT.out] at h; exact h.trans (by simp)⟩
        first | exact hrel2 | ((repeat apply Exists.intro); exact ⟨hrel2, rfl⟩)
      case measure => simp [slM]
    · have h1i : ¬ (1 : Int) < (NR : Int) := by omega
      have HP2 : Hid (M = (Ns ++ Rs, s2)) := by
        have h := HP.out
        rw [HM.out] at h
        have e2 : pairS t Rs s2 = (Rs, s2) := by
          have h3 : Rs.length ≤ 1 := by rw [HNR.out]; omega
          match Rs, h3 with
          | [], _ => rfl
          | [_], _ => rfl
          | _ :: _ :: _, h3 => simp at h3
        rw [e2] at h
        exact h
      obtain ⟨sls, o1, o2, o3⟩ := hN
      obtain ⟨rls, p1, p2, p3, p4⟩ := hR.off hF
      have hsl : Hid (sls.length = NN) := (by rw [o2]; exact HNN.out)
      have hrl : Hid (rls.length = NR) := (by rw [p2]; exact HNR.out)
      clear HP
      go_wp2_with (at_builtin; refine wpList_append_rdG Try.info22 rfl (by decide) rfl _ _ 57 rfl Try.underlying57 w.heap.size _ _ sls rls rfl rfl o1 p1 (by rw [hsl.out, hrl.out]; omega) hz1 ?_; intro a6 c6 w6 hO6 hg6)
      have hR6 := RO.app o1 o2 o3 hg6 hO6 p2 p3
      have hS6 := T.gs hS2 o1 hZw hEw hg6
      have hF7 : OfE E w w6 := hF.far hg6 (fun j hj => (o1.lt j hj).1)
      have hR7 : RO E w6 w.heap.size (.slice a6 (Ns.length + Rs.length) c6) (Ns ++ Rs) := by rw [← o2, ← p2]; simpa using hR6
      go_ret
      rw [HP2.out]
      exact ⟨_, rfl, hR7, hS6, hF7⟩
end Go.Proofs.Ytlnekedehalbdaa
