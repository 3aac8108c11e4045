import Derived.Test.YtjnalkeopehlbaaGcV
namespace Go.Proofs.Ytjnalkeopehlbaa
open Go.RowKit Go.Maps
set_option linter.unusedVariables false
set_option linter.unusedSimpArgs false

/-- What a look leaves of the rows. -/
def Dd (S S' : Gs) (hs ts hs' ts' : Nat → Sl) : Prop := ∀ y, (S.al y = false ∨ S'.al y = true) → hs' y = hs y ∧ ts' y = ts y
section
variable {w : World} {B sb : Nat} {ov ew : Value} {S : Gs} {hs ts : Nat → Sl}
/-- The rows of what is gone may turn. -/
theorem SS.setH (h : SS w B sb ov ew S hs ts) {ob cap : Nat} (hov : ov = .slice (some ⟨ob, 0, none⟩) S.n cap) (k : Nat) (hk : k < S.n) (hd : S.al (k + 1) = false) (s : Sl) :
    SS (w.setCell ⟨ob, k * 7 + 1, none⟩ s.val) B sb ov ew S (upd hs (k + 1) s) ts ∧ Tr sb ov w ew (w.setCell ⟨ob, k * 7 + 1, none⟩ s.val) ew := by
  have h1 := h.put hov k 1 hk (by omega) s.val S (upd hs (k + 1) s) ts rfl (fun i hi => txA_ne rfl (upd_ne _ _ (by omega)) rfl rfl rfl rfl rfl) (by unfold txA Tx.cs; simp [upd_same]) rfl (fun x hx => ⟨hx, rfl, upd_ne _ _ (by intro e; rw [e, hd] at hx; cases hx), rfl⟩)
  exact ⟨h1.1, Tr.put (by rw [hov]; rfl) h1.2⟩
theorem SS.setT (h : SS w B sb ov ew S hs ts) {ob cap : Nat} (hov : ov = .slice (some ⟨ob, 0, none⟩) S.n cap) (k : Nat) (hk : k < S.n) (hd : S.al (k + 1) = false) (s : Sl) :
    SS (w.setCell ⟨ob, k * 7 + 2, none⟩ s.val) B sb ov ew S hs (upd ts (k + 1) s) ∧ Tr sb ov w ew (w.setCell ⟨ob, k * 7 + 2, none⟩ s.val) ew := by
  have h1 := h.put hov k 2 hk (by omega) s.val S hs (upd ts (k + 1) s) rfl (fun i hi => txA_ne rfl rfl (upd_ne _ _ (by omega)) rfl rfl rfl rfl) (by unfold txA Tx.cs; simp [upd_same]) rfl (fun x hx => ⟨hx, rfl, rfl, upd_ne _ _ (by intro e; rw [e, hd] at hx; cases hx)⟩)
  exact ⟨h1.1, Tr.put (by rw [hov]; rfl) h1.2⟩
end
set_option maxRecDepth 100000 in
set_option maxHeartbeats 2000000 in
theorem lookS_any (B sb K : Nat) (ov : Value) (hK : K ≤ 2500) : ∀ (m X : Nat) (ew : Value) (S : Gs) (hs ts : Nat → Sl) (w : World), SS w B sb ov ew S hs ts → Iv K S → EvB S → alv S ≤ m → X < S.n →
    Calls Try.prog 45 #[.pointer (some ⟨sb, 0, none⟩), .int .i64 ((X : Int) + 1)] w fun e w' => e = .returned (.tuple #[]) ∧ ∃ ew' hs' ts', SS w' B sb ov ew' (look m S (X + 1)) hs' ts' ∧ Tr sb ov w ew w' ew' ∧ Dd S (look m S (X + 1)) hs ts hs' ts' := by
  intro m
  induction m with
  | zero =>
    intro X ew S hs ts w h hI hE hal hX
    have hd : S.al (X + 1) = false := by
      cases e : S.al (X + 1) with
      | false => rfl
      | true =>
        have := sm_one (fun k => if S.al (k + 1) = true then 1 else 0) S.n X hX
        simp only [e, if_true] at this
        unfold alv at hal
        omega
    have hOk := okS_any B sb K ov ew S hs ts ((X : Int) + 1) w h hI (by omega) (by omega) (by have := hI.n; omega)
    rw [show okx S ((X : Int) + 1) = false by unfold okx; rw [show ((X : Int) + 1).toNat = X + 1 by omega, hd, Bool.and_false]] at hOk
    obtain ⟨L0, hL0⟩ : ∃ L0, look 0 S (X + 1) = L0 := ⟨_, rfl⟩
    have HL0 : Hid (look 0 S (X + 1) = L0) := hL0
    rw [hL0]
    clear hL0
    go_enter Try.func45, Try.ntmps45
    go_wp2_with fail
    refine hOk.mono ?_
    rintro e w1 ⟨rfl, hw⟩
    obtain rfl : w = w1 := hw.symm
    clear hw hOk
    go_wp2
    refine bodyPost_ret (results_none rfl _ _ _) rfl ?_
    exact ⟨rfl, ew, hs, ts, by rw [← HL0.out]; exact h, Tr.refl _ _ _ _, fun _ _ => ⟨rfl, rfl⟩⟩
  | succ m ih =>
    intro X ew S hs ts w h hI hE hal hX
    have hnk := hI.n
    have hOk := okS_any B sb K ov ew S hs ts ((X : Int) + 1) w h hI (by omega) (by omega) (by omega)
    have hoe : okx S ((X : Int) + 1) = S.al (X + 1) := by unfold okx; rw [show ((X : Int) + 1).toNat = X + 1 by omega, decide_eq_true (by omega), Bool.true_and]
    rw [hoe] at hOk
    obtain ⟨LM, hLM⟩ : ∃ LM, look (m + 1) S (X + 1) = LM := ⟨_, rfl⟩
    have HLM : Hid (look (m + 1) S (X + 1) = LM) := hLM
    rw [hLM]
    clear hLM hoe
    have hev : S.ev.length ≤ 10000 := by have := evb_le S; unfold EvB at hE; omega
    cases hax : S.al (X + 1) with
    | false =>
      rw [hax] at hOk
      have HE : Hid (LM = S) := by show _ = _; rw [← HLM.out, look, if_pos (.inl hax)]
      go_enter Try.func45, Try.ntmps45
      go_wp2_with fail
      refine hOk.mono ?_
      rintro e w1 ⟨rfl, hw⟩
      obtain rfl : w = w1 := hw.symm
      clear hw hOk
      go_wp2
      refine bodyPost_ret (results_none rfl _ _ _) rfl ?_
      exact ⟨rfl, ew, hs, ts, by rw [HE.out]; exact h, Tr.refl _ _ _ _, fun _ _ => ⟨rfl, rfl⟩⟩
    | true =>
      rw [hax] at hOk
      have hCn := countS_any B sb K X ov ew S hs ts w h hI (by omega) hX
      have hcb := hI.cnt (X + 1)
      have hcb2 : cnt S (X + 1) ≤ 100000000 := by have : S.n * K ≤ 2500 * 2500 := Nat.mul_le_mul (by omega) (by omega); omega
      by_cases hc0 : 0 < cnt S (X + 1)
      · have HE : Hid (LM = S) := by show _ = _; rw [← HLM.out, look, if_pos (.inr hc0)]
        have e0 : (0 : Int) < ((cnt S (X + 1) : Nat) : Int) := by omega
        go_enter Try.func45, Try.ntmps45
        go_wp2_with fail
        refine hOk.mono ?_
        rintro e w1 ⟨rfl, hw⟩
        obtain rfl : w = w1 := hw.symm
        clear hw hOk
        go_wp2_with fail
        refine hCn.mono ?_
        rintro e w1 ⟨rfl, hw⟩
        obtain rfl : w = w1 := hw.symm
        clear hw hCn
        go_wp2
        refine bodyPost_ret (results_none rfl _ _ _) rfl ?_
        exact ⟨rfl, ew, hs, ts, by rw [HE.out]; exact h, Tr.refl _ _ _ _, fun _ _ => ⟨rfl, rfl⟩⟩
      · have hc1 : cnt S (X + 1) = 0 := by omega
        have hFi := finalizeS_any B sb K X ov ew S hs ts w h hI (by omega) (by omega) hX
        have hIf := finS_iv hI (X + 1) (by omega) (by omega)
        have hEf := finS_evb hE (X + 1) (by omega) (by omega)
        have hnf := finS_n S (X + 1)
        rw [hc1] at hCn
        go_enter Try.func45, Try.ntmps45
        go_wp2_with fail
        refine hOk.mono ?_
        rintro e w1 ⟨rfl, hw⟩
        obtain rfl : w = w1 := hw.symm
        clear hw hOk
        go_wp2_with fail
        refine hCn.mono ?_
        rintro e w1 ⟨rfl, hw⟩
        obtain rfl : w = w1 := hw.symm
        clear hw hCn
        go_wp2_with fail
        refine hFi.mono ?_
        rintro e W1 ⟨rfl, ew1, h1, hT1⟩
        clear hFi
        have hCn1 := countS_any B sb K X ov ew1 (finS S (X + 1)) hs ts W1 h1 hIf (by omega) (by omega)
        have hcb := hIf.cnt (X + 1)
        have hcb3 : cnt (finS S (X + 1)) (X + 1) ≤ 100000000 := by rw [hnf] at hcb; have : S.n * K ≤ 2500 * 2500 := Nat.mul_le_mul (by omega) (by omega); omega
        by_cases hc2 : 0 < cnt (finS S (X + 1)) (X + 1)
        · have HE : Hid (LM = finS S (X + 1)) := by show _ = _; rw [← HLM.out, look, if_neg (by rw [hax]; simp [hc1]), if_pos hc2]
          have e0 : (0 : Int) < ((cnt (finS S (X + 1)) (X + 1) : Nat) : Int) := by omega
          go_wp2_with fail
          refine hCn1.mono ?_
          rintro e w2 ⟨rfl, hw⟩
          obtain rfl : W1 = w2 := hw.symm
          clear hw hCn1
          go_wp2
          refine bodyPost_ret (results_none rfl _ _ _) rfl ?_
          exact ⟨rfl, ew1, hs, ts, by rw [HE.out]; exact h1, hT1, fun _ _ => ⟨rfl, rfl⟩⟩
        · have hc3 : cnt (finS S (X + 1)) (X + 1) = 0 := by omega
          rw [hc3] at hCn1
          have haf : (finS S (X + 1)).al (X + 1) = true := by rw [finS_al]; exact hax
          have hevf : (finS S (X + 1)).ev.length ≤ 10000 := by have := evb_le (finS S (X + 1)); unfold EvB at hEf; omega
          have hFr := freeS_any B sb K X ov ew1 (finS S (X + 1)) hs ts W1 h1 hIf (by omega) (by omega) (by omega)
          have HI2 : Hid (Iv K (freeS (finS S (X + 1)) (X + 1))) := freeS_iv hIf (X + 1) haf
          have HE2 : Hid (EvB (freeS (finS S (X + 1)) (X + 1))) := freeS_evb hEf (X + 1) (by omega) (by omega) haf
          have HA2 : Hid (alv (freeS (finS S (X + 1)) (X + 1)) ≤ m) := by
            have h3 := alv_free (S := finS S (X + 1)) (X + 1) (by omega) (by omega) haf
            have h4 : alv (finS S (X + 1)) = alv S := by unfold alv; rw [finS_n, finS_al]
            show _ ≤ _; omega
          have HE : Hid (LM = ((S.hl (X + 1)).map (·.1)).foldl (look m) (freeS (finS S (X + 1)) (X + 1))) := by show _ = _; rw [← HLM.out, look, if_neg (by rw [hax]; simp [hc1]), if_neg hc2]
          have HR := h1.rows (X + 1) haf
          have HRh := h1.hr (X + 1) haf
          have HRt := h1.tr (X + 1) haf
          have HPh : Hid (∀ g, (hs (X + 1)).val.ownBlock = some g → ¬ PF sb ov ew1 g ∧ g < W1.heap.size) := fun g e => ⟨h1.pf_int HRh e, (HRh.lt g e).2⟩
          have hD2 : (freeS (finS S (X + 1)) (X + 1)).al (X + 1) = false := by unfold freeS; simp [upd_same]
          have hl2 : (freeS (finS S (X + 1)) (X + 1)).hl = S.hl := by show (finS S (X + 1)).hl = S.hl; exact finS_hl _ _
          have hal2 : ∀ y, S.al y = false ∨ (freeS (finS S (X + 1)) (X + 1)).al y = true → y ≠ X + 1 := by
            intro y hy e
            subst e
            rcases hy with h5 | h5
            · rw [hax] at h5; cases h5
            · rw [hD2] at h5; cases h5
          have hn2 : (freeS (finS S (X + 1)) (X + 1)).n = S.n := finS_n _ _
          have hle := hI.len (X + 1)
          have hkb : ∀ p ∈ S.hl (X + 1), 1 ≤ p.1 ∧ p.1 ≤ S.n := fun p hp => ⟨(hI.hl _ p hp).1, (hI.hl _ p hp).2.1⟩
          rw [finS_hl] at HR
          clear hal hcb hcb2 hcb3 hc0 hc1 hc2 hc3 hIf hEf hevf haf
          go_wp2_with fail
          refine hCn1.mono ?_
          rintro e w2 ⟨rfl, hw⟩
          obtain rfl : W1 = w2 := hw.symm
          clear hw hCn1
          go_wp2_with fail
          refine hFr.mono ?_
          rintro e W2 ⟨rfl, ew2, h2, hT2⟩
          clear hFr
          obtain ⟨ah, ch, at', ct, eh, et, hcell⟩ := HR
          obtain ⟨ob, cap, hov, hobl, hobz⟩ := h1.shape (by rw [hnf]; omega)
          rw [hnf] at hov
          have HOV : Hid (ov = .slice (some ⟨ob, 0, none⟩) S.n cap) := hov
          obtain ⟨L, hL⟩ : ∃ L, S.hl (X + 1) = L := ⟨_, rfl⟩
          rw [hL] at eh et hcell hle hkb HE
          obtain ⟨LL, hLL⟩ : ∃ LL, L.length = LL := ⟨_, rfl⟩
          have HLL : Hid (L.length = LL) := hLL
          rw [hLL] at eh et hle
          obtain ⟨g, g', hgg⟩ : ∃ g g', 0 < LL → ah = some ⟨g, 0, none⟩ ∧ at' = some ⟨g', 0, none⟩ ∧ ∀ k (hk : k < L.length), W1.cell? ⟨g, k, none⟩ = some (.int .i64 ((L[k].1 : Nat) : Int)) := by
            by_cases h0 : 0 < LL
            · obtain ⟨g, g', e1, e2, h3⟩ := hcell (by omega)
              exact ⟨g, g', fun _ => ⟨e1, e2, fun k hk => (h3 k hk).1⟩⟩
            · exact ⟨0, 0, fun h => absurd h h0⟩
          have hch : LL ≤ ch ∧ LL ≤ ct := by
            have k1 := HRh.rd
            have k2 := HRt.rd
            rw [eh] at k1
            rw [et] at k2
            obtain ⟨_, _, e1, _, _, h5, _⟩ := k1
            obtain ⟨_, _, e2, _, _, h6, _⟩ := k2
            simp only [Value.slice.injEq] at e1 e2
            obtain ⟨_, e3, rfl⟩ := e1
            obtain ⟨_, e4, rfl⟩ := e2
            omega
          obtain ⟨S2, hS2⟩ : ∃ S2, freeS (finS S (X + 1)) (X + 1) = S2 := ⟨_, rfl⟩
          rw [hS2] at HI2 HE2 HA2 HE hD2 hl2 hal2 hn2 h2
          have HAL : Hid (∀ y, S.al y = false → S2.al y = false) := fun y hy => by
            rw [← hS2]
            unfold freeS
            by_cases e : y = X + 1
            · subst e; simp [upd_same]
            · simp only [upd_ne _ _ e, finS_al]; exact hy
          have HHX : Hid (hs (X + 1) = ⟨ah, LL, ch⟩ ∧ ts (X + 1) = ⟨at', LL, ct⟩) := by
            have sl : ∀ (s : Sl) (a : Option Addr) (n c : Nat), s.val = .slice a n c → s = ⟨a, n, c⟩ := fun s a n c e => by
              obtain ⟨q1, q2, q3⟩ := s
              simp only [Sl.val, Value.slice.injEq] at e
              obtain ⟨rfl, rfl, rfl⟩ := e
              rfl
            exact ⟨sl _ _ _ _ eh, sl _ _ _ _ et⟩
          clear hL hLL hov hS2 hcell eh et HRh HRt
          have HG : Hid (0 < LL → ah = some ⟨g, 0, none⟩ ∧ at' = some ⟨g', 0, none⟩ ∧ ∀ k (hk : k < L.length), W1.cell? ⟨g, k, none⟩ = some (.int .i64 ((L[k].1 : Nat) : Int))) := hgg
          have HPG : Hid (0 < LL → ¬ PF sb ov ew1 g ∧ g < W1.heap.size) := fun h0 => HPh.out g (by rw [HHX.out.1]; show (Value.slice ah LL ch).ownBlock = some g; rw [(HG.out h0).1]; rfl)
          have HT12 : Hid (Tr sb ov W1 ew1 W2 ew2) := hT2
          have H2 : Hid (SS W2 B sb ov ew2 S2 hs ts) := h2
          clear hgg hT2 h2 h1
          have hXi : (X : Int) < (S.n : Int) := by omega
          go_wp2_with fail
          go_loopg [4] LL (fun gg q wq => ∃ (j r cc cc' : Nat) (aj aj' : Option Addr) (ewj : Value) (hsj tsj : Nat → Sl), j + r = LL ∧ r ≤ gg ∧ gg ≤ LL ∧ r ≤ cc ∧ r ≤ cc' ∧ (0 < r → aj = some ⟨g, j, none⟩ ∧ aj' = some ⟨g', j, none⟩) ∧ hsj (X + 1) = ⟨aj, r, cc⟩ ∧ tsj (X + 1) = ⟨aj', r, cc'⟩ ∧
            SS wq B sb ov ewj (((L.map (·.1)).take j).foldl (look m) S2) hsj tsj ∧ Tr sb ov W1 ew1 wq ewj ∧ (∀ y, y ≠ X + 1 → (S2.al y = false ∨ (((L.map (·.1)).take j).foldl (look m) S2).al y = true) → hsj y = hs y ∧ tsj y = ts y))
          case atStart => exact ⟨0, LL, ch, ct, ah, at', ew2, hs, ts, by omega, Nat.le_refl _, Nat.le_refl _, hch.1, hch.2, fun h0 => ⟨(HG.out h0).1, (HG.out h0).2.1⟩, HHX.out.1, HHX.out.2, H2.out, HT12.out, fun _ _ _ => ⟨rfl, rfl⟩⟩
          case round =>
            obtain ⟨j, r, cc, cc', aj, aj', ewj, hsj, tsj, hjr, hrg, hgL, hcc, hcc', haj, hhj, htj, hS, hT, hD⟩ := hrel
            obtain ⟨hIj, hEj, hLj⟩ := looks_all K m ((L.map (·.1)).take j) S2 HI2.out HE2.out
            generalize wr = R1 at *
            obtain ⟨c, b0, b1, b2, bf⟩ := hS.boxc
            rw [HOV.out] at b0
            have hnj : (((L.map (·.1)).take j).foldl (look m) S2).n = S.n := hLj.n.trans hn2
            have hcl := (hS.cells (by rw [hnj]; exact HOV.out) X (by rw [hnj]; exact hX))
            have d1 := hcl.2.1
            have d2 := hcl.2.2.1
            rw [hhj] at d1
            rw [htj] at d2
            simp only [Sl.val] at d1 d2
            clear hcl
            cases r with
            | zero =>
              have hjL : (L.map (·.1)).take j = L.map (·.1) := List.take_of_length_le (by rw [List.length_map, HLL.out]; omega)
              rw [hjL] at hS hLj hD
              have HFin : Hid (SS R1 B sb ov ewj LM hsj tsj) := by show SS _ _ _ _ _ _ _ _; rw [HE.out]; exact hS
              have HDf : Hid (Dd S LM hs ts hsj tsj) := by
                intro y hy
                rw [HE.out] at hy
                have hne : y ≠ X + 1 := by
                  intro e
                  subst e
                  rcases hy with h5 | h5
                  · rw [hax] at h5; cases h5
                  · have := hLj.al _ h5; rw [hD2] at this; cases this
                exact hD y hne (hy.imp (HAL.out y) id)
              have HTf : Hid (Tr sb ov w ew R1 ewj) := hT1.trans hT
              clear hS hLj hD hIj hEj hjL hcc hcc' haj hhj htj
              go_wp2
              go_end0
              exact ⟨rfl, ewj, hsj, tsj, HFin.out, HTf.out, HDf.out⟩
            | succ r =>
              obtain ⟨rfl, rfl⟩ := haj (by omega)
              have hjl : j < L.length := by rw [HLL.out]; omega
              have q1 : R1.cell? ⟨g, j, none⟩ = some (.int .i64 ((L[j].1 : Nat) : Int)) := by
                rw [World.cell?_of_block (a := ⟨g, j, none⟩) (hT.kp.block g (HPG.out (by omega)).2 (HPG.out (by omega)).1)]
                exact (HG.out (by omega)).2.2 j hjl
              have hkj := hkb L[j] (List.getElem_mem hjl)
              obtain ⟨Y, hY⟩ : ∃ Y : Nat, L[j].1 = Y + 1 := ⟨L[j].1 - 1, by omega⟩
              rw [hY] at q1 hkj
              rw [show ((Y + 1 : Nat) : Int) = (Y : Int) + 1 by omega] at q1
              have f1 := hS.frozen (by rw [hnj]; exact HOV.out) (X * 7 + 1)
              obtain ⟨cc, rfl⟩ : ∃ c, cc = c + 1 := ⟨cc - 1, by omega⟩
              obtain ⟨cc', rfl⟩ : ∃ c, cc' = c + 1 := ⟨cc' - 1, by omega⟩
              have hdj : (((L.map (·.1)).take j).foldl (look m) S2).al (X + 1) = false := by
                cases e : (((L.map (·.1)).take j).foldl (look m) S2).al (X + 1) with
                | false => rfl
                | true => have := hLj.al _ e; rw [hD2] at this; cases this
              obtain ⟨SJ, hSJ⟩ : ∃ SJ, ((L.map (·.1)).take j).foldl (look m) S2 = SJ := ⟨_, rfl⟩
              have HSJ1 : Hid (((L.map (·.1)).take (j + 1)).foldl (look m) S2 = look m SJ (Y + 1)) := by
                show _ = _
                rw [List.take_succ_eq_append_getElem (by rw [List.length_map]; exact hjl), List.foldl_append, hSJ, List.getElem_map, hY]
                rfl
              rw [hSJ] at hS hIj hEj hLj hnj hdj hD
              obtain ⟨A1, hA1⟩ : ∃ A1 : Option Addr, (if cc = 0 then some ⟨g, j, none⟩ else some ⟨g, j + 1, none⟩) = A1 := ⟨_, rfl⟩
              obtain ⟨A2, hA2⟩ : ∃ A2 : Option Addr, (if cc' = 0 then some ⟨g', j, none⟩ else some ⟨g', j + 1, none⟩) = A2 := ⟨_, rfl⟩
              have HAA : Hid (0 < r → A1 = some ⟨g, j + 1, none⟩ ∧ A2 = some ⟨g', j + 1, none⟩) := fun h0 => ⟨by rw [← hA1, if_neg (by omega)], by rw [← hA2, if_neg (by omega)]⟩
              obtain ⟨hS3, hT3⟩ := hS.setH (by rw [hnj]; exact HOV.out) X (by rw [hnj]; exact hX) hdj ⟨A1, r, cc⟩
              have hS3d := hS3.keep (Below.refl _ _).drew
              have hT3d := hT3.trans (hS3.trk (Below.refl _ _).drew)
              simp only [Sl.val] at hS3d hT3d
              clear hS3 hT3
              go_upto_region 6 with fail
              go_region
              try simp only [hA1]
              generalize (R1.setCell ⟨ob, X * 7 + 1, none⟩ (.slice A1 r cc)).drew = R2 at *
              clear b0 b1 b2 bf d1 d2 q1 f1
              obtain ⟨c, b0, b1, b2, bf⟩ := hS3d.boxc
              rw [HOV.out] at b0
              have d2 := (hS3d.cells (by rw [hnj]; exact HOV.out) X (by rw [hnj]; exact hX)).2.2.1
              rw [htj] at d2
              simp only [Sl.val] at d2
              have f2 := hS3d.frozen (by rw [hnj]; exact HOV.out) (X * 7 + 2)
              obtain ⟨hS4, hT4⟩ := hS3d.setT (by rw [hnj]; exact HOV.out) X (by rw [hnj]; exact hX) hdj ⟨A2, r, cc'⟩
              have hS4d := hS4.keep (Below.refl _ _).drew
              have hT4d := (hT3d.trans hT4).trans (hS4.trk (Below.refl _ _).drew)
              simp only [Sl.val] at hS4d hT4d
              clear hS4 hT4 hT3d
              go_upto_region 7 with fail
              go_region
              try simp only [hA2]
              generalize (R2.setCell ⟨ob, X * 7 + 2, none⟩ (.slice A2 r cc')).drew = R3 at *
              clear b0 b1 b2 bf d2 f2 hS3d hA1 hA2
              have hLk := ih Y ewj SJ (upd hsj (X + 1) ⟨A1, r, cc⟩) (upd tsj (X + 1) ⟨A2, r, cc'⟩) R3 hS4d hIj hEj (by have := hLj.alv; have := HA2.out; omega) (by rw [hnj]; omega)
              go_wp2_with fail
              refine hLk.mono ?_
              rintro e R4 ⟨rfl, ew4, hs4, ts4, hS5, hT5, hD5⟩
              obtain ⟨-, -, hLq⟩ := look_all K m SJ (Y + 1) hIj hEj
              obtain ⟨x1, x2⟩ := hD5 (X + 1) (.inl hdj)
              rw [upd_same] at x1 x2
              have HT6 : Hid (Tr sb ov W1 ew1 R4 ew4) := (hT.trans hT4d).trans hT5
              have HS6 : Hid (SS R4 B sb ov ew4 (((L.map (·.1)).take (j + 1)).foldl (look m) S2) hs4 ts4) := by show SS _ _ _ _ _ _ _ _; rw [HSJ1.out]; exact hS5
              have HD6 : Hid (∀ y, y ≠ X + 1 → (S2.al y = false ∨ (((L.map (·.1)).take (j + 1)).foldl (look m) S2).al y = true) → hs4 y = hs y ∧ ts4 y = ts y) := by
                intro y hy h5
                rw [HSJ1.out] at h5
                have hp : SJ.al y = false ∨ (look m SJ (Y + 1)).al y = true := h5.imp (fun h6 => by
                  cases e : SJ.al y with
                  | false => rfl
                  | true => rw [hLj.al y e] at h6; cases h6) id
                obtain ⟨z1, z2⟩ := hD5 y hp
                rw [upd_ne _ _ hy] at z1 z2
                obtain ⟨z3, z4⟩ := hD y hy (h5.imp id (fun h6 => hLq.al y h6))
                exact ⟨z1.trans z3, z2.trans z4⟩
              clear hLk hS5 hT5 hD5 hS4d hT4d hT hS hD hLq
              go_wp2
              go_roundg r
              case measure => omega
              case rel => exact ⟨j + 1, r, cc, cc', A1, A2, ew4, hs4, ts4, by omega, Nat.le_refl _, by omega, by omega, by omega, HAA.out, x1, x2, HS6.out, HT6.out, HD6.out⟩
end Go.Proofs.Ytjnalkeopehlbaa
