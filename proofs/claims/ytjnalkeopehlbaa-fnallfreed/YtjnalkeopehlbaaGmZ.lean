import Derived.Test.YtjnalkeopehlbaaGmY
import Derived.Test.YtjnalkeopehlbaaGcY
namespace Go.Proofs.Ytjnalkeopehlbaa
open Go.RowKit Go.Maps
set_option linter.unusedVariables false
set_option linter.unusedSimpArgs false

theorem weakS_iv {k : Nat} {S : Gs} (h : Iv k S) (x : Nat) (hx : In S.n x) : Iv k (weakS S x) :=
  ⟨h.n, h.al, h.rt, h.wk, h.fn, h.nd, h.hl, fun e he => by
    rcases List.mem_append.1 he with h1 | h1
    · exact h.evs e h1
    · unfold wkE at h1
      split at h1
      · simp at h1; subst h1; exact ⟨by show 2 ≤ 3; omega, hx.2⟩
      · cases h1⟩
theorem freeO_iv {k : Nat} {S : Gs} (h : Iv k S) (x : Nat) (hx : In S.n x) : Iv k (freeO S x) :=
  ⟨h.n, fun y hy => by
    have hy2 : upd S.al x false y = true := hy
    by_cases e : y = x
    · subst e; rw [upd_same] at hy2; cases hy2
    · rw [upd_ne _ _ e] at hy2; exact h.al y hy2, h.rt, h.wk, h.fn, h.nd, h.hl, fun e he => by
    rcases List.mem_append.1 he with h1 | h1
    · exact h.evs e h1
    · simp at h1; subst h1; exact ⟨by show 3 ≤ 3; omega, hx.2⟩⟩
theorem weaks_iv {k : Nat} : ∀ (l : List Nat) (S : Gs), Iv k S → (∀ x ∈ l, In S.n x) → Iv k (l.foldl weakS S)
  | [], S, h, _ => h
  | x :: l, S, h, hl => weaks_iv l (weakS S x) (weakS_iv h x (hl x (by simp))) (fun y hy => hl y (by simp [hy]))
theorem frees_iv {k : Nat} : ∀ (l : List Nat) (S : Gs), Iv k S → (∀ x ∈ l, In S.n x) → Iv k (l.foldl freeO S)
  | [], S, h, _ => h
  | x :: l, S, h, hl => frees_iv l (freeO S x) (freeO_iv h x (hl x (by simp))) (fun y hy => hl y (by simp [hy]))
theorem weaks_n (S : Gs) (l : List Nat) : (l.foldl weakS S).n = S.n := by rw [weaks_eq]
theorem frees_n (S : Gs) (l : List Nat) : (l.foldl freeO S).n = S.n := by rw [frees_eq]
theorem frees_al {S : Gs} {l : List Nat} (hn : l.Nodup) (v : Nat) (hv : v < l.length) (ha : S.al l[v] = true) : ((l.take v).foldl freeO S).al l[v] = true := by
  rw [frees_eq]
  show noneOf (l.take v) S.al l[v] = true
  unfold noneOf
  rw [ha, Bool.true_and]
  have : l[v] ∉ l.take v := fun hm => by
    obtain ⟨i, hi, e⟩ := List.getElem_of_mem hm
    have hi2 : i < v := by rw [List.length_take] at hi; omega
    rw [List.getElem_take] at e
    exact (List.pairwise_iff_getElem.1 hn) i v (by omega) hv hi2 e
  simp [this]
theorem S1_ok {k : Nat} {S : Gs} (h : Ok k S) : Ok k (S1 S) := by
  obtain ⟨a, b, c⟩ := S1_all h.iv h.ev
  refine ⟨a, b, fun x hx p hp => ?_⟩
  rw [c.al] at hx ⊢
  rw [c.hl] at hp
  exact h.cl x hx p hp
theorem row_cell {w w' : World} {B g n c : Nat} {l : List Nat} {tb : Nat → Nat} (h : OwnG shT 56 w B (.slice (some ⟨g, 0, none⟩) n c) (l.map tb)) (hs : w'.heap[g]? = w.heap[g]?) (k : Nat) (hk : k < l.length) : w'.cell? ⟨g, k, none⟩ = some (.pointer (some ⟨tb l[k], 0, none⟩)) := by
  have h1 := h.cell k (by rw [List.length_map]; exact hk) 0 (by decide)
  have e : k * shT.n + 0 = k := by show k * 1 + 0 = k; omega
  rw [e, List.getElem_map] at h1
  rw [World.cell?_of_block (a := ⟨g, k, none⟩) hs]
  exact h1
set_option maxRecDepth 100000 in
set_option maxHeartbeats 4000000 in
theorem collectI_any (B hb am K : Nat) (ew : Value) (tb : Nat → Nat) (f : Nat → Tc) (AL : List Nat) (S : Gs) (w : World) (h : GI w B hb am ew tb f AL S) (hO : Ok K S) (hK : K ≤ 2000) (hB : B ≤ w.heap.size) :
    Calls Try.prog 48 #[.pointer (some ⟨hb, 0, none⟩)] w fun e w' => e = .returned (.int .i64 ((deadL S).length : Nat)) ∧ GP B hb am tb ew f S (coll S) w w' := by
  have hL1 := lost_any B hb am K ew tb f AL S w h hO hK
  have hn : S.n ≤ 2000 := Nat.le_trans hO.iv.n hK
  obtain ⟨LO, hLO⟩ : ∃ LO, lostL S = LO := ⟨_, rfl⟩
  obtain ⟨LN, hLN⟩ : ∃ LN, LO.length = LN := ⟨_, rfl⟩
  have HLM : Hid (∀ x ∈ LO, In S.n x) := fun x hx => by rw [← hLO] at hx; exact (lost_mem.1 hx).1
  have hLn : LN ≤ 2000 := by have := lost_len S; rw [hLO, hLN] at this; omega
  have HLO : Hid (lostL S = LO) := hLO
  have HLN : Hid (LO.length = LN) := hLN
  rw [hLO, hLN] at hL1
  have HOK : Hid (Ok K S) := hO
  have HG : Hid (GI w B hb am ew tb f AL S) := h
  obtain ⟨CS, hCS⟩ : ∃ CS, coll S = CS := ⟨_, rfl⟩
  obtain ⟨DN, hDN⟩ : ∃ DN, (deadL S).length = DN := ⟨_, rfl⟩
  have HCS : Hid (coll S = CS) := hCS
  have HDN : Hid ((deadL S).length = DN) := hDN
  rw [hCS, hDN]
  clear hLO hLN h hO hCS hDN
  go_enter Try.func48, Try.ntmps48
  go_wp2_with fail
  refine hL1.mono ?_
  rintro e W1 ⟨lb, lc, rfl, oL, b1⟩
  clear hL1
  have hlz := oL.lt lb rfl
  have HOL : Hid (OwnG shT 56 W1 w.heap.size (.slice (some ⟨lb, 0, none⟩) LN lc) (LO.map tb)) := oL
  have HB1 : Hid (Below w.heap.size w W1) := b1
  have hBW1 : B ≤ W1.heap.size := Nat.le_trans hB b1.size
  have HPN : Hid (¬ PH hb am S.n ew tb f lb) := fun hp => by have := (HG.out.th.ph hp).2; omega
  have HG1 : Hid (GI W1 B hb am ew tb f AL S) := ⟨HG.out.th.keep b1, HG.out.gi⟩
  clear oL b1
  go_wp2_with fail
  go_loopw [13] (fun i wr => ∃ (j : Nat) (ewj : Value) (fj : Nat → Tc), j ≤ LN ∧ i = .int .i64 (j : Nat) ∧ GI wr B hb am ewj tb fj AL ((LO.take j).foldl finS S) ∧ Fr (PH hb am S.n ew tb f) W1 (PH hb am S.n ewj tb fj) wr) (fun i _ => LN - (intOf i).toNat)
  case atStart => exact ⟨0, ew, f, Nat.zero_le _, rfl, HG1.out, Fr.refl _ _⟩
  case round =>
    obtain ⟨j, ewj, fj, hj, rfl, hGj, hFj⟩ := hrel
    clear HG1
    generalize wr = R1 at *
    by_cases hjl : j < LN
    · have hjL : j < LO.length := by rw [HLN.out]; exact hjl
      obtain ⟨y, hy⟩ : ∃ y, LO[j] = y := ⟨_, rfl⟩
      have hyI : In S.n y := HLM.out y (by rw [← hy]; exact List.getElem_mem hjL)
      have ck : R1.cell? ⟨lb, j, none⟩ = some (.pointer (some ⟨tb y, 0, none⟩)) := by
        have := row_cell HOL.out (hFj.kp.block lb hlz.2 HPN.out) j hjL
        rw [hy] at this; exact this
      obtain ⟨hIj, hEj, hKj⟩ := fins_all (k := K) (LO.take j) S HOK.out.iv HOK.out.ev (fun x hx => HLM.out x (List.mem_of_mem_take hx))
      obtain ⟨SJ, hSJ⟩ : ∃ SJ, (LO.take j).foldl finS S = SJ := ⟨_, rfl⟩
      have HSt : Hid ((LO.take (j + 1)).foldl finS S = finS SJ y) := by show _ = _; rw [foldl_take_succ finS LO j hjL S, hSJ, hy]
      rw [hSJ] at hGj hIj hEj hKj
      have hev : SJ.ev.length ≤ 10000 := by have := evb_le SJ; have := hIj.n; unfold EvB at hEj; omega
      have hFi := finalizeI_any B hb am y K ewj tb fj AL SJ R1 hGj hIj (by omega) (by omega) (by rw [hKj.n]; exact hyI)
      rw [hKj.n] at hFi
      have HFj : Hid (Fr (PH hb am S.n ew tb f) W1 (PH hb am S.n ewj tb fj) R1) := hFj
      have hji : (j : Int) < (LN : Int) := by omega
      have hwj : IntKind.i64.wrap ((j : Int) + 1) = (j : Int) + 1 := wrap_small (by omega) (by omega)
      clear hGj hIj hEj hKj hFj hSJ hy
      go_wp2_with fail
      refine hFi.mono ?_
      rintro e R2 ⟨rfl, ew2, f2, h2, q2, s2⟩
      clear hFi
      have H2 : Hid (GI R2 B hb am ew2 tb f2 AL (finS SJ y)) := h2
      have Q2 : Hid (Fr (PH hb am S.n ew tb f) W1 (PH hb am S.n ew2 tb f2) R2) := HFj.out.trans q2
      clear h2 q2 s2 ck
      go_wp2
      go_roundw
      case rel => exact ⟨j + 1, ew2, f2, by omega, by simp, by rw [HSt.out]; exact H2.out, Q2.out⟩
      case measure => simp [intOf]; omega
    · obtain rfl : j = LN := by omega
      rw [List.take_of_length_le (by rw [HLN.out]; exact Nat.le_refl _)] at hGj
      obtain ⟨SA, hSA⟩ : ∃ SA, S1 S = SA := ⟨_, rfl⟩
      have hGA : GI R1 B hb am ewj tb fj AL SA := by rw [← hSA]; unfold S1; rw [HLO.out]; exact hGj
      have hOA : Ok K SA := by rw [← hSA]; exact S1_ok HOK.out
      have hnA : SA.n = S.n := by rw [← hSA]; exact (S1_all HOK.out.iv HOK.out.ev).2.2.n
      have hL2 := lost_any B hb am K ewj tb fj AL SA R1 hGA hOA hK
      obtain ⟨DL, hDL⟩ : ∃ DL, lostL SA = DL := ⟨_, rfl⟩
      have HSA : Hid (S1 S = SA) := hSA
      have HDE : Hid (deadL S = DL) := by show _ = _; unfold deadL; rw [hSA, hDL]
      have HDD : Hid (DL.length = DN) := by show _ = _; rw [← HDE.out]; exact HDN.out
      have HDM : Hid (∀ x ∈ DL, In S.n x ∧ SA.al x = true) := fun x hx => by rw [← hDL] at hx; have := lost_mem.1 hx; rw [hnA] at this; exact ⟨this.1, this.2.1⟩
      have HND : Hid (DL.Nodup) := by show DL.Nodup; rw [← hDL]; exact lost_nodup _
      have hDn : DN ≤ 2000 := by have := lost_len SA; rw [hDL, HDD.out] at this; omega
      rw [hDL, HDD.out] at hL2
      have HOA : Hid (Ok K SA) := hOA
      have HNA : Hid (SA.n = S.n) := hnA
      have HGA : Hid (GI R1 B hb am ewj tb fj AL SA) := hGA
      have HFj : Hid (Fr (PH hb am S.n ew tb f) W1 (PH hb am S.n ewj tb fj) R1) := hFj
      have hBR1 : B ≤ R1.heap.size := Nat.le_trans hBW1 hFj.kp.size
      have hni : ¬ (j : Int) < (j : Int) := by omega
      clear hGj hGA hOA hnA hFj hDL hSA
      go_wp2_with fail
      refine hL2.mono ?_
      rintro e W3 ⟨db, dc, rfl, oD, b3⟩
      clear hL2
      have hdz := oD.lt db rfl
      have HOD : Hid (OwnG shT 56 W3 R1.heap.size (.slice (some ⟨db, 0, none⟩) DN dc) (DL.map tb)) := oD
      have HPD : Hid (¬ PH hb am S.n ewj tb fj db) := fun hp => by have := (HGA.out.th.ph (by rw [HNA.out]; exact hp)).2; omega
      have HG3 : Hid (GI W3 B hb am ewj tb fj AL SA) := ⟨HGA.out.th.keep b3, HGA.out.gi⟩
      have HF3 : Hid (Fr (PH hb am S.n ew tb f) W1 (PH hb am S.n ewj tb fj) W3) := HFj.out.trans (Fr.below b3)
      have hBW3 : B ≤ W3.heap.size := Nat.le_trans hBR1 b3.size
      have hevA : SA.ev.length ≤ 10000 := by have := evb_le SA; have := HOA.out.iv.n; have h5 := HOA.out.ev; unfold EvB at h5; omega
      clear oD b3
      go_wp2_with fail
      go_loopw [25] (fun i wr => ∃ (q : Nat) (ewq : Value), q ≤ DN ∧ i = .int .i64 (q : Nat) ∧ GI wr B hb am ewq tb fj AL ((DL.take q).foldl weakS SA) ∧ Fr (PH hb am S.n ewj tb fj) W3 (PH hb am S.n ewq tb fj) wr) (fun i _ => DN - (intOf i).toNat)
      case atStart => exact ⟨0, ewj, Nat.zero_le _, rfl, HG3.out, Fr.refl _ _⟩
      case round =>
        obtain ⟨q, ewq, hq, rfl, hGq, hFq⟩ := hrel
        clear HG3
        generalize wr = R4 at *
        by_cases hql : q < DN
        · have hqL : q < DL.length := by rw [HDD.out]; exact hql
          obtain ⟨y, hy⟩ : ∃ y, DL[q] = y := ⟨_, rfl⟩
          have hyI : In S.n y := (HDM.out y (by rw [← hy]; exact List.getElem_mem hqL)).1
          have ck : R4.cell? ⟨db, q, none⟩ = some (.pointer (some ⟨tb y, 0, none⟩)) := by
            have := row_cell HOD.out (hFq.kp.block db hdz.2 HPD.out) q hqL
            rw [hy] at this; exact this
          obtain ⟨SJ, hSJ⟩ : ∃ SJ, (DL.take q).foldl weakS SA = SJ := ⟨_, rfl⟩
          have HSt : Hid ((DL.take (q + 1)).foldl weakS SA = weakS SJ y) := by show _ = _; rw [foldl_take_succ weakS DL q hqL SA, hSJ, hy]
          have hnJ : SJ.n = S.n := by rw [← hSJ, weaks_n, HNA.out]
          have hev : SJ.ev.length ≤ 20000 := by rw [← hSJ]; have := weaks_ev SA (DL.take q); rw [List.length_take] at this; omega
          rw [hSJ] at hGq
          have hCw := clearWeaksI_any B hb am y ewq tb fj AL SJ R4 hGq (by omega) (by omega) (by rw [hnJ]; exact hyI)
          rw [hnJ] at hCw
          have HFq : Hid (Fr (PH hb am S.n ewj tb fj) W3 (PH hb am S.n ewq tb fj) R4) := hFq
          have hqi : (q : Int) < (DN : Int) := by omega
          have hwq : IntKind.i64.wrap ((q : Int) + 1) = (q : Int) + 1 := wrap_small (by omega) (by omega)
          clear hGq hFq hSJ hy hnJ
          go_wp2_with fail
          refine hCw.mono ?_
          rintro e R5 ⟨rfl, ew5, h5, q5⟩
          clear hCw
          have H5 : Hid (GI R5 B hb am ew5 tb fj AL (weakS SJ y)) := h5
          have Q5 : Hid (Fr (PH hb am S.n ewj tb fj) W3 (PH hb am S.n ew5 tb fj) R5) := HFq.out.trans q5
          clear h5 q5 ck
          go_wp2
          go_roundw
          case rel => exact ⟨q + 1, ew5, by omega, by simp, by rw [HSt.out]; exact H5.out, Q5.out⟩
          case measure => simp [intOf]; omega
        · obtain rfl : q = DN := by omega
          rw [List.take_of_length_le (by rw [HDD.out]; exact Nat.le_refl _)] at hGq
          obtain ⟨SB, hSB⟩ : ∃ SB, DL.foldl weakS SA = SB := ⟨_, rfl⟩
          rw [hSB] at hGq
          have HSB : Hid (DL.foldl weakS SA = SB) := hSB
          have HNB : Hid (SB.n = S.n) := by show _ = _; rw [← hSB, weaks_n, HNA.out]
          have HIB : Hid (Iv K SB) := by show Iv K SB; rw [← hSB]; exact weaks_iv DL SA HOA.out.iv (fun x hx => by rw [HNA.out]; exact (HDM.out x hx).1)
          have HAB : Hid (SB.al = SA.al) := by show _ = _; rw [← hSB, weaks_eq]
          have hevB : SB.ev.length ≤ 20000 := by rw [← hSB]; have := weaks_ev SA DL; rw [HDD.out] at this; omega
          have HGq : Hid (GI R4 B hb am ewq tb fj AL SB) := hGq
          have HFq : Hid (Fr (PH hb am S.n ewj tb fj) W3 (PH hb am S.n ewq tb fj) R4) := hFq
          have hni2 : ¬ (q : Int) < (q : Int) := by omega
          clear hGq hFq hSB
          go_wp2_with fail
          go_loopw [35] (fun i wr => ∃ (v : Nat) (ewv : Value) (fv : Nat → Tc) (ALv : List Nat), v ≤ q ∧ i = .int .i64 (v : Nat) ∧ GI wr B hb am ewv tb fv ALv ((DL.take v).foldl freeO SB) ∧ Fr (PH hb am S.n ewj tb fj) W3 (PH hb am S.n ewv tb fv) wr) (fun i _ => q - (intOf i).toNat)
          case atStart => exact ⟨0, ewq, fj, AL, Nat.zero_le _, rfl, HGq.out, HFq.out⟩
          case round =>
            obtain ⟨v, ewv, fv, ALv, hv, rfl, hGv, hFv⟩ := hrel
            clear HGq
            generalize wr = R6 at *
            by_cases hvl : v < q
            · have hvL : v < DL.length := by rw [HDD.out]; exact hvl
              have hav := frees_al (S := SB) HND.out v hvL (by rw [HAB.out]; exact (HDM.out _ (List.getElem_mem hvL)).2)
              obtain ⟨y, hy⟩ : ∃ y, DL[v] = y := ⟨_, rfl⟩
              have hyI : In S.n y := (HDM.out y (by rw [← hy]; exact List.getElem_mem hvL)).1
              have ck : R6.cell? ⟨db, v, none⟩ = some (.pointer (some ⟨tb y, 0, none⟩)) := by
                have := row_cell HOD.out (hFv.kp.block db hdz.2 HPD.out) v hvL
                rw [hy] at this; exact this
              obtain ⟨SJ, hSJ⟩ : ∃ SJ, (DL.take v).foldl freeO SB = SJ := ⟨_, rfl⟩
              have HSt : Hid ((DL.take (v + 1)).foldl freeO SB = freeO SJ y) := by show _ = _; rw [foldl_take_succ freeO DL v hvL SB, hSJ, hy]
              have hnJ : SJ.n = S.n := by rw [← hSJ, frees_n, HNB.out]
              have hev : SJ.ev.length ≤ 30000 := by rw [← hSJ]; have := frees_ev SB (DL.take v); rw [List.length_take] at this; omega
              have hIJ : Iv K SJ := by rw [← hSJ]; exact frees_iv (DL.take v) SB HIB.out (fun x hx => by rw [HNB.out]; exact (HDM.out x (List.mem_of_mem_take hx)).1)
              rw [hSJ] at hGv
              rw [hSJ, hy] at hav
              have hFe := freeI_any B hb am y K ewv tb fv ALv SJ R6 hGv hIJ (by omega) (by omega) (by rw [hnJ]; exact hyI) hav (Nat.le_trans hBW3 hFv.kp.size)
              rw [hnJ] at hFe
              have HFv : Hid (Fr (PH hb am S.n ewj tb fj) W3 (PH hb am S.n ewv tb fv) R6) := hFv
              have hvi : (v : Int) < (q : Int) := by omega
              have hwv : IntKind.i64.wrap ((v : Int) + 1) = (v : Int) + 1 := wrap_small (by omega) (by omega)
              clear hGv hFv hSJ hy hnJ hIJ hav
              go_wp2_with fail
              refine hFe.mono ?_
              rintro e R7 ⟨rfl, ew7, f7, AL7, h7, q7, s7⟩
              clear hFe
              have H7 : Hid (GI R7 B hb am ew7 tb f7 AL7 (freeO SJ y)) := h7
              have Q7 : Hid (Fr (PH hb am S.n ewj tb fj) W3 (PH hb am S.n ew7 tb f7) R7) := HFv.out.trans q7
              clear h7 q7 s7 ck
              go_wp2
              go_roundw
              case rel => exact ⟨v + 1, ew7, f7, AL7, by omega, by simp, by rw [HSt.out]; exact H7.out, Q7.out⟩
              case measure => simp [intOf]; omega
            · obtain rfl : v = q := by omega
              rw [List.take_of_length_le (by rw [HDD.out]; exact Nat.le_refl _)] at hGv
              have HN : Hid (CS.n = S.n) := by
                show _ = _
                rw [← HCS.out]
                unfold coll
                rw [HDE.out, HSA.out, HSB.out, frees_n]
                exact HNB.out
              have HFin : Hid (GI R6 B hb am ewv tb fv ALv CS) := by
                show GI _ _ _ _ _ _ _ _ _
                rw [← HCS.out]
                unfold coll
                rw [HDE.out, HSA.out, HSB.out]
                exact hGv
              have HFv : Hid (Fr (PH hb am S.n ew tb f) w (PH hb am S.n ewv tb fv) R6) := ((Fr.below HB1.out).trans HF3.out).trans hFv
              have hni3 : ¬ (v : Int) < (v : Int) := by omega
              clear hGv hFv
              go_wp2
              go_ret
              exact ⟨rfl, ewv, fv, ALv, HFin.out, by rw [HN.out]; exact HFv.out⟩
end Go.Proofs.Ytjnalkeopehlbaa
