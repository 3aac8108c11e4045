import Derived.Test.YtjnalkeopehlbaaGcW
import Derived.Deep.DeepCutAuto
import Derived.Deep.CutRange
namespace Go.Proofs.Ytjnalkeopehlbaa
open Go.RowKit Go.Maps
set_option linter.unusedVariables false
set_option linter.unusedSimpArgs false

/-- How many are not seen. -/
def us (n : Nat) (sn : List Bool) : Nat := sm n (fun k => if sn.getD k false = true then 0 else 1)
theorem getDs (sn : List Bool) (i j : Nat) (b : Bool) (h : i < sn.length) : (sn.set i b).getD j false = if j = i then b else sn.getD j false := by
  by_cases e : j = i
  · subst e
    rw [if_pos rfl]
    simp [List.getD, h]
  · rw [if_neg e]
    simp only [List.getD]
    rw [List.getElem?_set_ne (fun h => e h.symm)]
theorem us_set {n : Nat} {sn : List Bool} (hl : sn.length = n) (k : Nat) (hk : k < n) (hf : sn.getD k false = false) : us n (sn.set k true) + 1 = us n sn := by
  have h := sm_upd (fun k => if sn.getD k false = true then 0 else 1) (fun j => if (sn.set k true).getD j false = true then 0 else 1) k n hk (fun j hj => by
    show (if _ then _ else _) = _
    rw [getDs _ _ _ _ (by omega), if_neg hj])
  simp only [getDs sn k k true (by omega), hf, if_true, Bool.false_eq_true, if_false] at h
  unfold us
  omega
theorem us_le (n : Nat) (sn : List Bool) : us n sn ≤ n := by
  have := sm_le (fun k => if sn.getD k false = true then 0 else 1) 1 n (fun k _ => by show (if _ then _ else _) ≤ 1; split <;> omega)
  unfold us; omega
/-- What is seen is reached. -/
def Snd (S : Gs) (sn : List Bool) : Prop := sn.length = S.n ∧ ∀ k, sn.getD k false = true → Rc S (k + 1)
/-- Nothing more, or less than before. -/
def Prg (n : Nat) (sn0 sn : List Bool) (more : Bool) : Prop := (more = false ∧ sn = sn0) ∨ (more = true ∧ us n sn < us n sn0)
/-- Closed, up to a place. -/
def Cu (S : Gs) (sn : List Bool) (i : Nat) : Prop := ∀ k, k < i → S.al (k + 1) = true → (0 < S.rt (k + 1) → sn.getD k false = true) ∧ (sn.getD k false = true → ∀ p ∈ S.hl (k + 1), sn.getD (p.1 - 1) false = true)
theorem Snd.start (S : Gs) : Snd S (List.replicate S.n false) := by
  refine ⟨by simp, fun k h => ?_⟩
  simp only [List.getD] at h
  by_cases hk : k < S.n
  · rw [List.getElem?_replicate, if_pos hk] at h; cases h
  · rw [List.getElem?_replicate, if_neg hk] at h; cases h
theorem Snd.set {S : Gs} {sn : List Bool} (h : Snd S sn) (k : Nat) (hk : k < S.n) (hr : Rc S (k + 1)) : Snd S (sn.set k true) := by
  refine ⟨by rw [List.length_set]; exact h.1, fun j hj => ?_⟩
  rw [getDs _ _ _ _ (by rw [h.1]; exact hk)] at hj
  by_cases e : j = k
  · rw [e]; exact hr
  · rw [if_neg e] at hj; exact h.2 j hj
theorem Prg.set {n : Nat} {sn0 sn : List Bool} {more : Bool} (h : Prg n sn0 sn more) (hl : sn.length = n) (k : Nat) (hk : k < n) (hf : sn.getD k false = false) : Prg n sn0 (sn.set k true) true := by
  have h1 := us_set hl k hk hf
  rcases h with ⟨_, rfl⟩ | ⟨_, h2⟩
  · exact .inr ⟨rfl, by omega⟩
  · exact .inr ⟨rfl, by omega⟩
theorem Cu.fin {K : Nat} {S : Gs} (hI : Iv K S) {sn : List Bool} (hs : Snd S sn) (h : Cu S sn S.n) (k : Nat) : sn.getD k false = true ↔ Rc S (k + 1) := by
  refine ⟨hs.2 k, fun hr => ?_⟩
  have : ∀ x, Rc S x → sn.getD (x - 1) false = true := by
    intro x hx
    induction hx with
    | @root y ha hr =>
      have hy := hI.al y ha
      have := (h (y - 1) (by omega) (by rw [show y - 1 + 1 = y by omega]; exact ha)).1
      rw [show y - 1 + 1 = y by omega] at this
      exact this hr
    | @step y p h1 ha hp ih =>
      have hy := hI.al y ha
      have := (h (y - 1) (by omega) (by rw [show y - 1 + 1 = y by omega]; exact ha)).2 ih
      rw [show y - 1 + 1 = y by omega] at this
      exact this p hp
  exact this (k + 1) hr
set_option maxRecDepth 100000 in
set_option maxHeartbeats 2000000 in
theorem reachG_any (B sb K : Nat) (ov ew : Value) (S : Gs) (hs ts : Nat → Sl) (w : World) (h : SS w B sb ov ew S hs ts) (hI : Iv K S) (hK : K ≤ 2500) :
    Calls Try.prog 53 #[.pointer (some ⟨sb, 0, none⟩)] w fun e w' => ∃ mb sn, w.heap.size = mb ∧ e = .returned (.slice (some ⟨mb, 0, none⟩) S.n S.n) ∧ OwnG shB 4 w' mb (.slice (some ⟨mb, 0, none⟩) S.n S.n) sn ∧ sn.length = S.n ∧ (∀ k, sn.getD k false = true ↔ Rc S (k + 1)) ∧ Below w.heap.size w w' := by
  obtain ⟨c, b0, b1, b2, bf⟩ := h.boxc
  have hnk := hI.n
  obtain ⟨oa, oc, hov⟩ : ∃ a c, ov = .slice a S.n c := by
    obtain ⟨a, c, e⟩ := h.out.form
    rw [txs_len] at e
    exact ⟨a, c, e⟩
  rw [hov] at b0
  have HOV : Hid (ov = .slice oa S.n oc) := hov
  obtain ⟨N, hN⟩ : ∃ N, S.n = N := ⟨_, rfl⟩
  have HN : Hid (S.n = N) := hN
  rw [hN] at b0 hnk
  rw [hN]
  obtain ⟨mb, hmb⟩ : ∃ mb, w.heap.size = mb := ⟨_, rfl⟩
  obtain ⟨i0, hi0, hz0, hz1, hz2⟩ := info_parts Try.info4
  clear hov hN
  go_enter Try.func53, Try.ntmps53
  go_wp2_with (at_make; refine wpList_make_full _ rfl _ _ 51 rfl w.heap.size 4 i0 _ 1 Try.underlying51 hi0 hz0 hz1 .i64 .i64 _ _ N rfl rfl rfl rfl (by rw [hz2]; omega) (by unfold maxLen; omega) (Nat.le_refl _) ?_; intro w2 hown hgrow)
  have oS : OwnG shB 4 w2 w.heap.size (.slice (some ⟨w.heap.size, 0, none⟩) N N) (List.replicate N false) := OwnG.made1 false rfl rfl trivial rfl (by omega) hown
  have bW2 : Below w.heap.size w w2 := (Below.refl _ _).grown hgrow (Nat.le_refl _) (by intro k h; cases h)
  have HSN : Hid (Snd S (List.replicate N false)) := by show Snd _ _; rw [← HN.out]; exact Snd.start S
  try rw [hmb]
  rw [hmb] at oS bW2
  have HO : Hid (OwnG shB 4 w2 mb (.slice (some ⟨mb, 0, none⟩) N N) (List.replicate N false)) := oS
  clear hown hgrow oS i0 hi0 hz0 hz1 hz2 b0 b1 b2 bf
  have hul := us_le N (List.replicate N false)
  go_loopg [4, 5, 6] N (fun gg q4 q5 q6 wq => ∃ sn, us N sn ≤ gg ∧ gg ≤ N ∧ Snd S sn ∧ OwnG shB 4 wq mb (.slice (some ⟨mb, 0, none⟩) N N) sn ∧ Below mb w wq)
  case atStart => exact ⟨_, hul, Nat.le_refl _, HSN.out, HO.out, bW2⟩
  case round =>
    obtain ⟨sn0, hug, hgN, hS0, hO0, hB0⟩ := hrel
    clear HSN HO hul bW2 w2
    generalize wr = R0 at *
    have HS0 : Hid (Snd S sn0) := hS0
    have HO0 : Hid (OwnG shB 4 R0 mb (.slice (some ⟨mb, 0, none⟩) N N) sn0) := hO0
    clear hS0 hO0
    go_wp2_with fail
    go_loopw [4, 5, 6] (fun q4 q5 q6 wq => ∃ (i : Nat) (more : Bool) (sn : List Bool), i ≤ N ∧ q5 = .int .i64 i ∧ q4 = .bool more ∧ Snd S sn ∧ Prg N sn0 sn more ∧ (more = false → Cu S sn0 i) ∧ OwnG shB 4 wq mb (.slice (some ⟨mb, 0, none⟩) N N) sn ∧ Below mb w wq) (fun _ q5 _ _ => N - (intOf q5).toNat)
    case atStart => exact ⟨0, false, sn0, Nat.zero_le _, rfl, rfl, HS0.out, .inl ⟨rfl, rfl⟩, fun _ k hk => by omega, HO0.out, hB0⟩
    case round =>
      obtain ⟨i, more, sn, hi, rfl, rfl, hSn, hPr, hCu, hO, hB⟩ := hrel
      generalize wr = R1 at *
      clear HO0 hB0
      have hSS := h.keep (by rw [hmb]; exact hB)
      have HSS : Hid (SS R1 B sb ov ew S hs ts) := hSS
      obtain ⟨c, b0, b1, b2, bf⟩ := hSS.boxc
      rw [HOV.out, HN.out] at b0
      clear hSS
      by_cases hlt : i < N
      · have hil : i < sn.length := by rw [hSn.1, HN.out]; exact hlt
        have hii : (i : Int) < (N : Int) := by omega
        obtain ⟨ob, cap, hov2, -, -⟩ := HSS.out.shape (by rw [HN.out]; omega)
        obtain ⟨d0, d1, d2, d3, -⟩ := HSS.out.cells hov2 i (by rw [HN.out]; omega)
        have hoe : Value.slice oa N oc = Value.slice (some ⟨ob, 0, none⟩) N cap := by have := HOV.out.symm.trans hov2; rw [HN.out] at this; exact this
        rw [hoe] at b0
        clear hoe hov2
        have m0 := hO.cell i hil 0 (by decide)
        have mf := hO.frozen i
        have em : i * shB.n + 0 = i := by show i * 1 + 0 = i; omega
        rw [em] at m0
        have m0' : R1.cell? ⟨mb, i, none⟩ = some (.bool sn[i]) := m0
        have hgi : sn.getD i false = sn[i] := by simp [List.getD, hil]
        rw [← hgi] at m0'
        clear m0 em hgi
        have HSn : Hid (Snd S sn) := hSn
        have HPr : Hid (Prg N sn0 sn more) := hPr
        have HO1 : Hid (OwnG shB 4 R1 mb (.slice (some ⟨mb, 0, none⟩) N N) sn) := hO
        have HCu : Hid (more = false → Cu S sn0 i) := hCu
        clear hSn hPr hO hCu
        cases hal : S.al (i + 1) with
        | false =>
          rw [hal] at d0
          clear d1 d2 d3 m0' mf
          go_wp2
          go_roundw
          case rel => exact ⟨i + 1, more, sn, by omega, by go_num, by first | rfl | trivial, HSn.out, HPr.out, fun hm k hk ha => by
            by_cases e : k = i
            · subst e; rw [hal] at ha; cases ha
            · exact HCu.out hm k (by omega) ha, HO1.out, hB⟩
          case measure => simp [intOf]; omega
        | true =>
          rw [hal] at d0
          have hrt := hI.rt (i + 1)
          have hrb : S.rt (i + 1) ≤ 3000 := by split at hrt <;> omega
          obtain ⟨cd, hcd⟩ : ∃ cd : Bool, (!sn.getD i false && decide (0 < S.rt (i + 1))) = cd := ⟨_, rfl⟩
          have HCD : Hid ((!sn.getD i false && decide (0 < S.rt (i + 1))) = cd) := hcd
          clear hcd
          go_upto_region 7 with fail
          go_cut [46] from 31 to 46 (fun b wc => b = .bool cd ∧ wc = R1)
          case first =>
            have hcd := HCD.out
            cases hsi : sn.getD i false with
            | true =>
              rw [hsi] at m0' hcd
              obtain rfl : false = cd := by simpa using hcd
              go_wp2
              go_meet
              exact ⟨rfl, rfl⟩
            | false =>
              rw [hsi] at m0' hcd
              by_cases hr0 : 0 < S.rt (i + 1)
              · obtain rfl : true = cd := by simpa [hr0] using hcd
                have e3 : (0 : Int) < ((S.rt (i + 1) : Nat) : Int) := by omega
                have HR0 : Hid (0 < S.rt (i + 1)) := hr0
                clear hr0
                go_wp2
                go_meet
                exact ⟨by rw [decide_eq_true HR0.out], rfl⟩
              · obtain rfl : false = cd := by simpa [hr0] using hcd
                have e3 : ¬ (0 : Int) < ((S.rt (i + 1) : Nat) : Int) := by omega
                have HR0 : Hid (¬ 0 < S.rt (i + 1)) := hr0
                clear hr0
                go_wp2
                go_meet
                exact ⟨by rw [decide_eq_false HR0.out], rfl⟩
          case rest =>
            obtain ⟨rfl, hw⟩ := hcut
            obtain rfl : R1 = wc := hw.symm
            clear hw d3
            go_upto_if 46 with fail
            go_cut [4] from 47 to 49 (fun q wc => ∃ (sn1 : List Bool) (more1 : Bool), q = .bool more1 ∧ Snd S sn1 ∧ Prg N sn0 sn1 more1 ∧ (more1 = false → (0 < S.rt (i + 1) → sn1.getD i false = true) ∧ more = false) ∧ OwnG shB 4 wc mb (.slice (some ⟨mb, 0, none⟩) N N) sn1 ∧ Below mb w wc)
            case first =>
              cases cd with
              | false =>
                go_wp2
                go_meet
                refine ⟨sn, more, rfl, HSn.out, HPr.out, fun hm => ⟨fun h0 => ?_, hm⟩, HO1.out, hB⟩
                have := HCD.out
                simpa [h0] using this
              | true =>
                have hc : sn.getD i false = false ∧ 0 < S.rt (i + 1) := by have := HCD.out; simpa using this
                have o2 := HO1.out.put i hil 0 (by decide) (.bool true) true trivial rfl
                have em : i * shB.n + 0 = i := by show i * 1 + 0 = i; omega
                rw [em] at o2
                have HO2 : Hid (OwnG shB 4 (R1.setCell ⟨mb, i, none⟩ (.bool true)) mb (.slice (some ⟨mb, 0, none⟩) N N) (sn.set i true)) := o2
                have HB2 : Hid (Below mb w (R1.setCell ⟨mb, i, none⟩ (.bool true))) := hB.setCell (Nat.le_refl _) _
                have HS2 : Hid (Snd S (sn.set i true)) := HSn.out.set i (by rw [HN.out]; exact hlt) (Rc.root hal hc.2)
                have HP2 : Hid (Prg N sn0 (sn.set i true) true) := HPr.out.set (HSn.out.1.trans HN.out) i hlt hc.1
                clear o2 em hc
                go_wp2
                go_meet
                exact ⟨_, true, rfl, HS2.out, HP2.out, (fun hm => by cases hm), HO2.out, HB2.out⟩
            case rest =>
              obtain ⟨sn1, more1, rfl, hS1, hP1, hM1, hO1, hB1⟩ := hcut
              clear HCD HSn HPr HO1 b0 b1 b2 bf d0 d1 d2 m0' mf hB
              generalize wc = R2 at *
              obtain ⟨ah, ch, at', ct, eh, et, hcell⟩ := h.rows (i + 1) hal
              have hll := hI.len (i + 1)
              have hkb : ∀ p ∈ S.hl (i + 1), 1 ≤ p.1 ∧ p.1 ≤ S.n := fun p hp => ⟨(hI.hl _ p hp).1, (hI.hl _ p hp).2.1⟩
              obtain ⟨L, hL⟩ : ∃ L, S.hl (i + 1) = L := ⟨_, rfl⟩
              have HL : Hid (S.hl (i + 1) = L) := hL
              rw [hL] at eh et hcell hll hkb
              obtain ⟨LL, hLL⟩ : ∃ LL, L.length = LL := ⟨_, rfl⟩
              have HLL : Hid (L.length = LL) := hLL
              rw [hLL] at eh et hll
              rw [HN.out] at hkb hll
              obtain ⟨g, hgg⟩ : ∃ g, 0 < LL → ah = some ⟨g, 0, none⟩ ∧ g < w.heap.size ∧ ∀ k (hk : k < L.length), w.cell? ⟨g, k, none⟩ = some (.int .i64 ((L[k].1 : Nat) : Int)) := by
                by_cases h0 : 0 < LL
                · obtain ⟨g, g', e1, e2, h3⟩ := hcell (by omega)
                  refine ⟨g, fun _ => ⟨e1, ?_, fun k hk => (h3 k hk).1⟩⟩
                  exact ((h.hr (i + 1) hal).lt g (by rw [eh, e1]; rfl)).2
                · exact ⟨0, fun h => absurd h h0⟩
              have HG : Hid (0 < LL → ah = some ⟨g, 0, none⟩ ∧ g < w.heap.size ∧ ∀ k (hk : k < L.length), w.cell? ⟨g, k, none⟩ = some (.int .i64 ((L[k].1 : Nat) : Int))) := hgg
              have HEH : Hid ((hs (i + 1)).val = .slice ah LL ch) := eh
              have HM1 : Hid (more1 = false → (0 < S.rt (i + 1) → sn1.getD i false = true) ∧ more = false) := hM1
              have HS1 : Hid (Snd S sn1) := hS1
              have HP1 : Hid (Prg N sn0 sn1 more1) := hP1
              have HO1 : Hid (OwnG shB 4 R2 mb (.slice (some ⟨mb, 0, none⟩) N N) sn1) := hO1
              obtain ⟨si, hsi⟩ : ∃ si, sn1.getD i false = si := ⟨_, rfl⟩
              have HSI : Hid (sn1.getD i false = si) := hsi
              clear hL hLL hcell hgg eh et hM1 hS1 hP1 hO1 hsi HSS
              go_wp2_with fail
              go_loopw [4, 6] (fun q4 q6 wq => ∃ (j : Nat) (more2 : Bool) (sn2 : List Bool), j ≤ LL ∧ q6 = .int .i64 j ∧ q4 = .bool more2 ∧ Snd S sn2 ∧ Prg N sn0 sn2 more2 ∧ (more2 = false → more1 = false ∧ sn2 = sn1) ∧ (sn2.getD i false = si) ∧ (0 < j → si = true) ∧ (∀ q (hq : q < L.length), q < j → sn2.getD (L[q].1 - 1) false = true) ∧ OwnG shB 4 wq mb (.slice (some ⟨mb, 0, none⟩) N N) sn2 ∧ Below mb w wq) (fun _ q6 _ => LL - (intOf q6).toNat)
              case atStart => exact ⟨0, more1, sn1, Nat.zero_le _, rfl, rfl, HS1.out, HP1.out, fun hm => ⟨hm, rfl⟩, HSI.out, fun h => by omega, fun q hq h => by omega, HO1.out, hB1⟩
              case round =>
                obtain ⟨j, more2, sn2, hj, rfl, rfl, hS2, hP2, hM2, hI2, hJ2, hQ2, hO2, hB2⟩ := hrel
                generalize wr = R3 at *
                clear HO1
                have hil2 : i < sn2.length := by rw [hS2.1, HN.out]; exact hlt
                have hSS := h.keep (by rw [hmb]; exact hB2)
                obtain ⟨c, b0, b1, b2, bf⟩ := hSS.boxc
                rw [HOV.out, HN.out] at b0
                obtain ⟨ob, cap, hov2, -, -⟩ := hSS.shape (by rw [HN.out]; omega)
                have d1 := (hSS.cells hov2 i (by rw [HN.out]; omega)).2.1
                rw [HEH.out] at d1
                have hoe : Value.slice oa N oc = Value.slice (some ⟨ob, 0, none⟩) N cap := by have := HOV.out.symm.trans hov2; rw [HN.out] at this; exact this
                rw [hoe] at b0
                have m0 : R3.cell? ⟨mb, i, none⟩ = some (.bool si) := by
                  have h5 := hO2.cell i hil2 0 (by decide)
                  rw [show i * shB.n + 0 = i by show i * 1 + 0 = i; omega] at h5
                  have h6 : sn2.getD i false = sn2[i] := by simp [List.getD, hil2]
                  rw [← hI2, h6]
                  exact h5
                have HS2 : Hid (Snd S sn2) := hS2
                have HP2 : Hid (Prg N sn0 sn2 more2) := hP2
                have HM2 : Hid (more2 = false → more1 = false ∧ sn2 = sn1) := hM2
                have HI2 : Hid (sn2.getD i false = si) := hI2
                have HJ2 : Hid (0 < j → si = true) := hJ2
                have HQ2 : Hid (∀ q (hq : q < L.length), q < j → sn2.getD (L[q].1 - 1) false = true) := hQ2
                have HO2 : Hid (OwnG shB 4 R3 mb (.slice (some ⟨mb, 0, none⟩) N N) sn2) := hO2
                clear hSS hoe hov2 hS2 hP2 hM2 hI2 hJ2 hQ2 hO2
                by_cases hend : j < LL ∧ si = true
                · obtain ⟨hjl, rfl⟩ := hend
                  have hjL : j < L.length := by rw [HLL.out]; exact hjl
                  have hji : (j : Int) < (LL : Int) := by omega
                  obtain ⟨rfl, hgw, hcc⟩ := HG.out (by omega)
                  have q1 : R3.cell? ⟨g, j, none⟩ = some (.int .i64 ((L[j].1 : Nat) : Int)) := by
                    rw [World.cell?_of_block (a := ⟨g, j, none⟩) (hB2.block g (by omega))]
                    exact hcc j hjL
                  have hkj := hkb L[j] (List.getElem_mem hjL)
                  obtain ⟨Y, hY⟩ : ∃ Y : Nat, L[j].1 = Y + 1 := ⟨L[j].1 - 1, by omega⟩
                  have HY : Hid (L[j].1 = Y + 1) := hY
                  rw [hY] at q1 hkj
                  rw [show ((Y + 1 : Nat) : Int) = (Y : Int) + 1 by omega] at q1
                  have hYN : Y < N := by omega
                  have hYi : (Y : Int) < (N : Int) := by omega
                  have hYl : Y < sn2.length := by rw [HS2.out.1, HN.out]; exact hYN
                  obtain ⟨sy, hsy⟩ : ∃ sy, sn2.getD Y false = sy := ⟨_, rfl⟩
                  have HSY : Hid (sn2.getD Y false = sy) := hsy
                  have m1 : R3.cell? ⟨mb, Y, none⟩ = some (.bool sy) := by
                    have h5 := HO2.out.cell Y hYl 0 (by decide)
                    rw [show Y * shB.n + 0 = Y by show Y * 1 + 0 = Y; omega] at h5
                    have h6 : sn2.getD Y false = sn2[Y] := by simp [List.getD, hYl]
                    rw [← hsy, h6]
                    exact h5
                  have mf := HO2.out.frozen Y
                  have HRY : Hid (Rc S (Y + 1)) := by
                    show Rc S (Y + 1)
                    have h5 := Rc.step (p := L[j]) (HS2.out.2 i HI2.out) hal (by rw [HL.out]; exact List.getElem_mem hjL)
                    rw [hY] at h5
                    exact h5
                  clear hY hsy hcc hkj
                  cases sy with
                  | true =>
                    go_wp2
                    go_roundw
                    case rel => exact ⟨j + 1, more2, sn2, by omega, by go_num, by first | rfl | trivial, HS2.out, HP2.out, HM2.out, HI2.out, fun _ => by first | rfl | trivial, fun q hq hqj => by
                      by_cases e : q = j
                      · subst e; rw [HY.out]; exact HSY.out
                      · exact HQ2.out q hq (by omega), HO2.out, hB2⟩
                    case measure => simp [intOf]; omega
                  | false =>
                    have o3 := HO2.out.put Y hYl 0 (by decide) (.bool true) true trivial rfl
                    rw [show Y * shB.n + 0 = Y by show Y * 1 + 0 = Y; omega] at o3
                    have HO3 : Hid (OwnG shB 4 (R3.setCell ⟨mb, Y, none⟩ (.bool true)) mb (.slice (some ⟨mb, 0, none⟩) N N) (sn2.set Y true)) := o3
                    have HB3 : Hid (Below mb w (R3.setCell ⟨mb, Y, none⟩ (.bool true))) := hB2.setCell (Nat.le_refl _) _
                    have HS3 : Hid (Snd S (sn2.set Y true)) := HS2.out.set Y (by rw [HN.out]; exact hYN) HRY.out
                    have HP3 : Hid (Prg N sn0 (sn2.set Y true) true) := HP2.out.set (HS2.out.1.trans HN.out) Y hYN HSY.out
                    have HI3 : Hid ((sn2.set Y true).getD i false = true) := by
                      show _ = _
                      rw [getDs _ _ _ _ hYl]
                      split
                      · rfl
                      · exact HI2.out
                    have HQ3 : Hid (∀ q (hq : q < L.length), q < j + 1 → (sn2.set Y true).getD (L[q].1 - 1) false = true) := by
                      intro q hq hqj
                      rw [getDs _ _ _ _ hYl]
                      split
                      · rfl
                      · rename_i hne
                        by_cases e : q = j
                        · subst e; rw [HY.out] at hne; exact absurd rfl hne
                        · exact HQ2.out q hq (by omega)
                    clear o3 HQ2 HI2 HP2 HS2 HO2 HM2
                    go_wp2
                    go_roundw
                    case rel => exact ⟨j + 1, true, _, by omega, by go_num, by first | rfl | trivial, HS3.out, HP3.out, fun hm => (by cases hm), HI3.out, fun _ => by first | rfl | trivial, HQ3.out, HO3.out, HB3.out⟩
                    case measure => simp [intOf]; omega
                · have HR : Hid (Snd S sn2 ∧ Prg N sn0 sn2 more2 ∧ (more2 = false → Cu S sn0 (i + 1))) := by
                    refine ⟨HS2.out, HP2.out, fun hm => ?_⟩
                    obtain ⟨hm1, hsn⟩ := HM2.out hm
                    obtain ⟨hrt1, hm0⟩ := HM1.out hm1
                    have hs0 : sn2 = sn0 := by
                      rcases HP2.out with h5 | h5
                      · exact h5.2
                      · rw [hm] at h5; exact absurd h5.1 (by decide)
                    intro k hk ha
                    by_cases e : k = i
                    · subst e
                      refine ⟨fun h5 => ?_, fun h5 p hp => ?_⟩
                      · rw [← hs0, hsn]; exact hrt1 h5
                      · rw [← hs0] at h5 ⊢
                        have hst : si = true := HI2.out.symm.trans h5
                        have hjL : j = LL := by
                          rcases Nat.lt_or_ge j LL with h6 | h6
                          · exact absurd ⟨h6, hst⟩ hend
                          · omega
                        rw [HL.out] at hp
                        obtain ⟨q, hq, rfl⟩ := List.getElem_of_mem hp
                        exact HQ2.out q hq (by rw [hjL, ← HLL.out]; exact hq)
                    · exact HCu.out hm0 k (by omega) ha
                  by_cases hjl : j < LL
                  · obtain rfl : si = false := by
                      cases si with
                      | false => rfl
                      | true => exact absurd ⟨hjl, rfl⟩ hend
                    have hji : (j : Int) < (LL : Int) := by omega
                    clear hend HQ2 HI2 HJ2 HP2 HS2 HM2
                    go_wp2
                    go_roundw
                    case rel => exact ⟨i + 1, more2, sn2, by omega, by go_num, by first | rfl | trivial, HR.out.1, HR.out.2.1, HR.out.2.2, HO2.out, hB2⟩
                    case measure => simp [intOf]; omega
                  · have hji : ¬ (j : Int) < (LL : Int) := by omega
                    clear hend HQ2 HI2 HJ2 HP2 HS2 HM2
                    go_wp2
                    go_roundw
                    case rel => exact ⟨i + 1, more2, sn2, by omega, by go_num, by first | rfl | trivial, HR.out.1, HR.out.2.1, HR.out.2.2, HO2.out, hB2⟩
                    case measure => simp [intOf]; omega
      · obtain rfl : i = N := by omega
        cases more with
        | false =>
          obtain ⟨-, rfl⟩ : false = false ∧ sn = sn0 := by
            rcases hPr with h1 | h1
            · exact h1
            · exact absurd h1.1 (by decide)
          have HFin : Hid (∀ k, sn.getD k false = true ↔ Rc S (k + 1)) := Cu.fin hI hSn (by rw [HN.out]; exact hCu rfl)
          have hsl := hSn.1.trans HN.out
          have HO1 : Hid (OwnG shB 4 R1 mb (.slice (some ⟨mb, 0, none⟩) i i) sn) := hO
          clear hO hSn hPr hCu
          go_wp2
          go_ret
          exact ⟨mb, sn, hmb, rfl, HO1.out, hsl, HFin.out, by rw [hmb]; exact hB⟩
        | true =>
          have hus : us i sn < us i sn0 := by
            rcases hPr with h1 | h1
            · exact absurd h1.1 (by decide)
            · exact h1.2
          have HSn : Hid (Snd S sn) := hSn
          have HO1 : Hid (OwnG shB 4 R1 mb (.slice (some ⟨mb, 0, none⟩) i i) sn) := hO
          clear hO hSn hPr hCu
          go_wp2
          go_roundg (us i sn)
          case measure => omega
          case rel => exact ⟨sn, Nat.le_refl _, by omega, HSn.out, HO1.out, hB⟩
end Go.Proofs.Ytjnalkeopehlbaa
