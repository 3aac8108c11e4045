import Derived.Test.YtjnalkeopehlbaaGmE
import Derived.Test.YtjnalkeopehlbaaGcW
import Derived.BigQuiet
namespace Go.Proofs.Ytjnalkeopehlbaa
open Go.RowKit Go.Maps
set_option linter.unusedVariables false
set_option linter.unusedSimpArgs false

theorem mem_get {α : Type} {l : List α} {a : α} {i : Nat} (h : l[i]? = some a) : a ∈ l := List.mem_of_getElem? h
/-- alive[y]. -/
theorem TH.lookA {w : World} {B hb am n : Nat} {ew : Value} {tb : Nat → Nat} {f : Nat → Tc} {AL : List Nat} {ev : List (Nat × Nat)} (h : TH w B hb am n ew tb f AL ev) (hn : n ≤ 100000) (y : Int) (hy : (Lit.int .i64 y).wf = true) :
    ((∀ x ∈ AL, (x : Int) ≠ y) ∧ (Instr.lookup 67 (.map (some am)) (.int .i64 y) true).run Try.prog w = .ok (.tuple #[.pointer none, .bool false]) w) ∨ ∃ x ∈ AL, (x : Int) = y ∧ (Instr.lookup 67 (.map (some am)) (.int .i64 y) true).run Try.prog w = .ok (.tuple #[.pointer (some ⟨tb x, 0, none⟩), .bool true]) w := by
  have hz : (zeroValue 56).run Try.prog w = .ok (.pointer none) w := by kernel_rfl
  obtain ⟨hg, hd⟩ := h.aliveAt hn
  rcases h.alive.look Try.underlying67 hz (fndI w y hy) hg with ⟨h1, h2⟩ | ⟨j, v, h1, h2⟩
  · refine .inl ⟨fun x hx e => h2 (.int .i64 (x : Nat), pk (tb x)) (List.mem_map.2 ⟨x, hx, rfl⟩) (by rw [← e]), ?_⟩
    have := h1 true
    simpa using this
  · rw [List.getElem?_map] at h1
    obtain ⟨x, hx, e⟩ := Option.map_eq_some_iff.1 h1
    have e1 : Value.int .i64 (x : Nat) = .int .i64 y := congrArg Prod.fst e
    have e2 : pk (tb x) = v := congrArg Prod.snd e
    refine .inr ⟨x, List.mem_of_getElem? hx, by simpa using e1, ?_⟩
    have := h2 true
    rw [← e2] at this
    simpa [pk] using this
set_option maxRecDepth 100000 in
set_option maxHeartbeats 2000000 in
theorem dieI_any (B hb am K : Nat) (tb : Nat → Nat) (hK : K ≤ 2500) : ∀ (m x : Nat) (ew : Value) (f : Nat → Tc) (AL : List Nat) (S : Gs) (w : World), GI w B hb am ew tb f AL S → Iv K S → EvB S → S.al x = true → alv S ≤ m → B ≤ w.heap.size →
    Calls Try.prog 63 #[.pointer (some ⟨hb, 0, none⟩), .pointer (some ⟨tb x, 0, none⟩)] w fun e w' => e = .returned (.tuple #[]) ∧ ∃ ew' f' AL', GI w' B hb am ew' tb f' AL' (look m S x) ∧ Fr (PH hb am S.n ew tb f) w (PH hb am S.n ew' tb f') w' ∧ Sw f f' := by
  intro m
  induction m with
  | zero =>
    intro x ew f AL S w h hI hE hax hal hB
    exfalso
    have hx := hI.al x hax
    have := sm_one (fun k => if S.al (k + 1) = true then 1 else 0) S.n (x - 1) (by omega)
    rw [show x - 1 + 1 = x by omega] at this
    simp only [hax, if_true] at this
    unfold alv at hal
    omega
  | succ m ih =>
    intro x ew f AL S w h hI hE hax hal hB
    have hx : In S.n x := hI.al x hax
    have hnk := hI.n
    have hcb := hI.cnt x
    have hcb2 : cnt S x ≤ 100000000 := by have : S.n * K ≤ 2500 * 2500 := Nat.mul_le_mul (by omega) (by omega); omega
    have hev : S.ev.length ≤ 10000 := by have := evb_le S; unfold EvB at hE; omega
    have c2 : w.cell? ⟨tb x, 2, none⟩ = some (.int .i64 (cnt S x : Nat)) := by rw [← h.gi.ct x hx]; exact cell_obj (h.th.tg.obj x hx) rfl
    obtain ⟨LM, hLM⟩ : ∃ LM, look (m + 1) S x = LM := ⟨_, rfl⟩
    have HLM : Hid (look (m + 1) S x = LM) := hLM
    rw [hLM]
    clear hLM
    by_cases hc0 : 0 < cnt S x
    · have HE : Hid (LM = S) := by show _ = _; rw [← HLM.out, look, if_pos (.inr hc0)]
      have e0 : (0 : Int) < ((cnt S x : Nat) : Int) := by omega
      have H : Hid (GI w B hb am ew tb f AL S) := h
      clear h ih
      go_enter Try.func63, Try.ntmps63
      go_wp2
      refine bodyPost_ret (results_none rfl _ _ _) rfl ?_
      exact ⟨rfl, ew, f, AL, by rw [HE.out]; exact H.out, Fr.refl _ _, fun _ => rfl⟩
    · have hc1 : cnt S x = 0 := by omega
      have hFi := finalizeI_any B hb am x K ew tb f AL S w h hI (by omega) hK hx
      have hIf := finS_iv hI x hx.1 hx.2
      have hEf := finS_evb hE x hx.1 hx.2
      have hnf := finS_n S x
      rw [hc1] at c2
      clear h
      go_enter Try.func63, Try.ntmps63
      go_wp2_with fail
      refine hFi.mono ?_
      rintro e W1 ⟨rfl, ew1, f1, h1, q1, s1⟩
      clear hFi c2
      have hxf : In (finS S x).n x := by rw [hnf]; exact hx
      have c2 : W1.cell? ⟨tb x, 2, none⟩ = some (.int .i64 (cnt (finS S x) x : Nat)) := by rw [← h1.gi.ct x hxf]; exact cell_obj (h1.th.tg.obj x hxf) rfl
      by_cases hc2 : 0 < cnt (finS S x) x
      · have HE : Hid (LM = finS S x) := by show _ = _; rw [← HLM.out, look, if_neg (by rw [hax]; simp [hc1]), if_pos hc2]
        have e0 : (0 : Int) < ((cnt (finS S x) x : Nat) : Int) := by omega
        have H1 : Hid (GI W1 B hb am ew1 tb f1 AL (finS S x)) := h1
        have Q1 : Hid (Fr (PH hb am S.n ew tb f) w (PH hb am S.n ew1 tb f1) W1) := q1
        clear h1 q1 ih
        go_wp2
        refine bodyPost_ret (results_none rfl _ _ _) rfl ?_
        exact ⟨rfl, ew1, f1, AL, by rw [HE.out]; exact H1.out, Q1.out, s1⟩
      · have hc3 : cnt (finS S x) x = 0 := by omega
        rw [hc3] at c2
        have haf : (finS S x).al x = true := by rw [finS_al]; exact hax
        have hevf : (finS S x).ev.length ≤ 10000 := by have := evb_le (finS S x); unfold EvB at hEf; omega
        have hCw := clearWeaksI_any B hb am x ew1 tb f1 AL (finS S x) W1 h1 (by omega) (by omega) hxf
        have HI2 : Hid (Iv K (freeS (finS S x) x)) := freeS_iv hIf x haf
        have HE2 : Hid (EvB (freeS (finS S x) x)) := freeS_evb hEf x hx.1 hxf.2 haf
        have HA2 : Hid (alv (freeS (finS S x) x) ≤ m) := by
          have h3 := alv_free (S := finS S x) x hx.1 hxf.2 haf
          have h4 : alv (finS S x) = alv S := by unfold alv; rw [finS_n, finS_al]
          show _ ≤ _; omega
        have HE : Hid (LM = ((S.hl x).map (·.1)).foldl (look m) (freeS (finS S x) x)) := by show _ = _; rw [← HLM.out, look, if_neg (by rw [hax]; simp [hc1]), if_neg hc2]
        have hIw : Iv K (weakS (finS S x) x) := by
          have h5 := HI2.out
          refine ⟨hIf.n, hIf.al, hIf.rt, hIf.wk, hIf.fn, hIf.nd, hIf.hl, fun e he => h5.evs e (by
            have he2 : e ∈ (finS S x).ev ++ wkE (finS S x) x := he
            show e ∈ (finS S x).ev ++ wkE (finS S x) x ++ [(3, x)]
            exact List.mem_append_left _ he2)⟩
        have hevw : (weakS (finS S x) x).ev.length ≤ 20000 := by
          show ((finS S x).ev ++ wkE (finS S x) x).length ≤ _
          unfold wkE
          split <;> simp <;> omega
        have Q1 : Hid (Fr (PH hb am S.n ew tb f) w (PH hb am S.n ew1 tb f1) W1) := q1
        have hBW1 : B ≤ W1.heap.size := Nat.le_trans hB q1.kp.size
        clear h1 q1
        go_wp2_with fail
        refine hCw.mono ?_
        rintro e W2 ⟨rfl, ew2, h2, q2⟩
        clear hCw c2
        have hFr := freeI_any B hb am x K ew2 tb f1 AL (weakS (finS S x) x) W2 h2 hIw (by omega) hK hxf haf (Nat.le_trans hBW1 q2.kp.size)
        rw [hnf] at q2
        have Q2 : Hid (Fr (PH hb am S.n ew tb f) w (PH hb am S.n ew2 tb f1) W2) := Q1.out.trans q2
        have hBW2 : B ≤ W2.heap.size := Nat.le_trans hBW1 q2.kp.size
        clear h2 q2
        go_wp2_with fail
        refine hFr.mono ?_
        rintro e W3 ⟨rfl, ew3, f3, AL3, h3, q3, s3⟩
        clear hFr
        rw [show (weakS (finS S x) x).n = S.n from hnf] at q3
        have Q3 : Hid (Fr (PH hb am S.n ew tb f) w (PH hb am S.n ew3 tb f3) W3) := Q2.out.trans q3
        have hBW3 : B ≤ W3.heap.size := Nat.le_trans hBW2 q3.kp.size
        have HS3 : Hid (Sw f f3) := fun y => (s3 y).trans (s1 y)
        obtain ⟨S2, hS2⟩ : ∃ S2, freeS (finS S x) x = S2 := ⟨_, rfl⟩
        have H3 : Hid (GI W3 B hb am ew3 tb f3 AL3 S2) := by show GI _ _ _ _ _ _ _ _ _; rw [← hS2]; exact h3
        have HN2 : Hid (S2.n = S.n) := by show _ = _; rw [← hS2]; exact hnf
        have HHL : Hid (S2.hl = S.hl) := by show _ = _; rw [← hS2]; exact finS_hl _ _
        rw [hS2] at HI2 HE2 HA2 HE
        obtain ⟨KL, hKL⟩ : ∃ KL, (S.hl x).map (·.1) = KL := ⟨_, rfl⟩
        have HKL : Hid ((S.hl x).map (·.1) = KL) := hKL
        rw [hKL] at HE
        have HKI : Hid (∀ y ∈ KL, In S.n y) := fun y hy => by
          rw [← hKL] at hy
          obtain ⟨p, hp, rfl⟩ := List.mem_map.1 hy
          exact ⟨(hI.hl x p hp).1, (hI.hl x p hp).2.1⟩
        have hKn : KL.length ≤ 2500 := by rw [← hKL, List.length_map]; have := hI.len x; omega
        have hx2 : In S2.n x := by rw [HN2.out]; exact hx
        obtain ⟨rv, hrv⟩ : ∃ rv, (f3 x).row = rv := ⟨_, rfl⟩
        have HRV : Hid ((f x).row = rv) := by show _ = _; rw [← HS3.out x]; exact hrv
        have c7 : W3.cell? ⟨tb x, 7, none⟩ = some rv := by rw [← hrv]; exact cell_obj (H3.out.th.tg.obj x hx2) rfl
        have oR := H3.out.th.tg.row x hx2
        rw [hrv, H3.out.gi.od x hx2, HHL.out, HKL.out] at oR
        obtain ⟨LL, hLL⟩ : ∃ LL, KL.length = LL := ⟨_, rfl⟩
        have HLL : Hid (KL.length = LL) := hLL
        obtain ⟨a0, cap, g, hsl, hga⟩ : ∃ a0 cap g, rv = .slice a0 LL cap ∧ (0 < LL → a0 = some ⟨g, 0, none⟩) := by
          rcases oR.shape with ⟨e1, e2⟩ | ⟨g, cap, e1, _⟩
          · have : LL = 0 := by rw [← hLL]; have := congrArg List.length e2; simpa using this
            subst this
            exact ⟨none, 0, 0, e1, fun h => absurd h (by omega)⟩
          · rw [List.length_map, hLL] at e1
            exact ⟨_, cap, g, e1, fun _ => rfl⟩
        have HSL : Hid (rv = .slice a0 LL cap) := hsl
        have HGA : Hid (0 < LL → a0 = some ⟨g, 0, none⟩) := hga
        rw [hsl] at c7
        rw [hLL] at hKn
        clear h3 q3 s3 s1 hS2 hKL hrv hsl hga hLL oR hIf hEf hIw hevw hevf haf hc0 hc1 hc2 hc3 hcb hcb2 hal hBW1 hBW2
        go_wp2_with fail
        go_loopw [32] (fun i wr => ∃ (k : Nat) (ewk : Value) (fk : Nat → Tc) (ALk : List Nat), k ≤ LL ∧ i = .int .i64 (k : Nat) ∧ GI wr B hb am ewk tb fk ALk ((KL.take k).foldl (look m) S2) ∧ Fr (PH hb am S.n ew tb f) w (PH hb am S.n ewk tb fk) wr ∧ Sw f fk) (fun i _ => LL - (intOf i).toNat)
        case atStart => exact ⟨0, ew3, f3, AL3, Nat.zero_le _, rfl, H3.out, Q3.out, HS3.out⟩
        case round =>
          obtain ⟨k, ewk, fk, ALk, hk, rfl, hS, hF, hSw⟩ := hrel
          by_cases hkl : k < LL
          · have hkl2 : k < KL.length := by rw [HLL.out]; exact hkl
            obtain ⟨hIj, hEj, hLj⟩ := looks_all K m (KL.take k) S2 HI2.out HE2.out
            obtain ⟨SJ, hSJ⟩ : ∃ SJ, (KL.take k).foldl (look m) S2 = SJ := ⟨_, rfl⟩
            obtain ⟨y, hy⟩ : ∃ y, KL[k] = y := ⟨_, rfl⟩
            have HSJ1 : Hid ((KL.take (k + 1)).foldl (look m) S2 = look m SJ y) := by
              show _ = _
              rw [List.take_succ_eq_append_getElem hkl2, List.foldl_append, hSJ, hy]
              rfl
            rw [hSJ] at hS hIj hEj hLj
            have hnj : SJ.n = S.n := hLj.n.trans HN2.out
            have hyI : In S.n y := HKI.out y (by rw [← hy]; exact List.getElem_mem _)
            have hyJ : In SJ.n y := by rw [hnj]; exact hyI
            have hxJ : In SJ.n x := by rw [hnj]; exact hx
            have oK := hS.th.tg.row x hxJ
            rw [hSw x, HRV.out, hS.gi.od x hxJ, hLj.hl, HHL.out, HKL.out, HSL.out, HGA.out (by omega)] at oK
            have ck : wr.cell? ⟨g, k, none⟩ = some (.pointer (some ⟨tb y, 0, none⟩)) := by
              have := oK.cell k (by rw [List.length_map]; exact hkl2) 0 (by decide)
              rw [List.getElem_map, hy] at this
              have e9 : k * shT.n + 0 = k := by show k * 1 + 0 = k; omega
              rw [e9] at this
              exact this
            have cy : wr.cell? ⟨tb y, 0, none⟩ = some (.int .i64 (y : Nat)) := cell_obj (hS.th.tg.obj y hyJ) rfl
            have b0 := hS.th.boxc.1
            have al : Below wr.heap.size wr wr.drew := (Below.refl _ _).drew
            have hD : GI wr.drew B hb am ewk tb fk ALk SJ := ⟨hS.th.keep al, hS.gi⟩
            have HFD : Hid (Fr (PH hb am S.n ew tb f) w (PH hb am S.n ewk tb fk) wr.drew) := hF.trans (Fr.below al)
            have hLk := hD.th.lookA (by omega) (y : Int) (wf_i64 (by omega) (by have := hyI.2; omega))
            have HSW : Hid (Sw f fk) := hSw
            have HSI : Hid (∀ z, z ∈ ALk ↔ SJ.al z = true) := hS.gi.al
            have HD : Hid (GI wr.drew B hb am ewk tb fk ALk SJ) := hD
            have ha0 := HGA.out (by omega)
            have hkl3 : (k : Int) < (LL : Int) := by omega
            have hwk : IntKind.i64.wrap ((k : Int) + 1) = (k : Int) + 1 := wrap_small (by omega) (by omega)
            rcases hLk with ⟨hno, hlk⟩ | ⟨y', hyA, hye, hlk⟩
            · have hdy : SJ.al y = false := by
                cases e : SJ.al y with
                | false => rfl
                | true => exact absurd rfl (hno y ((HSI.out y).2 e))
              have HLD : Hid (look m SJ y = SJ) := by
                show _ = _
                cases m with
                | zero => rfl
                | succ m => rw [look, if_pos (.inl hdy)]
              clear hS hD hF hSw oK hIj hEj hLj hno ih
              subst ha0
              go_wp2_with fail
              go_region_held3 (fun W => W.cell? ⟨hb, 0, none⟩ = some (.map (some am)) ∧ W.cell? ⟨tb y, 0, none⟩ = some (.int .i64 (y : Nat))) (go_keep) (fail)
              go_wp2
              go_roundw
              case rel => exact ⟨k + 1, ewk, fk, ALk, by omega, by simp, by rw [HSJ1.out, HLD.out]; exact HD.out, HFD.out, HSW.out⟩
              case measure => simp [intOf]; omega
            · have hyy : y' = y := by omega
              subst hyy
              have hay : SJ.al y' = true := (HSI.out y').1 hyA
              have hIH := ih y' ewk fk ALk SJ wr.drew hD hIj hEj hay (Nat.le_trans hLj.alv HA2.out) (Nat.le_trans hB (hF.trans (Fr.below (P := PH hb am S.n ewk tb fk) al)).kp.size)
              rw [hnj] at hIH
              clear hS hD hF hSw oK hIj hEj hLj ih
              subst ha0
              go_wp2_with fail
              go_region_held3 (fun W => W.cell? ⟨hb, 0, none⟩ = some (.map (some am)) ∧ W.cell? ⟨tb y', 0, none⟩ = some (.int .i64 (y' : Nat))) (go_keep) (fail)
              go_wp2_with fail
              refine hIH.mono ?_
              rintro e W5 ⟨rfl, ew5, f5, AL5, h5, q5, s5⟩
              clear hIH
              have H5 : Hid (GI W5 B hb am ew5 tb f5 AL5 (look m SJ y')) := h5
              have Q5 : Hid (Fr (PH hb am S.n ew tb f) w (PH hb am S.n ew5 tb f5) W5) := HFD.out.trans q5
              have S5 : Hid (Sw f f5) := fun z => (s5 z).trans (HSW.out z)
              clear h5 q5 s5 hlk ck cy b0
              go_wp2
              go_roundw
              case rel => exact ⟨k + 1, ew5, f5, AL5, by omega, by simp, by rw [HSJ1.out]; exact H5.out, Q5.out, S5.out⟩
              case measure => simp [intOf]; omega
          · have hke : k = LL := by omega
            subst hke
            rw [List.take_of_length_le (by rw [HLL.out]; exact Nat.le_refl _)] at hS
            have HS : Hid (GI wr B hb am ewk tb fk ALk LM) := by show GI _ _ _ _ _ _ _ _ _; rw [HE.out]; exact hS
            clear hS ih
            have hnl : ¬ ((k : Int) < (k : Int)) := by omega
            go_wp2
            go_end0
            exact ⟨rfl, ewk, fk, ⟨ALk, HS.out⟩, hF, hSw⟩
end Go.Proofs.Ytjnalkeopehlbaa
