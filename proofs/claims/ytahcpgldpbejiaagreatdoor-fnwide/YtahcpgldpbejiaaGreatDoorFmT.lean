import Derived.Test.YtahcpgldpbejiaaGreatDoorFmS
namespace Go.Proofs.YtahcpgldpbejiaaGreatDoor
open Go.RowKit Go.Lib
set_option linter.unusedVariables false
set_option linter.unusedSimpArgs false

/-- RArgs, and no text. -/
def argsV : Value := .tuple #[.string ⟨#[]⟩, .int .i64 1]
/-- A spec that is no text's. -/
def refT (v : Sv) : Bool := v.s != 0 || v.a == 61 || v.cm || v.z || (v.kd != 0 && v.kd != 115)
def cutT (v : Sv) (rs : List Nat) : List Nat := if v.dt && decide (v.pr < rs.length) then rs.take v.pr else rs
/-- What FormatText answers, as the specification does it. -/
def ftL (v : Sv) (b : List Nat) : List UInt8 := layT (fcS v) (alS v 60) (missS v [] (encs b)) [] (encs b)
def ftS (sp s : ByteArray) : Value := match textOf sp with
  | none => argsV
  | some c => if okQ c then (match textOf s with | none => argsV | some rs => if refT (w7 c) then argsV else fitV (ftL (w7 c) (cutT (w7 c) rs))) else argsV
set_option maxHeartbeats 1500000 in
set_option maxRecDepth 100000 in
theorem formatTextS_any (sp s : ByteArray) (w : World) (hsp : sp.size ≤ 16777216) (hs : s.size ≤ 16777216) :
    Calls Tryz.prog 6 #[.string sp, .string s] w fun e w' => e = .returned (ftS sp s) ∧ Below w.heap.size w w' := by
  have hRS := readSpecS_any sp w hsp
  have hR := fun W => l3Runes_any s W (by omega)
  obtain ⟨RX, RY, hRR⟩ : ∃ x y, ftS sp s = .tuple #[.string x, .int .i64 y] := by
    unfold ftS argsV fitV
    repeat' split
    all_goals exact ⟨_, _, rfl⟩
  rw [hRR]
  have HRR : Hid (ftS sp s = .tuple #[.string RX, .int .i64 RY]) := hRR
  clear hRR
  go_enter Tryz.func6, Tryz.ntmps6
  go_wp2_with fail
  refine hRS.mono ?_
  rintro e w1 ⟨v, ok, rfl, hA, hB1⟩
  clear hRS
  have hP0 := Bx.new w1 [.int .i64 v.f, .int .u8 v.a, .int .u8 v.s, .bool v.z, .int .i64 v.wd, .bool v.cm, .bool v.dt, .int .i64 v.pr, .int .u8 v.kd] 45
  have hB2 : Below w.heap.size w (w1.alloc (.cells [.int .i64 v.f, .int .u8 v.a, .int .u8 v.s, .bool v.z, .int .i64 v.wd, .bool v.cm, .bool v.dt, .int .i64 v.pr, .int .u8 v.kd].toArray 45)) := hB1.alloc hB1.size _
  obtain ⟨PB, hPB⟩ : ∃ PB, w1.heap.size = PB := ⟨_, rfl⟩
  go_wp2_with fail
  generalize w1.alloc _ = W2 at *
  rw [hPB] at hP0
  clear hPB hB1
  refine (hR W2).mono ?_
  rintro e W3 ⟨a3, c3, rfl, hO3, hB3⟩
  have hP := hP0.keep hB3
  have hB := hB2.trans (hB3.mono hB2.size)
  clear hP0 hB2 hB3 hR
  cases ok with
  | false =>
    have hans : ftS sp s = argsV := by
      unfold ftS
      unfold RsA at hA
      cases ht : textOf sp with
      | none => rfl
      | some c =>
        rw [ht] at hA
        simp only
        rw [← hA.1]; rfl
    have h2 := HRR.out
    rw [hans] at h2
    unfold argsV at h2
    simp only [Value.tuple.injEq, Array.mk.injEq, List.cons.injEq, Value.string.injEq, Value.int.injEq, and_true, true_and] at h2
    obtain ⟨rfl, rfl⟩ := h2
    clear HRR hA hans
    go_wp2
    go_ret2
    exact ⟨rfl, hB⟩
  | true =>
    obtain ⟨c, hc, hok, hv⟩ : ∃ c, textOf sp = some c ∧ okQ c = true ∧ v = w7 c := by
      unfold RsA at hA
      cases ht : textOf sp with
      | none => rw [ht] at hA; cases hA
      | some c => rw [ht] at hA; exact ⟨c, rfl, hA.1.symm, hA.2 rfl⟩
    obtain ⟨hc1, hc2, hc3⟩ := text_iff.1 hc
    obtain ⟨k, _, _, _, hfc, hwd, haa, hpr⟩ := w7_ok hc3 hok
    rw [← hv] at hfc hwd haa hpr
    cases ht : textOf s with
    | none =>
      have hans : ftS sp s = argsV := by unfold ftS; rw [hc]; simp only; rw [if_pos hok, ht]
      have h2 := HRR.out
      rw [hans] at h2
      unfold argsV at h2
      simp only [Value.tuple.injEq, Array.mk.injEq, List.cons.injEq, Value.string.injEq, Value.int.injEq, and_true, true_and] at h2
      obtain ⟨rfl, rfl⟩ := h2
      rw [show (none : Option (List Nat)).isSome = false from rfl]
      clear HRR hA hans hc hok hv hc1 hc2 hc3 hO3
      go_wp2
      go_ret2
      exact ⟨rfl, hB⟩
    | some rs =>
      rw [ht] at hO3
      rw [show (ansL (some rs)).length = rs.length by simp [ansL], show (some rs).isSome = true from rfl]
      rw [show (ansL (some rs)).length = rs.length by simp [ansL]] at hO3
      obtain ⟨ht1, ht2, ht3⟩ := text_iff.1 ht
      have htl : (encs rs).length = s.size := by rw [← ht2, ← size_eq]
      have hrl : rs.length ≤ 16384 := by have := encs_len rs ht3; omega
      have HSc : Hid (∀ r ∈ rs, Scalar r) := ht3
      have HA2 : Hid (.tuple #[.string RX, .int .i64 RY] = if refT v then argsV else fitV (ftL v (cutT v rs))) := by
        show _ = _
        rw [← HRR.out]
        unfold ftS
        rw [hc]
        simp only
        rw [if_pos hok, ht, hv]
      have HRd : Hid (Rd W3 (.slice a3 rs.length c3) (rs.map fun (n : Nat) => (n : Int))) := hO3.rd
      have HTL : Hid ((encs rs).length ≤ 16384) := by show _ ≤ _; omega
      clear HRR hA hc hok hv hc1 hc2 hc3 ht ht1 ht2 ht3 htl hO3
      have d0 := hP.cell 0 (by simp)
      have d1 := hP.cell 1 (by simp)
      have d2 := hP.cell 2 (by simp)
      have d3 := hP.cell 3 (by simp)
      have d4 := hP.cell 4 (by simp)
      have d5 := hP.cell 5 (by simp)
      have d6 := hP.cell 6 (by simp)
      have d7 := hP.cell 7 (by simp)
      have d8 := hP.cell 8 (by simp)
      simp only [List.getElem_cons_zero, List.getElem_cons_succ] at d0 d1 d2 d3 d4 d5 d6 d7 d8
      have HP : Hid (Bx W3 PB [.int .i64 v.f, .int .u8 v.a, .int .u8 v.s, .bool v.z, .int .i64 v.wd, .bool v.cm, .bool v.dt, .int .i64 v.pr, .int .u8 v.kd]) := hP
      clear hP
      go_upto_region 3 with fail
      go_cut [53] from 20 to 53 (fun b wc => b = .bool (refT v) ∧ wc = W3)
      case first =>
        obtain ⟨vf, va, vs, vz, vw, vc, vd, vp, vk⟩ := v
        simp only at d1 d2 d3 d5 d8 ⊢
        by_cases h1 : vs = 0
        · subst h1
          by_cases h2 : va = 61
          · subst h2
            have HB : Hid (refT ⟨vf, 61, 0, vz, vw, vc, vd, vp, vk⟩ = true) := rfl
            go_wp2
            go_meet
            exact ⟨by rw [HB.out], rfl⟩
          · have e2 : ((va : Int) == 61) = false := by rw [beq_eq_false_iff_ne]; omega
            cases vc with
            | true =>
              have HB : Hid (refT ⟨vf, va, 0, vz, vw, true, vd, vp, vk⟩ = true) := by show _ = _; simp [refT]
              clear h2
              go_wp2
              go_meet
              exact ⟨by rw [HB.out], rfl⟩
            | false =>
              cases vz with
              | true =>
                have HB : Hid (refT ⟨vf, va, 0, true, vw, false, vd, vp, vk⟩ = true) := by show _ = _; simp [refT]
                clear h2
                go_wp2
                go_meet
                exact ⟨by rw [HB.out], rfl⟩
              | false =>
                by_cases h3 : vk = 0
                · subst h3
                  have HB : Hid (refT ⟨vf, va, 0, false, vw, false, vd, vp, 0⟩ = false) := by show _ = _; simp [refT, h2]
                  clear h2
                  go_wp2
                  go_meet
                  exact ⟨by rw [HB.out], rfl⟩
                · have e3 : ((vk : Int) != 0) = true := by simp; omega
                  by_cases h4 : vk = 115
                  · subst h4
                    have HB : Hid (refT ⟨vf, va, 0, false, vw, false, vd, vp, 115⟩ = false) := by show _ = _; simp [refT, h2]
                    clear h2 h3
                    go_wp2
                    go_meet
                    exact ⟨by rw [HB.out], rfl⟩
                  · have e4 : ((vk : Int) != 115) = true := by simp; omega
                    have HB : Hid (refT ⟨vf, va, 0, false, vw, false, vd, vp, vk⟩ = true) := by show _ = _; simp [refT, h3, h4]
                    clear h2 h3 h4
                    go_wp2
                    go_meet
                    exact ⟨by rw [HB.out], rfl⟩
        · have e1 : ((vs : Int) != 0) = true := by simp; omega
          have HB : Hid (refT ⟨vf, va, vs, vz, vw, vc, vd, vp, vk⟩ = true) := by show _ = _; simp [refT, h1]
          clear h1
          go_wp2
          go_meet
          exact ⟨by rw [HB.out], rfl⟩
      case rest =>
        obtain ⟨rfl, hw⟩ := hcut
        obtain rfl : W3 = wc := hw.symm
        cases hrf : refT v with
        | true =>
          have h2 := HA2.out
          rw [hrf, if_pos rfl] at h2
          unfold argsV at h2
          simp only [Value.tuple.injEq, Array.mk.injEq, List.cons.injEq, Value.string.injEq, Value.int.injEq, and_true, true_and] at h2
          obtain ⟨rfl, rfl⟩ := h2
          clear HA2 hrf
          go_wp2
          go_ret2
          exact ⟨rfl, hB⟩
        | false =>
          have HA3 : Hid (.tuple #[.string RX, .int .i64 RY] = fitV (ftL v (cutT v rs))) := by
            show _ = _
            rw [HA2.out, hrf]; rfl
          clear HA2 hrf d1 d2 d3 d5 d8 d0 d4
          go_upto_region 5 with fail
          go_cut [62] from 54 to 62 (fun b wc => b = .bool (v.dt && decide (v.pr < rs.length)) ∧ wc = W3)
          case first =>
            obtain ⟨vf, va, vs, vz, vw, vc, vd, vp, vk⟩ := v
            simp only at d6 d7 ⊢
            cases vd with
            | false =>
              go_wp2
              go_meet
              exact ⟨rfl, rfl⟩
            | true =>
              by_cases hl : vp < rs.length
              · have hlz : (vp : Int) < (rs.length : Int) := by omega
                have HB : Hid ((true && decide (vp < rs.length)) = true) := by show _ = _; simp [hl]
                clear hl
                go_wp2
                go_meet
                exact ⟨by rw [HB.out], rfl⟩
              · have hlz : ¬ (vp : Int) < (rs.length : Int) := by omega
                have HB : Hid ((true && decide (vp < rs.length)) = false) := by show _ = _; simp [hl]
                clear hl
                go_wp2
                go_meet
                exact ⟨by rw [HB.out], rfl⟩
          case rest =>
            obtain ⟨rfl, hw⟩ := hcut
            obtain rfl : W3 = wc := hw.symm
            go_upto_if 62 with fail
            go_cut [8] from 62 to 66 (fun s8 wc => ∃ (M c4 : Nat), s8 = .slice a3 M c4 ∧ Hid (M = (cutT v rs).length) ∧ Rd W3 (.slice a3 M c4) ((cutT v rs).map fun (n : Nat) => (n : Int)) ∧ wc = W3)
            case first =>
              cases hb : (v.dt && decide (v.pr < rs.length)) with
              | false =>
                have HC : Hid (cutT v rs = rs) := by show _ = _; unfold cutT; rw [hb]; rfl
                clear hb
                go_wp2
                go_meet
                exact ⟨rs.length, c3, rfl, by rw [HC.out]; rfl, by rw [HC.out]; exact HRd.out, rfl⟩
              | true =>
                have hl : v.pr < rs.length := by
                  simp only [Bool.and_eq_true, decide_eq_true_eq] at hb; exact hb.2
                have HC : Hid (cutT v rs = rs.take v.pr) := by show _ = _; unfold cutT; rw [hb]; rfl
                have hcap : rs.length ≤ c3 := by
                  obtain ⟨a2, c2, e2, _, _, h5, _⟩ := HRd.out
                  simp only [Value.slice.injEq] at e2
                  obtain ⟨_, _, rfl⟩ := e2
                  have := h5.1
                  simpa using this
                have hcz : (v.pr : Int) ≤ (c3 : Int) := by omega
                have HU : Hid (Rd W3 (.slice a3 v.pr c3) ((rs.take v.pr).map fun (n : Nat) => (n : Int))) := by
                  have := HRd.out.upto v.pr (by simp; omega)
                  rw [← List.map_take] at this; exact this
                have HLn : Hid ((rs.take v.pr).length = v.pr) := by show _ = _; rw [List.length_take]; omega
                clear hb hcap
                go_wp2
                go_meet
                exact ⟨v.pr, c3, rfl, by rw [HC.out, HLn.out]; rfl, by rw [HC.out]; exact HU.out, rfl⟩
            case rest =>
              obtain ⟨M, c4, rfl, HM, hRd4, hw⟩ := hcut
              obtain rfl : W3 = wc := hw.symm
              have HB4 : Hid (∀ r ∈ cutT v rs, Scalar r) := fun r hr => by
                unfold cutT at hr
                split at hr
                · exact HSc.out r (List.mem_of_mem_take hr)
                · exact HSc.out r hr
              have hBl : (cutT v rs).length ≤ rs.length := by
                unfold cutT
                split
                · rw [List.length_take]; omega
                · exact Nat.le_refl _
              obtain ⟨BL, hBL⟩ : ∃ BL, cutT v rs = BL := ⟨_, rfl⟩
              rw [hBL] at HA3 HM hRd4 HB4 hBl
              obtain ⟨TX, hTX⟩ : ∃ TX : ByteArray, (⟨(encs BL).toArray⟩ : ByteArray) = TX := ⟨_, rfl⟩
              have hTd : TX.data.toList = encs BL := by rw [← hTX]
              have hTs : TX.size ≤ 70000 := by rw [size_eq, hTd]; have := encs_le4 BL; omega
              have hTx : ∀ W, Below W3.heap.size W3 W → Calls Tryz.prog 24 #[.slice a3 M c4] W fun e w' => e = .returned (.string TX) ∧ Below W.heap.size W w' := fun W hb => by
                have h := l3Text_any a3 c4 BL W (by rw [← HM.out]; exact hRd4.keep hb) HB4.out (by omega)
                rw [← HM.out, hTX] at h
                exact h
              have hLy := fun W => l3Lay_any v ⟨#[]⟩ TX 60 W (by show (#[] : Array UInt8).size ≤ _; simp) (by omega) hfc hwd haa (by omega)
              rw [hTd, show (⟨#[]⟩ : ByteArray).data.toList = [] from rfl] at hLy
              rw [show fitV (layT (fcS v) (alS v 60) (missS v [] (encs BL)) [] (encs BL)) = fitV (ftL v BL) from rfl, ← HA3.out] at hLy
              unfold spV spC at hLy
              have d0 := HP.out.cell 0 (by simp)
              have d1 := HP.out.cell 1 (by simp)
              have d2 := HP.out.cell 2 (by simp)
              have d3 := HP.out.cell 3 (by simp)
              have d4 := HP.out.cell 4 (by simp)
              have d5 := HP.out.cell 5 (by simp)
              have d8 := HP.out.cell 8 (by simp)
              simp only [List.getElem_cons_zero, List.getElem_cons_succ] at d0 d1 d2 d3 d4 d5 d8
              clear HA3 HB4 hBl hBL hTX hTd HM HSc HRd HTL hRd4
              go_upto_region 7 with fail
              go_region_with (first
                | (go_at_call 24; refine (hTx _ (Below.refl _ W3).drew).mono ?_; rintro e W5 ⟨rfl, hB5⟩; have hB35 := (Below.refl _ W3).drew.trans hB5; have hP5 := HP.out.keep hB35; have g0 := hP5.cell 0 (by simp); have g1 := hP5.cell 1 (by simp); have g2 := hP5.cell 2 (by simp); have g3 := hP5.cell 3 (by simp); have g4 := hP5.cell 4 (by simp); have g5 := hP5.cell 5 (by simp); have g6 := hP5.cell 6 (by simp); have g7 := hP5.cell 7 (by simp); have g8 := hP5.cell 8 (by simp); simp only [List.getElem_cons_zero, List.getElem_cons_succ] at g0 g1 g2 g3 g4 g5 g6 g7 g8)
                | (go_at_call 23; refine (hLy _).mono ?_; rintro e W6 ⟨rfl, hB6⟩))
              all_goals
                go_wp2
                go_ret2
                exact ⟨rfl, (hB.trans (hB35.mono hB.size)).trans (hB6.mono (hB.trans (hB35.mono hB.size)).size)⟩
end Go.Proofs.YtahcpgldpbejiaaGreatDoor
