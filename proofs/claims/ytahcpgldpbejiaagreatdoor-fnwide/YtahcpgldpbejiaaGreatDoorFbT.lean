import Derived.Test.YtahcpgldpbejiaaGreatDoorFmT
import Derived.Test.YtahcpgldpbejiaaGreatDoorMfa
import Derived.Test.YtahcpgldpbejiaaGreatDoorMzD
import Derived.Deep.RegionHeld3
namespace Go.Proofs.YtahcpgldpbejiaaGreatDoor
open Go.RowKit Go.Lib
set_option linter.unusedVariables false
set_option linter.unusedSimpArgs false

/-- The base that a kind's sign asks for; 0: none. -/
def bsS (kd : Nat) : Nat := if kd = 98 then 2 else if kd = 111 then 8 else if kd = 120 then 16 else if kd ≠ 0 ∧ kd ≠ 100 then 0 else 10
def fbBad (v : Sv) (o : Bool) : Bool := bsS v.kd == 0 || !o || v.dt || (v.cm && bsS v.kd != 10)
def fbB (v : Sv) (xs : List Int) : List UInt8 := if v.cm then cmT (Z.txt (bsS v.kd) (Z.val xs)) else Z.txt (bsS v.kd) (Z.val xs)
def fbL (v : Sv) (p : Bool) (xs : List Int) : List UInt8 := layT (fcS v) (alS v 62) (missS v (sgS v p).data.toList (fbB v xs)) (sgS v p).data.toList (fbB v xs)
/-- What FormatBig answers. -/
def fbS (sp : ByteArray) (p : Bool) (xs : List Int) : Value := match textOf sp with
  | none => argsV
  | some c => if okQ c then (if fbBad (w7 c) (Z.okB p xs) then argsV else fitV (fbL (w7 c) p xs)) else argsV
theorem fbS_ex (sp : ByteArray) (p : Bool) (xs : List Int) : ∃ x y, fbS sp p xs = .tuple #[.string x, .int .i64 y] := by
  unfold fbS argsV fitV
  repeat' split
  all_goals exact ⟨_, _, rfl⟩
theorem txt_dgs (n : Nat) : dgs (Z.txt 10 n) := by
  intro x hx
  unfold Z.txt at hx
  split at hx
  · simp at hx; subst hx; decide
  · rw [List.mem_reverse, List.mem_map] at hx
    obtain ⟨d, hd, rfl⟩ := hx
    have := Z.le_lt (by omega) n d hd
    unfold Z.ch
    rw [if_pos this]
    have : (48 + d).toUInt8.toNat = 48 + d := by rw [Nat.toUInt8, UInt8.toNat_ofNat']; omega
    rw [this]; omega
theorem sgS_size (v : Sv) (p : Bool) : (sgS v p).size ≤ 1 := by
  unfold sgS
  repeat' split
  all_goals decide
theorem bsS_b {kd b : Nat} (h : bsS kd = b) (h0 : b ≠ 0) : 2 ≤ b ∧ b ≤ 36 := by
  unfold bsS at h
  repeat' split at h
  all_goals omega
set_option maxHeartbeats 3000000 in
set_option maxRecDepth 100000 in
theorem formatBigS_any (sp : ByteArray) (p : Bool) (u : Value) (xs : List Int) (w : World) (hsp : sp.size ≤ 16777216) (hx : Z.Rd w u xs) :
    Calls Tryz.prog 9 #[.string sp, .agg #[.bool p, u]] w fun e w' => e = .returned (fbS sp p xs) ∧ Below w.heap.size w w' := by
  obtain ⟨RX, RY, hRR⟩ := fbS_ex sp p xs
  rw [hRR]
  have HRR : Hid (fbS sp p xs = .tuple #[.string RX, .int .i64 RY]) := hRR
  clear hRR
  have hx' := hx
  obtain ⟨a, cap, rfl, _, hzx, hnx, hcx⟩ := hx
  clear hcx hnx
  have hok := fun W h => Z.bigOkS_any p (.slice a xs.length cap) xs W h
  have bA := Z.Box.new w (.bool p) (.slice a xs.length cap) 30
  have rx := hx'.alloc (Obj.cells #[.bool p, .slice a xs.length cap] 30)
  have hW := (Below.refl w.heap.size w).alloc (Nat.le_refl _) (Obj.cells #[.bool p, .slice a xs.length cap] 30)
  have hRS := fun W => readSpecS_any sp W hsp
  go_enter Tryz.func9, Tryz.ntmps9
  go_upto_region 1 with fail
  generalize w.alloc _ = W0 at *
  go_wp2_with fail
  refine (hRS W0).mono ?_
  rintro e w1 ⟨v, ok, rfl, hA, hB1⟩
  clear hRS
  have hP0 := Bx.new w1 [.int .i64 v.f, .int .u8 v.a, .int .u8 v.s, .bool v.z, .int .i64 v.wd, .bool v.cm, .bool v.dt, .int .i64 v.pr, .int .u8 v.kd] 45
  have hB2 : Below W0.heap.size W0 (w1.alloc (.cells [.int .i64 v.f, .int .u8 v.a, .int .u8 v.s, .bool v.z, .int .i64 v.wd, .bool v.cm, .bool v.dt, .int .i64 v.pr, .int .u8 v.kd].toArray 45)) := hB1.alloc hB1.size _
  obtain ⟨PB, hPB⟩ : ∃ PB, w1.heap.size = PB := ⟨_, rfl⟩
  go_upto_region 3 with fail
  generalize w1.alloc _ = W2 at *
  rw [hPB] at hP0
  clear hPB hB1
  have d8 := hP0.cell 8 (by simp)
  simp only [List.getElem_cons_zero, List.getElem_cons_succ] at d8
  go_cut [17] from 15 to 17 (fun b wc => b = .bool (v.kd == 98) ∧ wc = W2)
  case first =>
    by_cases h : v.kd = 98
    · rw [h] at d8
      have HB : Hid ((v.kd == 98) = true) := by show _ = _; rw [h]; rfl
      clear h
      go_wp2
      go_meet
      exact ⟨by rw [HB.out], rfl⟩
    · have HB : Hid ((v.kd == 98) = false) := by show _ = _; simp [h]
      have e1 : ((v.kd : Int) == 98) = false := by rw [beq_eq_false_iff_ne]; omega
      clear h
      go_wp2
      go_meet
      exact ⟨by rw [HB.out], rfl⟩
  case rest =>
    obtain ⟨rfl, hw⟩ := hcut
    obtain rfl : W2 = wc := hw.symm
    clear hw
    obtain ⟨b, hb⟩ : ∃ b, bsS v.kd = b := ⟨_, rfl⟩
    have HBS : Hid (bsS v.kd = b) := hb
    clear hb
    obtain ⟨okk, hokk⟩ : ∃ okk, (ok && b != 0) = okk := ⟨_, rfl⟩
    have HOK : Hid ((ok && b != 0) = okk) := hokk
    obtain ⟨bb, hbb⟩ : ∃ bb, (if b = 0 then 10 else b) = bb := ⟨_, rfl⟩
    have HBB : Hid ((if b = 0 then 10 else b) = bb) := hbb
    clear hokk hbb
    go_upto_if 17 with fail
    go_cut [7, 8] from 17 to 31 (fun s7 s8 wc => s7 = .bool okk ∧ s8 = .int .i64 (bb : Nat) ∧ wc = W2)
    case first =>
      have hbs := HBS.out
      unfold bsS at hbs
      by_cases h1 : v.kd = 98
      · rw [if_pos h1] at hbs
        subst hbs
        obtain rfl : 2 = bb := HBB.out
        obtain rfl : ok = okk := by have := HOK.out; simpa using this
        have e0 : (v.kd == 98) = true := by rw [h1]; rfl
        rw [e0]
        clear h1 e0
        go_wp2
        go_meet
        exact ⟨rfl, rfl, rfl⟩
      · rw [if_neg h1] at hbs
        have e0 : (v.kd == 98) = false := by simp [h1]
        rw [e0]
        clear e0
        by_cases h2 : v.kd = 111
        · rw [if_pos h2] at hbs
          subst hbs
          obtain rfl : 8 = bb := HBB.out
          obtain rfl : ok = okk := by have := HOK.out; simpa using this
          rw [h2] at d8
          clear h1 h2
          go_wp2
          go_meet
          exact ⟨rfl, rfl, rfl⟩
        · rw [if_neg h2] at hbs
          have e2 : ((v.kd : Int) == 111) = false := by rw [beq_eq_false_iff_ne]; omega
          by_cases h3 : v.kd = 120
          · rw [if_pos h3] at hbs
            subst hbs
            obtain rfl : 16 = bb := HBB.out
            obtain rfl : ok = okk := by have := HOK.out; simpa using this
            rw [h3] at d8
            clear h1 h2 h3 e2
            go_wp2
            go_meet
            exact ⟨rfl, rfl, rfl⟩
          · rw [if_neg h3] at hbs
            have e3 : ((v.kd : Int) == 120) = false := by rw [beq_eq_false_iff_ne]; omega
            by_cases h4 : v.kd = 0
            · rw [if_neg (by omega)] at hbs
              subst hbs
              obtain rfl : 10 = bb := HBB.out
              obtain rfl : ok = okk := by have := HOK.out; simpa using this
              rw [h4] at d8
              clear h1 h2 h3 h4 e2 e3
              go_wp2
              go_meet
              exact ⟨rfl, rfl, rfl⟩
            · have e4 : ((v.kd : Int) != 0) = true := by simp; omega
              by_cases h5 : v.kd = 100
              · rw [if_neg (by omega)] at hbs
                subst hbs
                obtain rfl : 10 = bb := HBB.out
                obtain rfl : ok = okk := by have := HOK.out; simpa using this
                rw [h5] at d8
                clear h1 h2 h3 h4 h5 e2 e3 e4
                go_wp2
                go_meet
                exact ⟨rfl, rfl, rfl⟩
              · rw [if_pos ⟨h4, h5⟩] at hbs
                subst hbs
                obtain rfl : 10 = bb := HBB.out
                obtain rfl : false = okk := by have := HOK.out; simpa using this
                have e5 : ((v.kd : Int) != 100) = true := by simp; omega
                clear h1 h2 h3 h4 h5
                go_wp2
                go_meet
                exact ⟨rfl, rfl, rfl⟩
    case rest =>
      obtain ⟨rfl, rfl, hw⟩ := hcut
      obtain rfl : W2 = wc := hw.symm
      clear hw
      have hB02 := hW.trans (hB2.mono hW.size)
      have bA2 := bA.keep hB2
      have rx2 := rx.keep hB2
      clear bA rx
      obtain ⟨bad, hbad⟩ : ∃ bad, (!okk || !(Z.okB p xs) || v.dt || (v.cm && bb != 10)) = bad := ⟨_, rfl⟩
      have HBD : Hid ((!okk || !(Z.okB p xs) || v.dt || (v.cm && bb != 10)) = bad) := hbad
      clear hbad
      obtain ⟨OK, hOKe⟩ : ∃ OK, Z.okB p xs = OK := ⟨_, rfl⟩
      have HOKe : Hid (Z.okB p xs = OK) := hOKe
      rw [hOKe] at hok
      clear hOKe
      obtain ⟨-, k0, k1⟩ := id bA2
      go_upto_region 11 with fail
      go_cut [50] from 32 to 50 (fun s wc => s = .bool bad ∧ Below W2.heap.size W2 wc)
      case first =>
        have hbd := HBD.out
        rw [HOKe.out] at hbd
        cases okk with
        | false =>
          obtain rfl : true = bad := by simpa using hbd
          go_wp2
          go_meet
          exact ⟨rfl, Below.refl _ _⟩
        | true =>
          simp only [Bool.not_true, Bool.false_or] at hbd
          go_wp2_with fail
          refine (hok W2 rx2).mono ?_
          rintro e W3 ⟨rfl, hB3⟩
          have hP3 := hP0.keep hB3
          have d5 := hP3.cell 5 (by simp)
          have d6 := hP3.cell 6 (by simp)
          simp only [List.getElem_cons_zero, List.getElem_cons_succ] at d5 d6
          clear hP3 hP0 d8 hok
          cases OK with
          | false =>
            obtain rfl : true = bad := by simpa using hbd
            go_wp2
            go_meet
            exact ⟨rfl, hB3⟩
          | true =>
            simp only [Bool.not_true, Bool.false_or] at hbd
            generalize v.dt = dt at *
            generalize v.cm = cm at *
            cases dt with
            | true =>
              obtain rfl : true = bad := by simpa using hbd
              go_wp2
              go_meet
              exact ⟨rfl, hB3⟩
            | false =>
              cases cm with
              | false =>
                obtain rfl : false = bad := by simpa using hbd
                go_wp2
                go_meet
                exact ⟨rfl, hB3⟩
              | true =>
                simp only [Bool.false_or, Bool.true_and] at hbd
                have HV : Hid (((bb : Int) != 10) = bad) := by
                  show _ = _
                  rw [← hbd, Bool.eq_iff_iff]; simp; omega
                clear hbd
                go_wp2
                go_meet
                exact ⟨congrArg Value.bool HV.out, hB3⟩
      case rest =>
        obtain ⟨rfl, hB3⟩ := hcut
        generalize wc = W3 at *
        have hB03 := hB02.trans (hB3.mono hB02.size)
        have HEQ : Hid (ok = true → fbBad v (Z.okB p xs) = bad) := by
          intro h
          subst h
          rw [← HBD.out, ← HOK.out]
          unfold fbBad
          rw [HBS.out]
          by_cases h0 : b = 0
          · simp [h0]
          · have h1 := HBB.out
            rw [if_neg h0] at h1
            rw [← h1]
            have h2 : (b != 0) = true := by simp [h0]
            have h3 : (b == 0) = false := by simp [h0]
            rw [h2, h3]; rfl
        cases bad with
        | true =>
          have hans : fbS sp p xs = argsV := by
            unfold fbS
            unfold RsA at hA
            cases ht : textOf sp with
            | none => rfl
            | some c =>
              rw [ht] at hA
              simp only
              cases hq : okQ c with
              | false => rfl
              | true =>
                have h1 : ok = true := hA.1.trans hq
                have h2 := HEQ.out h1
                rw [hA.2 h1] at h2
                rw [if_pos rfl, if_pos h2]
          have h2 := HRR.out
          rw [hans] at h2
          unfold argsV at h2
          simp only [Value.tuple.injEq, Array.mk.injEq, List.cons.injEq, Value.string.injEq, Value.int.injEq, and_true, true_and] at h2
          obtain ⟨rfl, rfl⟩ := h2
          clear HRR hA hans HEQ HBD HBS HOK HBB d8 k0 k1 hok hP0 bA2 rx2 hx'
          go_wp2
          go_ret2
          exact ⟨rfl, hB03⟩
        | false =>
          have hbd := HBD.out
          simp only [Bool.or_eq_false_iff, Bool.not_eq_false', Bool.and_eq_false_iff] at hbd
          obtain ⟨⟨⟨q1, q2⟩, q3⟩, q4⟩ := hbd
          have hok1 : ok = true := by have := HOK.out; rw [q1] at this; simp at this; exact this.1
          have hb0 : b ≠ 0 := by have := HOK.out; rw [q1] at this; simp at this; exact this.2
          obtain rfl : b = bb := by have := HBB.out; rw [if_neg hb0] at this; exact this
          obtain ⟨hb2, hb36⟩ := bsS_b HBS.out hb0
          obtain ⟨c, hc, hokQ, hv⟩ : ∃ c, textOf sp = some c ∧ okQ c = true ∧ v = w7 c := by
            unfold RsA at hA
            cases ht : textOf sp with
            | none => rw [ht, hok1] at hA; cases hA
            | some c => rw [ht] at hA; exact ⟨c, rfl, hA.1.symm.trans hok1, hA.2 hok1⟩
          obtain ⟨hc1, hc2, hc3⟩ := text_iff.1 hc
          obtain ⟨k, _, _, _, hfc, hwd, haa, hpr⟩ := w7_ok hc3 hokQ
          rw [← hv] at hfc hwd haa hpr
          have hans : fbS sp p xs = fitV (fbL v p xs) := by
            unfold fbS
            rw [hc]
            simp only
            rw [if_pos hokQ, ← hv, HEQ.out hok1]; rfl
          have hRf : fitV (fbL v p xs) = .tuple #[.string RX, .int .i64 RY] := hans.symm.trans HRR.out
          have hlx := (Z.okB_norm q2).2
          have hnm := (Z.okB_norm q2).1
          have hD := fun W h => Z.l1Digits_any (.slice a xs.length cap) xs b W h hnm hlx hb2 hb36
          have htl := Z.txt_len (b := b) hb2 hzx hlx
          obtain ⟨S, hS⟩ : ∃ S : ByteArray, (⟨(Z.txt b (Z.val xs)).toArray⟩ : ByteArray) = S := ⟨_, rfl⟩
          have hSz : S.size ≤ 4096 := by rw [← hS]; show (Z.txt b (Z.val xs)).toArray.size ≤ _; simpa using htl
          have hSl : S.data.toList = Z.txt b (Z.val xs) := by rw [← hS]
          rw [hS] at hD
          have hSg := fun W => l3SignOf_any v p W
          have hLy := fun Y W (hY : Y.size ≤ 8000000) => l3Lay_any v (sgS v p) Y 62 W (by have := sgS_size v p; omega) hY hfc hwd haa (by omega)
          have rx3 := rx2.keep hB3
          have bA3 := bA2.keep hB3
          have hP3 := hP0.keep hB3
          have HFB : Hid (∀ Y : ByteArray, Y.data.toList = fbB v xs → fitV (layT (fcS v) (alS v 62) (missS v (sgS v p).data.toList Y.data.toList) (sgS v p).data.toList Y.data.toList) = .tuple #[.string RX, .int .i64 RY]) := fun Y hY => by rw [hY]; exact hRf
          have HFC : Hid (fbB v xs = if v.cm then cmT S.data.toList else S.data.toList) := by show _ = _; unfold fbB; rw [HBS.out, hSl]
          have HDG : Hid (v.cm = true → dgs S.data.toList) := fun h => by
            rw [hSl]
            rcases q4 with q4 | q4
            · rw [h] at q4; cases q4
            · obtain rfl : b = 10 := by simpa using q4
              exact txt_dgs _
          clear HRR hA hans HEQ HBD HBS HOK HBB d8 k0 k1 hok hP0 bA2 rx2 hx' hRf htl hS hSl hfc hwd haa hpr hc hokQ hv hc1 hc2 hc3 hnm hlx q1 q2 q3 q4 hok1 hb0 hB2 hW hB02 hB3
          obtain ⟨-, k0, k1⟩ := id bA3
          go_wp2_with fail
          refine (hD W3 rx3).mono ?_
          rintro e W4 ⟨rfl, hB4⟩
          have hB04 := hB03.trans (hB4.mono hB03.size)
          have bA4 := bA3.keep hB4
          have hP4 := hP3.keep hB4
          clear hD rx3 bA3 hP3 k0 k1 hB4 hB03
          have d5 := hP4.cell 5 (by simp)
          simp only [List.getElem_cons_zero, List.getElem_cons_succ] at d5
          have HFB2 : Hid (∀ Y : ByteArray, Y.data.toList = (if v.cm then cmT S.data.toList else S.data.toList) → fitV (layT (fcS v) (alS v 62) (missS v (sgS v p).data.toList Y.data.toList) (sgS v p).data.toList Y.data.toList) = .tuple #[.string RX, .int .i64 RY]) := fun Y hY => HFB.out Y (hY.trans HFC.out.symm)
          clear HFB HFC
          unfold spV spC at hSg hLy
          generalize hcm : v.cm = cm at hSg hLy hP4 d5 HFB2 HDG
          clear hcm
          cases cm with
          | true =>
            have hC := l3Commas_any S W4 (by omega) (HDG.out rfl)
            obtain ⟨Y, hY⟩ : ∃ Y : ByteArray, (⟨(cmT S.data.toList).toArray⟩ : ByteArray) = Y := ⟨_, rfl⟩
            have hYd : Y.data.toList = cmT S.data.toList := by rw [← hY]
            have hYs : Y.size ≤ 8000000 := by
              rw [size_eq, hYd]
              have := cmO_len S.data.toList S.data.toList.length
              have h2 := size_eq S
              unfold cmT; omega
            rw [hY] at hC
            have hLy := fun W => hLy Y W hYs
            rw [HFB2.out Y hYd] at hLy
            clear HFB2 HDG hY hYd hYs
            go_wp2_with fail
            refine hC.mono ?_
            rintro e W5 ⟨rfl, hB5⟩
            have hB05 := hB04.trans (hB5.mono hB04.size)
            have bA5 := bA4.keep hB5
            have hP5 := hP4.keep hB5
            clear hC bA4 hP4 d5 hB5 hB04
            have f0 := hP5.cell 0 (by simp)
            have f1 := hP5.cell 1 (by simp)
            have f2 := hP5.cell 2 (by simp)
            have f3 := hP5.cell 3 (by simp)
            have f4 := hP5.cell 4 (by simp)
            have f5 := hP5.cell 5 (by simp)
            have f6 := hP5.cell 6 (by simp)
            have f7 := hP5.cell 7 (by simp)
            have f8 := hP5.cell 8 (by simp)
            simp only [List.getElem_cons_zero, List.getElem_cons_succ] at f0 f1 f2 f3 f4 f5 f6 f7 f8
            obtain ⟨-, m0, m1⟩ := id bA5
            go_upto_region 16 with fail
            go_region_held3 (fun W => W.cell? ⟨PB, 0, none⟩ = some (.int .i64 v.f) ∧ W.cell? ⟨PB, 1, none⟩ = some (.int .u8 v.a) ∧ W.cell? ⟨PB, 2, none⟩ = some (.int .u8 v.s) ∧ W.cell? ⟨PB, 3, none⟩ = some (.bool v.z) ∧ W.cell? ⟨PB, 4, none⟩ = some (.int .i64 v.wd) ∧ W.cell? ⟨PB, 5, none⟩ = some (.bool true) ∧ W.cell? ⟨PB, 6, none⟩ = some (.bool v.dt) ∧ W.cell? ⟨PB, 7, none⟩ = some (.int .i64 v.pr) ∧ W.cell? ⟨PB, 8, none⟩ = some (.int .u8 v.kd) ∧ W.cell? ⟨w.heap.size, 0, none⟩ = some (.bool p)) (go_keep) (first
              | (go_at_call 31; refine (hSg _).mono ?_; rintro e W7 ⟨rfl, hB7⟩; have hB57 := (Below.refl _ W5).drew.trans hB7; have hP7 := hP5.keep hB57; have g0 := hP7.cell 0 (by simp); have g1 := hP7.cell 1 (by simp); have g2 := hP7.cell 2 (by simp); have g3 := hP7.cell 3 (by simp); have g4 := hP7.cell 4 (by simp); have g5 := hP7.cell 5 (by simp); have g6 := hP7.cell 6 (by simp); have g7 := hP7.cell 7 (by simp); have g8 := hP7.cell 8 (by simp); simp only [List.getElem_cons_zero, List.getElem_cons_succ] at g0 g1 g2 g3 g4 g5 g6 g7 g8; obtain ⟨-, q0, q1⟩ := bA5.keep hB57)
              | (go_at_call 23; refine (hLy _).mono ?_; rintro e W8 ⟨rfl, hB8⟩; have hB58 := hB57.trans (hB8.mono hB57.size); have hP8 := hP5.keep hB58; have k0 := hP8.cell 0 (by simp); have k1 := hP8.cell 1 (by simp); have k2 := hP8.cell 2 (by simp); have k3 := hP8.cell 3 (by simp); have k4 := hP8.cell 4 (by simp); have k5 := hP8.cell 5 (by simp); have k6 := hP8.cell 6 (by simp); have k7 := hP8.cell 7 (by simp); have k8 := hP8.cell 8 (by simp); simp only [List.getElem_cons_zero, List.getElem_cons_succ] at k0 k1 k2 k3 k4 k5 k6 k7 k8; obtain ⟨-, r0, r1⟩ := bA5.keep hB58))
            all_goals
              go_wp2
              go_ret2
              exact ⟨rfl, hB05.trans (hB58.mono hB05.size)⟩
          | false =>
            have hLy := fun W => hLy S W (by omega)
            rw [HFB2.out S rfl] at hLy
            clear HFB2 HDG
            obtain ⟨W5, hW5⟩ : ∃ W5, W4 = W5 := ⟨_, rfl⟩
            subst hW5
            generalize W4 = W5 at *
            have hB05 := hB04
            have bA5 := bA4
            have hP5 := hP4
            clear bA4 hP4 hB04
            have f0 := hP5.cell 0 (by simp)
            have f1 := hP5.cell 1 (by simp)
            have f2 := hP5.cell 2 (by simp)
            have f3 := hP5.cell 3 (by simp)
            have f4 := hP5.cell 4 (by simp)
            have f5 := hP5.cell 5 (by simp)
            have f6 := hP5.cell 6 (by simp)
            have f7 := hP5.cell 7 (by simp)
            have f8 := hP5.cell 8 (by simp)
            simp only [List.getElem_cons_zero, List.getElem_cons_succ] at f0 f1 f2 f3 f4 f5 f6 f7 f8
            obtain ⟨-, m0, m1⟩ := id bA5
            go_upto_region 16 with fail
            go_region_held3 (fun W => W.cell? ⟨PB, 0, none⟩ = some (.int .i64 v.f) ∧ W.cell? ⟨PB, 1, none⟩ = some (.int .u8 v.a) ∧ W.cell? ⟨PB, 2, none⟩ = some (.int .u8 v.s) ∧ W.cell? ⟨PB, 3, none⟩ = some (.bool v.z) ∧ W.cell? ⟨PB, 4, none⟩ = some (.int .i64 v.wd) ∧ W.cell? ⟨PB, 5, none⟩ = some (.bool false) ∧ W.cell? ⟨PB, 6, none⟩ = some (.bool v.dt) ∧ W.cell? ⟨PB, 7, none⟩ = some (.int .i64 v.pr) ∧ W.cell? ⟨PB, 8, none⟩ = some (.int .u8 v.kd) ∧ W.cell? ⟨w.heap.size, 0, none⟩ = some (.bool p)) (go_keep) (first
              | (go_at_call 31; refine (hSg _).mono ?_; rintro e W7 ⟨rfl, hB7⟩; have hB57 := (Below.refl _ W5).drew.trans hB7; have hP7 := hP5.keep hB57; have g0 := hP7.cell 0 (by simp); have g1 := hP7.cell 1 (by simp); have g2 := hP7.cell 2 (by simp); have g3 := hP7.cell 3 (by simp); have g4 := hP7.cell 4 (by simp); have g5 := hP7.cell 5 (by simp); have g6 := hP7.cell 6 (by simp); have g7 := hP7.cell 7 (by simp); have g8 := hP7.cell 8 (by simp); simp only [List.getElem_cons_zero, List.getElem_cons_succ] at g0 g1 g2 g3 g4 g5 g6 g7 g8; obtain ⟨-, q0, q1⟩ := bA5.keep hB57)
              | (go_at_call 23; refine (hLy _).mono ?_; rintro e W8 ⟨rfl, hB8⟩; have hB58 := hB57.trans (hB8.mono hB57.size); have hP8 := hP5.keep hB58; have k0 := hP8.cell 0 (by simp); have k1 := hP8.cell 1 (by simp); have k2 := hP8.cell 2 (by simp); have k3 := hP8.cell 3 (by simp); have k4 := hP8.cell 4 (by simp); have k5 := hP8.cell 5 (by simp); have k6 := hP8.cell 6 (by simp); have k7 := hP8.cell 7 (by simp); have k8 := hP8.cell 8 (by simp); simp only [List.getElem_cons_zero, List.getElem_cons_succ] at k0 k1 k2 k3 k4 k5 k6 k7 k8; obtain ⟨-, r0, r1⟩ := bA5.keep hB58))
            all_goals
              go_wp2
              go_ret2
              exact ⟨rfl, hB05.trans (hB58.mono hB05.size)⟩
end Go.Proofs.YtahcpgldpbejiaaGreatDoor
