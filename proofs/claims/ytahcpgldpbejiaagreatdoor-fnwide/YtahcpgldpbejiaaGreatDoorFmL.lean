import Derived.Test.YtahcpgldpbejiaaGreatDoorFmR
import Derived.Test.YtahcpgldpbejiaaGreatDoorFindS
import Derived.BigQuiet
import Derived.Deep.RegionWith
import Derived.Deep.CutRange
namespace Go.Proofs.YtahcpgldpbejiaaGreatDoor
open Go.RowKit Go.Lib
set_option linter.unusedVariables false
set_option linter.unusedSimpArgs false

/-- A code point, so many times. -/
def fillL (c n : Nat) : List UInt8 := encs (List.replicate n c)
theorem fillL_succ (c n : Nat) : fillL c n ++ encodeRune (c : Int) = fillL c (n + 1) := by
  unfold fillL
  rw [List.replicate_succ', encs_append, encs_cons, encs_nil, List.append_nil]
theorem fillL_len (c n : Nat) : (fillL c n).length ≤ 4 * n := by
  have := encs_le4 (List.replicate n c)
  rw [List.length_replicate] at this; exact this
set_option maxRecDepth 100000 in
theorem l3Fill_any (c n : Nat) (w : World) (hs : Scalar c) (hn : n ≤ 9999) :
    Calls Tryz.prog 48 #[.int .i64 c, .int .i64 n] w fun e w' => e = .returned (.string ⟨(fillL c n).toArray⟩) ∧ Below w.heap.size w w' := by
  go_enter Tryz.func48, Tryz.ntmps48
  go_wp2
  go_loopw [5, 6] (fun o i wr => ∃ (k g m co : Nat), k ≤ n ∧ i = .int .i64 k ∧ Hid (m = (fillL c k).length) ∧ o = .slice (some ⟨g, 0, none⟩) m co ∧ U8.Own wr w.heap.size (.slice (some ⟨g, 0, none⟩) m co) (bz (fillL c k)) ∧ Below w.heap.size w wr) (fun _ i _ => n - (intOf i).toNat)
  case atStart => exact ⟨0, w.heap.size, 0, 0, by omega, rfl, rfl, rfl, U8.Own.empty w, (Below.refl _ _).alloc (Nat.le_refl _) _⟩
  case round =>
    obtain ⟨k, g, m, co, hk, rfl, HM, rfl, hOw, hBr⟩ := hrel
    by_cases hi : k < n
    · have hiz : (k : Int) < (n : Int) := by omega
      have hwk := wrap0 (a := (k : Int) + 1) (by omega) (by omega)
      have hlen := fillL_len c k
      have hP := l3Put_any w.heap.size (some ⟨g, 0, none⟩) m co c (fillL c k) wr hs hOw hBr.size (by omega)
      rw [fillL_succ] at hP
      obtain ⟨m2, hm2⟩ : ∃ m2, (fillL c (k + 1)).length = m2 := ⟨_, rfl⟩
      rw [hm2] at hP
      have HM2 : Hid (m2 = (fillL c (k + 1)).length) := hm2.symm
      clear hm2 HM hlen
      go_wp2_with (go_at_call 49; refine hP.mono ?_; rintro e w2 ⟨g1, c2, rfl, hO1, hB2⟩)
      go_roundw
      case rel => exact ⟨k + 1, g1, m2, c2, by omega, by go_num, HM2, rfl, hO1, hBr.trans hB2⟩
      case measure => first | (simp [intOf]; done) | (simp [intOf]; omega)
    · have hiz : ¬ (k : Int) < (n : Int) := by omega
      obtain rfl : k = n := by omega
      have hcv := bytes_back wr w.heap.size g co (fillL c k) m HM.out hOw
      clear HM
      go_wp2
      go_ret
      exact ⟨rfl, hBr⟩
/-- A text, or RLarge. -/
def fitV (l : List UInt8) : Value := if 16384 < l.length then .tuple #[.string ⟨#[]⟩, .int .i64 3] else .tuple #[.string ⟨l.toArray⟩, .int .i64 0]
set_option maxRecDepth 100000 in
theorem l3Fit_any (s : ByteArray) (w : World) :
    Calls Tryz.prog 47 #[.string s] w fun e w' => e = .returned (fitV s.data.toList) ∧ w' = w := by
  unfold fitV
  rw [← size_eq]
  by_cases h : 16384 < s.size
  · rw [if_pos h]
    have hz : (16384 : Int) < (s.size : Int) := by omega
    clear h
    go_enter Tryz.func47, Tryz.ntmps47
    go_wp2
    go_ret2
    exact ⟨rfl, rfl⟩
  · rw [if_neg h, show (⟨s.data.toList.toArray⟩ : ByteArray) = s from Lib.mk_data s]
    have hz : ¬ (16384 : Int) < (s.size : Int) := by omega
    clear h
    go_enter Tryz.func47, Tryz.ntmps47
    go_wp2
    go_ret2
    exact ⟨rfl, rfl⟩
/-- Sign and body, brought to the width: so many fills are missing. -/
def layT (fc al n : Nat) (S B : List UInt8) : List UInt8 :=
  if al = 60 then S ++ B ++ fillL fc n else if al = 62 then fillL fc n ++ S ++ B else if al = 61 then S ++ fillL fc n ++ B else fillL fc (n / 2) ++ S ++ B ++ fillL fc (n - n / 2)
def fcS (v : Sv) : Nat := if 0 ≤ v.f then v.f.toNat else if v.z && v.a == 0 then 48 else 32
def alS (v : Sv) (al : Nat) : Nat := if v.a = 0 then (if v.z then 61 else al) else v.a
def missS (v : Sv) (S B : List UInt8) : Nat := v.wd - heads (S ++ B)
theorem ba_app (a b : ByteArray) : (a ++ b).data.toList = a.data.toList ++ b.data.toList := by
  rw [ByteArray.data_append]; simp
theorem ba_size (a b : ByteArray) : (a ++ b).size = a.size + b.size := ByteArray.size_append
set_option maxHeartbeats 2000000 in
set_option maxRecDepth 100000 in
theorem l3Lay_any (v : Sv) (S B : ByteArray) (al : Nat) (w : World) (hS : S.size ≤ 8000000) (hB : B.size ≤ 8000000) (hf : Scalar (fcS v)) (hwd : v.wd ≤ 9999) (ha : v.a < 256) (hal : al < 256) :
    Calls Tryz.prog 23 #[spV v, .string S, .string B, .int .u8 al] w fun e w' => e = .returned (fitV (layT (fcS v) (alS v al) (missS v S.data.toList B.data.toList) S.data.toList B.data.toList)) ∧ Below w.heap.size w w' := by
  obtain ⟨F, A, s, Z, WD, cm, dt, pr, kd⟩ := v
  simp only at hwd ha
  obtain ⟨FC, hFC⟩ : ∃ FC, fcS ⟨F, A, s, Z, WD, cm, dt, pr, kd⟩ = FC := ⟨_, rfl⟩
  obtain ⟨AL, hAL⟩ : ∃ AL, alS ⟨F, A, s, Z, WD, cm, dt, pr, kd⟩ al = AL := ⟨_, rfl⟩
  have hhd : heads (S ++ B).data.toList ≤ S.size + B.size := by
    rw [← ba_size, size_eq]; unfold heads; exact List.countP_le_length
  have hms : missS ⟨F, A, s, Z, WD, cm, dt, pr, kd⟩ S.data.toList B.data.toList = WD - heads (S ++ B).data.toList := by unfold missS; rw [ba_app]
  obtain ⟨N, hN⟩ : ∃ N, WD - heads (S ++ B).data.toList = N := ⟨_, rfl⟩
  rw [hFC] at hf
  rw [hms, hN, hFC, hAL]
  have hLn := fun W => l3Len_any (S ++ B) W (by rw [ba_size]; omega)
  obtain ⟨HD, hHD⟩ : ∃ HD, heads (S ++ B).data.toList = HD := ⟨_, rfl⟩
  rw [hHD] at hLn hN hhd
  have HFC : Hid ((FC : Int) = (if 0 ≤ F then F else if (Z && A == 0) = true then 48 else 32)) := by
    show _ = _
    rw [← hFC]; unfold fcS; simp only
    split
    · omega
    · split <;> rfl
  have HAL : Hid (AL = (if A = 0 then (if Z then 61 else al) else A)) := by
    show _ = _
    rw [← hAL]; unfold alS; simp only
  have hALb : AL < 256 := by
    rw [HAL.out]
    split
    · split <;> omega
    · exact ha
  have HNN : Hid (WD - HD = N) := hN
  obtain ⟨RX, RY, hR⟩ : ∃ x y, fitV (layT FC AL N S.data.toList B.data.toList) = .tuple #[.string x, .int .i64 y] := by
    unfold fitV; split <;> exact ⟨_, _, rfl⟩
  rw [hR]
  have HR : Hid (fitV (layT FC AL N S.data.toList B.data.toList) = .tuple #[.string RX, .int .i64 RY]) := hR
  clear hFC hAL hms hHD hN hR
  have hsum : ¬ 9223372036854775807 < S.size + B.size := by omega
  have hP0 : Bx (w.alloc (.cells (spC ⟨F, A, s, Z, WD, cm, dt, pr, kd⟩).toArray 45)) w.heap.size (spC ⟨F, A, s, Z, WD, cm, dt, pr, kd⟩) := Bx.new w _ _
  have hB0 : Below w.heap.size w (w.alloc (.cells (spC ⟨F, A, s, Z, WD, cm, dt, pr, kd⟩).toArray 45)) := (Below.refl _ w).alloc (Nat.le_refl _) _
  unfold spC at hP0 hB0
  unfold spV spC
  go_enter Tryz.func23, Tryz.ntmps23
  go_upto_region 2 with fail
  generalize w.alloc _ = W0 at *
  have c0 := hP0.cell 0 (by simp)
  have c1 := hP0.cell 1 (by simp)
  have c3 := hP0.cell 3 (by simp)
  have c4 := hP0.cell 4 (by simp)
  simp only [List.getElem_cons_zero, List.getElem_cons_succ] at c0 c1 c3 c4
  clear hP0
  have HL1 : Hid (∃ L1 : Nat, L1 = (if (Z && A == 0) = true then 61 else al)) := ⟨_, rfl⟩
  obtain ⟨L1, hL1⟩ := HL1.out
  have HL1 : Hid (L1 = (if (Z && A == 0) = true then 61 else al)) := hL1
  obtain ⟨F1, hF1⟩ : ∃ F1 : Int, F1 = (if (Z && A == 0) = true then 48 else 32) := ⟨_, rfl⟩
  have HF1 : Hid (F1 = (if (Z && A == 0) = true then 48 else 32)) := hF1
  clear hL1 hF1
  go_cut [18] from 12 to 18 (fun b wc => b = .bool (Z && A == 0) ∧ wc = W0)
  case first =>
    cases Z with
    | false =>
      go_wp2
      go_meet
      exact ⟨rfl, rfl⟩
    | true =>
      by_cases hA : A = 0
      · subst hA
        go_wp2
        go_meet
        exact ⟨rfl, rfl⟩
      · have eA : ((A : Int) == 0) = false := by rw [beq_eq_false_iff_ne]; omega
        have HE : Hid ((true && A == 0) = false) := by show _ = _; simp [hA]
        clear hA
        go_wp2
        go_meet
        exact ⟨by rw [HE.out], rfl⟩
  case rest =>
    obtain ⟨rfl, hw⟩ := hcut
    obtain rfl : W0 = wc := hw.symm
    go_upto_if 18 with fail
    go_cut [3, 10] from 18 to 18 (fun s3 s10 wc => s3 = .int .u8 L1 ∧ s10 = .int .i64 F1 ∧ wc = W0)
    case first =>
      cases hb : (Z && A == 0) with
      | false =>
        have HL : Hid (L1 = al) := by show _ = _; rw [HL1.out, hb]; rfl
        have HF : Hid (F1 = 32) := by show _ = _; rw [HF1.out, hb]; rfl
        clear hb
        go_wp2
        go_meet
        exact ⟨by rw [HL.out], by rw [HF.out], rfl⟩
      | true =>
        have HL : Hid (L1 = 61) := by show _ = _; rw [HL1.out, hb]; rfl
        have HF : Hid (F1 = 48) := by show _ = _; rw [HF1.out, hb]; rfl
        clear hb
        go_wp2
        go_meet
        exact ⟨by rw [HL.out]; rfl, by rw [HF.out], rfl⟩
    case rest =>
      obtain ⟨rfl, rfl, hw⟩ := hcut
      obtain rfl : W0 = wc := hw.symm
      go_upto_if 21 with fail
      go_cut [10] from 19 to 23 (fun s10 wc => s10 = .int .i64 (FC : Int) ∧ wc = W0)
      case first =>
        by_cases hF : 0 ≤ F
        · have HE : Hid ((FC : Int) = F) := by show _ = _; rw [HFC.out, if_pos hF]
          go_wp2
          go_meet
          exact ⟨by rw [HE.out], rfl⟩
        · have HE : Hid ((FC : Int) = F1) := by show _ = _; rw [HFC.out, if_neg hF, HF1.out]
          go_wp2
          go_meet
          exact ⟨by rw [HE.out], rfl⟩
      case rest =>
        obtain ⟨rfl, hw⟩ := hcut
        obtain rfl : W0 = wc := hw.symm
        go_upto_if 26 with fail
        go_cut [3] from 24 to 28 (fun s3 wc => s3 = .int .u8 AL ∧ wc = W0)
        case first =>
          by_cases hA : A = 0
          · have HE : Hid (AL = L1) := by show _ = _; rw [HAL.out, if_pos hA, HL1.out, hA]; simp
            subst hA
            go_wp2
            go_meet
            exact ⟨by rw [HE.out], rfl⟩
          · have HE : Hid (AL = A) := by show _ = _; rw [HAL.out, if_neg hA]
            have eA : ((A : Int) != 0) = true := by simp; omega
            clear hA
            go_wp2
            go_meet
            exact ⟨by rw [HE.out], rfl⟩
        case rest =>
          obtain ⟨rfl, hw⟩ := hcut
          obtain rfl : W0 = wc := hw.symm
          obtain ⟨DF, hDF⟩ : ∃ DF : Int, (WD : Int) - (HD : Int) = DF := ⟨_, rfl⟩
          have hwd2 : IntKind.i64.wrap ((WD : Int) - (HD : Int)) = DF := by
            rw [← hDF]; simp [IntKind.wrap, IntKind.bits, IntKind.signed]; omega
          have HDF : Hid ((WD : Int) - (HD : Int) = DF) := hDF
          clear hDF c0 c1 c3 HFC HAL HL1 HF1
          go_upto_region 9 with fail
          go_cut [11] from 29 to 35 (fun s11 wc => s11 = .int .i64 DF ∧ Below W0.heap.size W0 wc)
          case first =>
            go_region_with (go_at_call 46; refine (hLn _).mono ?_; rintro e w' ⟨rfl, rfl⟩)
            all_goals (go_wp2; go_meet; exact ⟨rfl, ⟨rfl, rfl, rfl, Nat.le_refl _, fun _ _ => rfl⟩⟩)
          case rest =>
            obtain ⟨rfl, hB1⟩ := hcut
            generalize wc = W1 at *
            have hB01 := hB0.trans (hB1.mono hB0.size)
            clear hwd2 hLn c4 hB0 hB1
            go_upto_if 37 with fail
            go_cut [11] from 36 to 37 (fun s11 wc => s11 = .int .i64 (N : Int) ∧ wc = W1)
            case first =>
              by_cases hD : DF < 0
              · have HE : Hid (N = 0) := by show _ = _; have h1 := HDF.out; have h2 := HNN.out; omega
                go_wp2
                go_meet
                exact ⟨by rw [HE.out]; rfl, rfl⟩
              · have HE : Hid (DF = (N : Int)) := by show _ = _; have h1 := HDF.out; have h2 := HNN.out; omega
                go_wp2
                go_meet
                exact ⟨by rw [HE.out], rfl⟩
            case rest =>
              obtain ⟨rfl, hw⟩ := hcut
              obtain rfl : W1 = wc := hw.symm
              have hNb : N ≤ 9999 := by have h2 := HNN.out; omega
              clear HDF HNN
              by_cases h60 : AL = 60
              · subst h60
                have hFl := fun W => l3Fill_any FC N W hf (by omega)
                obtain ⟨FL, hFL⟩ : ∃ X : ByteArray, (⟨(fillL FC N).toArray⟩ : ByteArray) = X := ⟨_, rfl⟩
                have hdFL : FL.data.toList = fillL FC N := by rw [← hFL]
                have hsFL : FL.size ≤ 40000 := by rw [size_eq, hdFL]; have := fillL_len FC N; omega
                rw [hFL] at hFl
                have hq0 : ¬ 9223372036854775807 < (S ++ B).size + FL.size := by first | omega | (simp only [ba_size]; omega)
                have hFt := fun W => l3Fit_any (S ++ B ++ FL) W
                have HV : Hid (fitV (S ++ B ++ FL).data.toList = fitV (layT FC 60 N S.data.toList B.data.toList)) := by
                  show _ = _
                  simp only [ba_app, hdFL]
                  unfold layT
                  rw [if_pos rfl]
                rw [HV.out] at hFt
                rw [HR.out] at hFt
                clear HV HR hFL hdFL
                go_wp2_with (first
                  | (go_at_call 48; refine (hFl _).mono ?_; rintro e w2 ⟨rfl, hB2⟩)
                  | (go_at_call 47; refine (hFt _).mono ?_; rintro e w3 ⟨rfl, rfl⟩))
                go_ret2
                exact ⟨rfl, hB01.trans (hB2.mono hB01.size)⟩
              · have b60 : ((AL : Int) == 60) = false := by rw [beq_eq_false_iff_ne]; omega
                by_cases h62 : AL = 62
                · subst h62
                  have hFl := fun W => l3Fill_any FC N W hf (by omega)
                  obtain ⟨FL, hFL⟩ : ∃ X : ByteArray, (⟨(fillL FC N).toArray⟩ : ByteArray) = X := ⟨_, rfl⟩
                  have hdFL : FL.data.toList = fillL FC N := by rw [← hFL]
                  have hsFL : FL.size ≤ 40000 := by rw [size_eq, hdFL]; have := fillL_len FC N; omega
                  rw [hFL] at hFl
                  have hq0 : ¬ 9223372036854775807 < FL.size + S.size := by first | omega | (simp only [ba_size]; omega)
                  have hq1 : ¬ 9223372036854775807 < (FL ++ S).size + B.size := by first | omega | (simp only [ba_size]; omega)
                  have hFt := fun W => l3Fit_any (FL ++ S ++ B) W
                  have HV : Hid (fitV (FL ++ S ++ B).data.toList = fitV (layT FC 62 N S.data.toList B.data.toList)) := by
                    show _ = _
                    simp only [ba_app, hdFL]
                    unfold layT
                    rw [if_neg (by decide), if_pos rfl]
                  rw [HV.out] at hFt
                  rw [HR.out] at hFt
                  clear HV HR hFL hdFL
                  go_wp2_with (first
                    | (go_at_call 48; refine (hFl _).mono ?_; rintro e w2 ⟨rfl, hB2⟩)
                    | (go_at_call 47; refine (hFt _).mono ?_; rintro e w3 ⟨rfl, rfl⟩))
                  go_ret2
                  exact ⟨rfl, hB01.trans (hB2.mono hB01.size)⟩
                · have b62 : ((AL : Int) == 62) = false := by rw [beq_eq_false_iff_ne]; omega
                  by_cases h61 : AL = 61
                  · subst h61
                    have hFl := fun W => l3Fill_any FC N W hf (by omega)
                    obtain ⟨FL, hFL⟩ : ∃ X : ByteArray, (⟨(fillL FC N).toArray⟩ : ByteArray) = X := ⟨_, rfl⟩
                    have hdFL : FL.data.toList = fillL FC N := by rw [← hFL]
                    have hsFL : FL.size ≤ 40000 := by rw [size_eq, hdFL]; have := fillL_len FC N; omega
                    rw [hFL] at hFl
                    have hq0 : ¬ 9223372036854775807 < S.size + FL.size := by first | omega | (simp only [ba_size]; omega)
                    have hq1 : ¬ 9223372036854775807 < (S ++ FL).size + B.size := by first | omega | (simp only [ba_size]; omega)
                    have hFt := fun W => l3Fit_any (S ++ FL ++ B) W
                    have HV : Hid (fitV (S ++ FL ++ B).data.toList = fitV (layT FC 61 N S.data.toList B.data.toList)) := by
                      show _ = _
                      simp only [ba_app, hdFL]
                      unfold layT
                      rw [if_neg (by decide), if_neg (by decide), if_pos rfl]
                    rw [HV.out] at hFt
                    rw [HR.out] at hFt
                    clear HV HR hFL hdFL
                    go_wp2_with (first
                      | (go_at_call 48; refine (hFl _).mono ?_; rintro e w2 ⟨rfl, hB2⟩)
                      | (go_at_call 47; refine (hFt _).mono ?_; rintro e w3 ⟨rfl, rfl⟩))
                    go_ret2
                    exact ⟨rfl, hB01.trans (hB2.mono hB01.size)⟩
                  · have b61 : ((AL : Int) == 61) = false := by rw [beq_eq_false_iff_ne]; omega
                    obtain ⟨N2, hN2⟩ : ∃ N2, N / 2 = N2 := ⟨_, rfl⟩
                    obtain ⟨N3, hN3⟩ : ∃ N3, N - N / 2 = N3 := ⟨_, rfl⟩
                    have hdv : (N : Int).tdiv 2 = (N2 : Int) := by rw [Int.tdiv_eq_ediv_of_nonneg (by omega)]; omega
                    have hsb : IntKind.i64.wrap ((N : Int) - (N2 : Int)) = (N3 : Int) := by rw [wrap0 (by omega) (by omega)]; omega
                    have hwN2 := wrap0 (a := (N2 : Int)) (by omega) (by omega)
                    have hFl2 := fun W => l3Fill_any FC N2 W hf (by omega)
                    obtain ⟨FL, hFL⟩ : ∃ X : ByteArray, (⟨(fillL FC N2).toArray⟩ : ByteArray) = X := ⟨_, rfl⟩
                    have hdFL : FL.data.toList = fillL FC N2 := by rw [← hFL]
                    have hsFL : FL.size ≤ 40000 := by rw [size_eq, hdFL]; have := fillL_len FC N2; omega
                    rw [hFL] at hFl2
                    have hFl3 := fun W => l3Fill_any FC N3 W hf (by omega)
                    obtain ⟨FR, hFR⟩ : ∃ X : ByteArray, (⟨(fillL FC N3).toArray⟩ : ByteArray) = X := ⟨_, rfl⟩
                    have hdFR : FR.data.toList = fillL FC N3 := by rw [← hFR]
                    have hsFR : FR.size ≤ 40000 := by rw [size_eq, hdFR]; have := fillL_len FC N3; omega
                    rw [hFR] at hFl3
                    have hq0 : ¬ 9223372036854775807 < FL.size + S.size := by omega
                    have hq1 : ¬ 9223372036854775807 < (FL ++ S).size + B.size := by first | omega | (simp only [ba_size]; omega)
                    have hq2 : ¬ 9223372036854775807 < (FL ++ S ++ B).size + FR.size := by first | omega | (simp only [ba_size]; omega)
                    have hFt := fun W => l3Fit_any (FL ++ S ++ B ++ FR) W
                    have HV : Hid (fitV (FL ++ S ++ B ++ FR).data.toList = fitV (layT FC AL N S.data.toList B.data.toList)) := by
                      show _ = _
                      simp only [ba_app, hdFL, hdFR]
                      unfold layT
                      rw [if_neg h60, if_neg h62, if_neg h61, hN3, hN2]
                    rw [HV.out] at hFt
                    rw [HR.out] at hFt
                    clear HV HR hFL hdFL hFR hdFR hN2 hN3 h60 h61 h62
                    go_wp2_with (first
                      | (go_at_call_of 48 (Value.int IntKind.i64 (N2 : Int)); refine (hFl2 _).mono ?_; rintro e w2 ⟨rfl, hB2⟩)
                      | (go_at_call 48; refine (hFl3 _).mono ?_; rintro e w3 ⟨rfl, hB3⟩)
                      | (go_at_call 47; refine (hFt _).mono ?_; rintro e w4 ⟨rfl, rfl⟩))
                    go_ret2
                    exact ⟨rfl, hB01.trans ((hB2.trans (hB3.mono hB2.size)).mono hB01.size)⟩
end Go.Proofs.YtahcpgldpbejiaaGreatDoor
