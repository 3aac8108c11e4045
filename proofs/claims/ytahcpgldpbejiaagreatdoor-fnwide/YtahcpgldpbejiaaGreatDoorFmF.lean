import Derived.Test.YtahcpgldpbejiaaGreatDoorFmE
import Derived.Test.YtahcpgldpbejiaaGreatDoorFmL
import Derived.Test.YtahcpgldpbejiaaGreatDoorTimesI
import Derived.Test.YtahcpgldpbejiaaGreatDoorTLenA
import Derived.Deep.RegionWith
import Derived.Deep.CutRange
import Derived.Deep.CutBlock
namespace Go.Proofs.YtahcpgldpbejiaaGreatDoor
open Go.RowKit Go.Lib Go.Shelf
set_option linter.unusedVariables false
set_option linter.unusedSimpArgs false

set_option maxRecDepth 100000 in
theorem cmpOr_any (b : Nat) (x y : ByteArray) (w : World) (c0 : w.cell? ⟨b, 0, none⟩ = some (.string x)) (c1 : w.cell? ⟨b, 1, none⟩ = some (.string y)) (hy : y.toList.isEmpty = false) :
    Calls Tryz.prog 77 #[.slice (some ⟨b, 0, none⟩) 2 2] w fun e w' => e = .returned (.string (if x.toList.isEmpty = true then y else x)) ∧ w' = w := by
  cases hx : x.toList.isEmpty with
  | false =>
    rw [if_neg (by decide)]
    go_enter Tryz.func77, Tryz.ntmps77
    go_wp2
    go_loopw [8] (fun i wr => i = .int .i64 0 ∧ wr = w) (fun _ _ => 0)
    case atStart => exact ⟨rfl, rfl⟩
    case round =>
      obtain ⟨rfl, hw⟩ := hrel
      obtain rfl : w = wr := hw.symm
      go_wp2
      go_ret
      exact ⟨rfl, rfl⟩
  | true =>
    rw [if_pos rfl]
    go_enter Tryz.func77, Tryz.ntmps77
    go_wp2
    go_loopw [8] (fun i wr => (i = .int .i64 0 ∨ i = .int .i64 1) ∧ wr = w) (fun i _ => 2 - (RowKit.intOf i).toNat)
    case atStart => exact ⟨.inl rfl, rfl⟩
    case round =>
      obtain ⟨hi, hw⟩ := hrel
      obtain rfl : w = wr := hw.symm
      rcases hi with rfl | rfl
      · go_wp2
        go_roundw
        case rel => exact ⟨.inr rfl, (by first | rfl | trivial)⟩
        case measure => simp [RowKit.intOf]
      · go_wp2
        go_ret
        exact ⟨rfl, rfl⟩
/-- What a filled text is: it, or RLarge's error. -/
def filV (aL : Addr) (l : List UInt8) : Value := if 16384 < l.length then .tuple #[.string ⟨#[]⟩, errAt aL] else .tuple #[.string ⟨l.toArray⟩, .nilIface]
/-- Which fill, and which side. -/
def SelF (q : Pt) (D FB SD : ByteArray) : Prop :=
  (q.a.toList.isEmpty = false ∧ FB = (if q.f.toList.isEmpty = true then ⟨#[32]⟩ else q.f) ∧ SD = q.a) ∨
  (q.a.toList.isEmpty = true ∧ q.z.toList.isEmpty = false ∧ FB = ⟨#[48]⟩ ∧ SD = ⟨#[61]⟩) ∨
  (q.a.toList.isEmpty = true ∧ q.z.toList.isEmpty = true ∧ FB = ⟨#[32]⟩ ∧ SD = D)
theorem fillL_rep (c n : Nat) : Lib.repeatL (encodeRune (c : Int)) n = fillL c n := by
  induction n with
  | zero => simp [Lib.repeatL, fillL, encs_nil]
  | succ n ih => rw [← repeat_snoc, ih, fillL_succ]
theorem fillL_length (c n : Nat) : (fillL c n).length = n * (encodeRune (c : Int)).length := by
  rw [← fillL_rep, Lib.repeatL_length]
theorem runeCountFrom_le (s : ByteArray) : ∀ (n pos : Nat), runeCountFrom s n pos ≤ n := by
  intro n
  induction n with
  | zero => intro pos; simp [runeCountFrom]
  | succ n ih =>
    intro pos
    rw [runeCountFrom]
    split
    · have := ih (pos + (Utf8.decode s pos).2); omega
    · omega
theorem runeCount_le (s : ByteArray) : runeCount s ≤ s.size := runeCountFrom_le s s.size 0
theorem ext_size (s : ByteArray) (a b : Nat) : (s.extract a b).size ≤ s.size := by
  rw [size_eq, Lib.extract_data, size_eq, List.length_take, List.length_drop]; omega
set_option maxHeartbeats 1500000 in
set_option maxRecDepth 100000 in
theorem filled_any (q : Pt) (S B D FB SD : ByteArray) (FC AL RC : Nat) (ds : List Nat) (w : World) (aA aZ aL : Addr) (hS : S.size ≤ 100000) (hB : B.size ≤ 100000) (hsel : SelF q D FB SD) (hFB : FB.data.toList = encodeRune (FC : Int)) (hFC : Scalar FC)
    (hSD : SD = ⟨#[AL.toUInt8]⟩) (hAL : AL = 60 ∨ AL = 62 ∨ AL = 94 ∨ AL = 61) (hw : q.w = tx ds) (hds : ∀ x ∈ ds, isDg x = true) (hdl : ds.length ≤ 4) (hRC : runeCount (S ++ B) = RC) (hE : Errs w aA aZ aL) (hEf : ErrF w) :
    Calls Tryz.prog 53 #[ptV q, .string S, .string B, .string D] w fun e w' => e = .returned (filV aL (layT FC AL (nv ds - RC) S.data.toList B.data.toList)) ∧ Below w.heap.size w w' := by
  obtain ⟨RX, RY, hRR⟩ : ∃ x y, filV aL (layT FC AL (nv ds - RC) S.data.toList B.data.toList) = .tuple #[.string x, y] := by
    unfold filV; split <;> exact ⟨_, _, rfl⟩
  rw [hRR]
  have HRR : Hid (filV aL (layT FC AL (nv ds - RC) S.data.toList B.data.toList) = .tuple #[.string RX, RY]) := hRR
  obtain ⟨qf, qa, qs, qz, qw, qc, qp, qk⟩ := q
  simp only at hw
  have HSD : Hid (SD = ⟨#[AL.toUInt8]⟩) := hSD
  have HFB : Hid (FB.data.toList = encodeRune (FC : Int)) := hFB
  have HW : Hid (qw = tx ds) := hw
  have HRC : Hid (runeCount (S ++ B) = RC) := hRC
  clear hSD hFB hw hRC
  have hP0 := Bx.new w (ptC ⟨qf, qa, qs, qz, qw, qc, qp, qk⟩) 83
  have hB0 : Below w.heap.size w (w.alloc (.cells (ptC ⟨qf, qa, qs, qz, qw, qc, qp, qk⟩).toArray 83)) := (Below.refl _ w).alloc (Nat.le_refl _) _
  unfold ptC at hP0 hB0
  unfold ptV ptC
  clear hRR
  go_enter Tryz.func53, Tryz.ntmps53
  go_upto_block 0 with fail
  generalize w.alloc _ = W0 at *
  have c0 := hP0.cell 0 (by simp)
  have c1 := hP0.cell 1 (by simp)
  have c3 := hP0.cell 3 (by simp)
  have c4 := hP0.cell 4 (by simp)
  simp only [List.getElem_cons_zero, List.getElem_cons_succ] at c0 c1 c3 c4
  go_cut [3, 10] from 17 to 31 (fun s3 s10 wc => s3 = .string SD ∧ s10 = .string FB ∧ Below W0.heap.size W0 wc)
  case first =>
    rcases hsel with ⟨e1, e2, e3⟩ | ⟨e1, e2, e3, e4⟩ | ⟨e1, e2, e3, e4⟩
    · simp only at e1 e2 e3
      subst e3
      have hOr := fun (b : Nat) W h1 h2 => cmpOr_any b qf ⟨#[32]⟩ W h1 h2 (by rw [Lib.toList_data]; rfl)
      rw [← e2] at hOr
      have hlt := hP0.lt
      have c1u : ∀ o, (W0.alloc o).cell? ⟨w.heap.size, 1, none⟩ = some (.string SD) := fun o => (World.cell?_alloc_lt _ _ _ (by exact hlt)).trans c1
      have hO := hOr W0.heap.size ((W0.alloc (.cells #[.string qf, .string ⟨#[32]⟩] 9)).drew) (by show (W0.alloc (.cells #[.string qf, .string ⟨#[32]⟩] 9)).cell? _ = _; rw [World.cell?_alloc_at _ _ _ _ rfl]; rfl) (by show (W0.alloc (.cells #[.string qf, .string ⟨#[32]⟩] 9)).cell? _ = _; rw [World.cell?_alloc_at _ _ _ _ rfl]; rfl)
      clear e2 hP0 hOr
      go_upto_region 3 with fail
      go_region_with (go_at_call 77; refine hO.mono ?_; rintro e w' ⟨rfl, rfl⟩)
      all_goals
        go_wp2
        go_meet
        exact ⟨rfl, rfl, ((Below.refl _ W0).alloc (Nat.le_refl _) _).drew⟩
    · simp only at e1 e2 e3
      subst e3
      subst e4
      go_wp2
      go_meet
      exact ⟨rfl, rfl, Below.refl _ _⟩
    · simp only at e1 e2 e3
      subst e3
      subst e4
      go_wp2
      go_meet
      exact ⟨rfl, rfl, Below.refl _ _⟩
  case rest =>
    obtain ⟨rfl, rfl, hB1⟩ := hcut
    generalize wc = W1 at *
    have hPB := hP0.keep hB1
    have d4 := hPB.cell 4 (by simp)
    simp only [List.getElem_cons_zero, List.getElem_cons_succ] at d4
    have hB01 := hB0.trans (hB1.mono hB0.size)
    clear c0 c1 c3 c4 hP0 hB0 hB1 hsel hPB
    -- the width
    obtain ⟨V, hV⟩ : ∃ V, nv ds = V := ⟨_, rfl⟩
    have hVb : V ≤ 9999 := by
      have := nv_lt hds hdl
      rw [hV] at this; omega
    have hRCb : RC ≤ 300000 := by
      rw [← HRC.out]
      have h1 := runeCount_le (S ++ B)
      rw [ba_size] at h1; omega
    have hNu := numberOr_any ds 0 W1 hds (by omega) (hEf.below hB01)
    have hno : numOr ds 0 = (V : Int) := by
      unfold numOr
      cases ds with
      | nil => rw [← hV]; rfl
      | cons d t => rw [← hV]; rfl
    rw [hno, ← HW.out] at hNu
    have hCo : ∀ W, Calls Tryz.prog 43 #[.string (S ++ B)] W fun e w' => e = .returned (.int .i64 (RC : Int)) ∧ Below W.heap.size W w' := fun W => by
      have h := Any.utf8_RuneCountInString Tryz.laysCount (S ++ B) W (by rw [ba_size]; omega)
      rw [HRC.out] at h
      exact h.mono fun e w' ⟨h1, pos, h2⟩ => ⟨h1, by rw [h2]; exact (Below.refl _ _).alloc (Nat.le_refl _) _⟩
    obtain ⟨N, hN⟩ : ∃ N, V - RC = N := ⟨_, rfl⟩
    rw [hV, hN] at HRR
    obtain ⟨DF, hDF⟩ : ∃ DF : Int, (V : Int) - (RC : Int) = DF := ⟨_, rfl⟩
    have hwd : IntKind.i64.wrap ((V : Int) - (RC : Int)) = DF := by
      rw [← hDF]; simp [IntKind.wrap, IntKind.bits, IntKind.signed]; omega
    have hmx : max DF 0 = (N : Int) := by omega
    have hNb : N ≤ 9999 := by omega
    have hFl : 1 ≤ FB.size ∧ FB.size ≤ 4 := by rw [size_eq, HFB.out]; exact ⟨enc_pos FC hFC, enc_le4 FC⟩
    obtain ⟨fs, hfs⟩ : ∃ fs, FB.size = fs := ⟨_, rfl⟩
    obtain ⟨NF, hNF⟩ : ∃ NF, N * fs = NF := ⟨_, rfl⟩
    have hNFb : NF ≤ 40000 := by
      rw [← hNF]
      exact Nat.le_trans (Nat.mul_le_mul hNb (by omega : fs ≤ 4)) (by decide)
    have hNFi : (N : Int) * (fs : Int) = (NF : Int) := by rw [← hNF]; simp
    have hwm : IntKind.i64.wrap ((N : Int) * (FB.size : Int)) = (NF : Int) := by
      rw [hfs, hNFi, wrap0 (by omega) (by omega)]
    have hws : IntKind.i64.wrap ((S.size : Int) + (B.size : Int)) = (S.size : Int) + (B.size : Int) := wrap0 (by omega) (by omega)
    obtain ⟨TT, hTT⟩ : ∃ TT : Int, (S.size : Int) + (B.size : Int) + (NF : Int) = TT := ⟨_, rfl⟩
    have hwt : IntKind.i64.wrap ((S.size : Int) + (B.size : Int) + (NF : Int)) = TT := by rw [wrap0 (by omega) (by omega)]; exact hTT
    have hsum : ¬ 9223372036854775807 < S.size + B.size := by omega
    have hflen : ∀ n, (fillL FC n).length = n * fs := fun n => by rw [fillL_length, ← HFB.out, ← size_eq, hfs]
    have HLen : Hid ((layT FC AL N S.data.toList B.data.toList).length = S.size + B.size + NF) := by
      show _ = _
      have h2 : (fillL FC (N / 2)).length + (fillL FC (N - N / 2)).length = NF := by
        rw [hflen, hflen, ← Nat.add_mul, ← hNF]; congr 1; omega
      have h3 : (fillL FC N).length = NF := by rw [hflen, hNF]
      unfold layT
      rw [size_eq, size_eq]
      repeat' split
      all_goals (simp only [List.length_append]; omega)
    have hPd : ∀ W, Calls Tryz.prog 78 #[.string FB, .int .i64 N] W fun e w' => e = .returned (.string ⟨(fillL FC N).toArray⟩) ∧ Below W.heap.size W w' := fun W => by
      have h := repeat_any FB N W (by omega) (by rw [hfs, Nat.mul_comm, hNF]; omega)
      rw [HFB.out, fillL_rep] at h; exact h
    obtain ⟨PD, hPD⟩ : ∃ PD : ByteArray, (⟨(fillL FC N).toArray⟩ : ByteArray) = PD := ⟨_, rfl⟩
    have hPDd : PD.data.toList = fillL FC N := by rw [← hPD]
    have hPDs : PD.size = NF := by rw [size_eq, hPDd, hflen, hNF]
    rw [hPD] at hPd
    have HEW : Hid (Errs w aA aZ aL) := hE
    have HN0 : Hid (N * fs = NF) := hNF
    have HFL : Hid (∀ n, (fillL FC n).length = n * fs) := hflen
    have HPDd : Hid (PD.data.toList = fillL FC N) := hPDd
    have HPDs : Hid (PD.size = NF) := hPDs
    have HTT : Hid ((S.size : Int) + (B.size : Int) + (NF : Int) = TT) := hTT
    have HFS : Hid (FB.size = fs) := hfs
    clear hno hV hN hDF hfs hNF hNFi hTT hflen hPD hPDd hPDs hE
    go_wp2_with fail
    refine hNu.mono ?_
    rintro e W2 ⟨rfl, hB2⟩
    go_wp2_with fail
    refine (hCo W2).mono ?_
    rintro e W3 ⟨rfl, hB3⟩
    have hB02 := hB01.trans (hB2.mono hB01.size)
    have hB03 := hB02.trans (hB3.mono hB02.size)
    clear hNu hCo hB01 hB2 hB3 hB02 d4
    by_cases hbig : (16384 : Int) < TT
    · have hg := (HEW.out.below hB03).1.2.2
      have h2 := HRR.out
      unfold filV at h2
      rw [HLen.out, if_pos (by have := HTT.out; omega)] at h2
      simp only [Value.tuple.injEq, Array.mk.injEq, List.cons.injEq, Value.string.injEq, and_true] at h2
      obtain ⟨rfl, rfl⟩ := h2
      clear HRR HLen HEW HTT HPDd HPDs HFL HN0 HFS
      go_upto_region 8 with fail
      go_quiet (fail)
      go_wp2
      go_ret2
      exact ⟨rfl, hB03.trans ⟨rfl, rfl, rfl, Nat.le_refl _, fun _ _ => rfl⟩⟩
    · have h2 := HRR.out
      unfold filV at h2
      rw [HLen.out, if_neg (by have := HTT.out; omega)] at h2
      simp only [Value.tuple.injEq, Array.mk.injEq, List.cons.injEq, Value.string.injEq, and_true] at h2
      obtain ⟨h3, rfl⟩ := h2
      have HX : Hid (∀ X : ByteArray, X.data.toList = layT FC AL N S.data.toList B.data.toList → X = RX) := fun X hX => by
        rw [← h3, ← Lib.mk_data X, hX]
      have HFS2 : Hid (FB.size = fs) := HFS
      clear h3 HRR HLen HEW HTT HFS
      rcases hAL with rfl | rfl | rfl | rfl
      · have hs : SD = ⟨#[60]⟩ := by rw [HSD.out]; rfl
        subst hs
        have hps := HPDs.out
        have hpz : (0 : Int) ≤ (PD.size : Int) := by omega
        have q1 : ¬ 9223372036854775807 < (PD.extract 0 0).size + S.size := by
          have := ext_size PD 0 0; omega
        have q2 : ¬ 9223372036854775807 < (PD.extract 0 0 ++ S).size + (PD.extract 0 0).size := by
          have := ext_size PD 0 0; have := ext_size PD 0 0; rw [ba_size]; omega
        have q3 : ¬ 9223372036854775807 < (PD.extract 0 0 ++ S ++ PD.extract 0 0).size + B.size := by
          have := ext_size PD 0 0; have := ext_size PD 0 0; rw [ba_size, ba_size]; omega
        have q4 : ¬ 9223372036854775807 < (PD.extract 0 0 ++ S ++ PD.extract 0 0 ++ B).size + (PD.extract 0 PD.size).size := by
          have := ext_size PD 0 0; have := ext_size PD 0 0; have := ext_size PD 0 PD.size; rw [ba_size, ba_size, ba_size]; omega
        have HQ : Hid (S ++ B ++ PD.extract 0 NF = RX) := HX.out _ (by
          simp only [ba_app, Lib.extract_data, HPDd.out, List.drop_zero, Nat.sub_zero]
          unfold layT
          rw [if_pos rfl, List.take_of_length_le (by rw [HFL.out, HN0.out]; exact Nat.le_refl _)])
        clear HX HSD
        go_wp2_with fail
        refine (hPd W3).mono ?_
        rintro e W4 ⟨rfl, hB4⟩
        have hB04 := hB03.trans (hB4.mono hB03.size)
        clear hB4
        go_upto_region 19 with fail
        go_quiet (fail)
        go_wp2
        go_ret2
        exact ⟨by rw [← HQ.out]; rfl, hB04.trans ⟨rfl, rfl, rfl, Nat.le_refl _, fun _ _ => rfl⟩⟩
      · have hs : SD = ⟨#[62]⟩ := by rw [HSD.out]; rfl
        subst hs
        have hps := HPDs.out
        have hpz : (NF : Int) ≤ (PD.size : Int) := by omega
        have q1 : ¬ 9223372036854775807 < (PD.extract 0 NF).size + S.size := by
          have := ext_size PD 0 NF; omega
        have q2 : ¬ 9223372036854775807 < (PD.extract 0 NF ++ S).size + (PD.extract NF NF).size := by
          have := ext_size PD 0 NF; have := ext_size PD NF NF; rw [ba_size]; omega
        have q3 : ¬ 9223372036854775807 < (PD.extract 0 NF ++ S ++ PD.extract NF NF).size + B.size := by
          have := ext_size PD 0 NF; have := ext_size PD NF NF; rw [ba_size, ba_size]; omega
        have q4 : ¬ 9223372036854775807 < (PD.extract 0 NF ++ S ++ PD.extract NF NF ++ B).size + (PD.extract NF PD.size).size := by
          have := ext_size PD 0 NF; have := ext_size PD NF NF; have := ext_size PD NF PD.size; rw [ba_size, ba_size, ba_size]; omega
        have HQ : Hid (PD.extract 0 NF ++ S ++ B = RX) := HX.out _ (by
          simp only [ba_app, Lib.extract_data, HPDd.out, List.drop_zero, Nat.sub_zero]
          unfold layT
          rw [if_neg (by decide), if_pos rfl, List.take_of_length_le (by rw [HFL.out, HN0.out]; exact Nat.le_refl _)])
        clear HX HSD
        go_wp2_with fail
        refine (hPd W3).mono ?_
        rintro e W4 ⟨rfl, hB4⟩
        have hB04 := hB03.trans (hB4.mono hB03.size)
        clear hB4
        go_upto_region 19 with fail
        go_quiet (fail)
        go_wp2
        go_ret2
        exact ⟨by rw [← HQ.out]; rfl, hB04.trans ⟨rfl, rfl, rfl, Nat.le_refl _, fun _ _ => rfl⟩⟩
      · have hs : SD = ⟨#[94]⟩ := by rw [HSD.out]; rfl
        subst hs
        obtain ⟨N2, hN2⟩ : ∃ N2, N / 2 = N2 := ⟨_, rfl⟩
        have hdv : (N : Int).tdiv 2 = (N2 : Int) := by rw [Int.tdiv_eq_ediv_of_nonneg (by omega)]; omega
        obtain ⟨fs2, hf2⟩ : ∃ fs2, FB.size = fs2 := ⟨_, rfl⟩
        obtain ⟨HF, hHF⟩ : ∃ HF, N2 * FB.size = HF := ⟨_, rfl⟩
        have hHFb : HF ≤ NF := by
          rw [← hHF, ← HN0.out]
          have : FB.size = fs := HFS2.out
          rw [this]; exact Nat.mul_le_mul_right _ (by omega)
        have hwm2 : IntKind.i64.wrap ((N2 : Int) * (FB.size : Int)) = (HF : Int) := by
          rw [show (N2 : Int) * (FB.size : Int) = (HF : Int) by rw [← hHF]; simp, wrap0 (by omega) (by omega)]
        have hwN2 := wrap0 (a := (N2 : Int)) (by omega) (by omega)
        have HHF : Hid (N2 * FB.size = HF) := hHF
        have HN2 : Hid (N / 2 = N2) := hN2
        clear hN2 hf2 hHF
        have hps := HPDs.out
        have hpz : (HF : Int) ≤ (PD.size : Int) := by omega
        have q1 : ¬ 9223372036854775807 < (PD.extract 0 HF).size + S.size := by
          have := ext_size PD 0 HF; omega
        have q2 : ¬ 9223372036854775807 < (PD.extract 0 HF ++ S).size + (PD.extract HF HF).size := by
          have := ext_size PD 0 HF; have := ext_size PD HF HF; rw [ba_size]; omega
        have q3 : ¬ 9223372036854775807 < (PD.extract 0 HF ++ S ++ PD.extract HF HF).size + B.size := by
          have := ext_size PD 0 HF; have := ext_size PD HF HF; rw [ba_size, ba_size]; omega
        have q4 : ¬ 9223372036854775807 < (PD.extract 0 HF ++ S ++ PD.extract HF HF ++ B).size + (PD.extract HF PD.size).size := by
          have := ext_size PD 0 HF; have := ext_size PD HF HF; have := ext_size PD HF PD.size; rw [ba_size, ba_size, ba_size]; omega
        have HQ : Hid (PD.extract 0 HF ++ S ++ B ++ PD.extract HF NF = RX) := HX.out _ (by
          simp only [ba_app, Lib.extract_data, HPDd.out, List.drop_zero, Nat.sub_zero]
          have hcut : (fillL FC N) = fillL FC N2 ++ fillL FC (N - N / 2) := by
            rw [← fillL_rep, ← fillL_rep, ← fillL_rep, ← Lib.repeatL_add]; congr 1; rw [← HN2.out]; omega
          have hcl : (fillL FC N2).length = HF := by rw [HFL.out, ← HHF.out]; rw [show FB.size = fs from HFS2.out]
          unfold layT
          rw [if_neg (by decide), if_neg (by decide), if_neg (by decide), hcut, ← hcl, List.take_left, List.drop_left, HN2.out, List.take_of_length_le]
          rw [HFL.out, ← HN0.out, hcl, ← HHF.out, show FB.size = fs from HFS2.out, ← Nat.sub_mul]; exact Nat.le_refl _)
        clear HX HSD
        go_wp2_with fail
        refine (hPd W3).mono ?_
        rintro e W4 ⟨rfl, hB4⟩
        have hB04 := hB03.trans (hB4.mono hB03.size)
        clear hB4
        go_upto_region 19 with fail
        go_quiet (fail)
        go_wp2
        go_ret2
        exact ⟨by rw [← HQ.out]; rfl, hB04.trans ⟨rfl, rfl, rfl, Nat.le_refl _, fun _ _ => rfl⟩⟩
      · have hs : SD = ⟨#[61]⟩ := by rw [HSD.out]; rfl
        subst hs
        have hps := HPDs.out
        have hpz : (NF : Int) ≤ (PD.size : Int) := by omega
        have q1 : ¬ 9223372036854775807 < (PD.extract 0 0).size + S.size := by
          have := ext_size PD 0 0; omega
        have q2 : ¬ 9223372036854775807 < (PD.extract 0 0 ++ S).size + (PD.extract 0 NF).size := by
          have := ext_size PD 0 0; have := ext_size PD 0 NF; rw [ba_size]; omega
        have q3 : ¬ 9223372036854775807 < (PD.extract 0 0 ++ S ++ PD.extract 0 NF).size + B.size := by
          have := ext_size PD 0 0; have := ext_size PD 0 NF; rw [ba_size, ba_size]; omega
        have q4 : ¬ 9223372036854775807 < (PD.extract 0 0 ++ S ++ PD.extract 0 NF ++ B).size + (PD.extract NF PD.size).size := by
          have := ext_size PD 0 0; have := ext_size PD 0 NF; have := ext_size PD NF PD.size; rw [ba_size, ba_size, ba_size]; omega
        have HQ : Hid (S ++ PD.extract 0 NF ++ B = RX) := HX.out _ (by
          simp only [ba_app, Lib.extract_data, HPDd.out, List.drop_zero, Nat.sub_zero]
          unfold layT
          rw [if_neg (by decide), if_neg (by decide), if_pos rfl, List.take_of_length_le (by rw [HFL.out, HN0.out]; exact Nat.le_refl _)])
        clear HX HSD
        go_wp2_with fail
        refine (hPd W3).mono ?_
        rintro e W4 ⟨rfl, hB4⟩
        have hB04 := hB03.trans (hB4.mono hB03.size)
        clear hB4
        go_upto_region 19 with fail
        go_quiet (fail)
        go_wp2
        go_ret2
        exact ⟨by rw [← HQ.out]; rfl, hB04.trans ⟨rfl, rfl, rfl, Nat.le_refl _, fun _ _ => rfl⟩⟩
end Go.Proofs.YtahcpgldpbejiaaGreatDoor
