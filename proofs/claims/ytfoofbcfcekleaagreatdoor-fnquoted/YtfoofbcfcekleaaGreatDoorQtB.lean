import Derived.Test.YtfoofbcfcekleaaGreatDoorBaseI
import Derived.Test.YtfoofbcfcekleaaGreatDoorQtG
import Derived.Lib.IndexLaws
import Derived.Lib.IndexBytes
import Derived.BigQuiet
namespace Go.Proofs.YtfoofbcfcekleaaGreatDoor
open Go.RowKit Go.Lib
set_option linter.unusedVariables false
set_option linter.unusedSimpArgs false

/-- strings.HasPrefix, by its contract. -/
def HPc : Prop := ∀ (s p : ByteArray) (W : World), Calls Tryz.prog 44 #[.string s, .string p] W fun e w' => e = .returned (.bool (Lib.hasPrefix s.data.toList p.data.toList)) ∧ w' = W
def bz' (l : List UInt8) : ByteArray := ⟨l.toArray⟩
def RPc : Prop := ∀ (c : UInt8) (W : World), Calls Tryz.prog 91 #[.string (bz' [c]), .int .i64 3] W fun e w' => e = .returned (.string (bz' [c, c, c])) ∧ Below W.heap.size W w'
theorem bz_data (l : List UInt8) : (bz' l).data.toList = l := by simp [bz']
theorem bz_size (l : List UInt8) : (bz' l).size = l.length := by simp [bz', ByteArray.size]
theorem bz_of {s : ByteArray} {l : List UInt8} (h : s.data.toList = l) : s = bz' l := by rw [← Lib.mk_data s, h]; rfl
theorem bz_cut (l : List UInt8) (i j : Nat) : (bz' l).extract i j = bz' ((l.drop i).take (j - i)) := by
  apply bz_of
  rw [Lib.extract_data, bz_data]
theorem hp_one (l : List UInt8) (q : UInt8) : Lib.hasPrefix l [q] = (l.head? == some q) := by
  cases l with
  | nil => rfl
  | cons b t =>
    have e : Lib.hasPrefix (b :: t) [q] = (q == b) := by
      show [q].isPrefixOf (b :: t) = _
      rw [List.isPrefixOf_cons_cons]
      simp
    rw [e]
    simp only [List.head?_cons, Option.some_beq_some]
    exact Bool.beq_comm
set_option maxHeartbeats 2000000 in
set_option maxRecDepth 100000 in
theorem cutQuoted_any (q : UInt8) (ins : List UInt8) (w : World) (hq : q ≠ 92) (hq10 : q ≠ 10) (hg : Gd q ins) (hl : ins.length ≤ 20000) (hHP : HPc) (hRP : RPc) :
    Calls Tryz.prog 75 #[.string (bz' (q :: ins ++ [q]))] w fun e w' => e = .returned (.tuple #[.string (bz' ins), .string (bz' []), .bool true]) ∧ Below w.heap.size w w' := by
  obtain ⟨LN, hLN⟩ : ∃ LN, ins.length = LN := ⟨_, rfl⟩
  have HLN : Hid (ins.length = LN) := hLN
  obtain ⟨S, hS⟩ : ∃ S, bz' (q :: ins ++ [q]) = S := ⟨_, rfl⟩
  obtain ⟨Q1, hQ1⟩ : ∃ Q1, bz' [q] = Q1 := ⟨_, rfl⟩
  obtain ⟨R, hR⟩ : ∃ R, bz' (ins ++ [q]) = R := ⟨_, rfl⟩
  have hsz : S.size = LN + 2 := by rw [← hS, bz_size]; simp [hLN]
  have hE1 : S.extract 0 1 = Q1 := by rw [← hS, ← hQ1, bz_cut]; simp
  have hE2 : S.extract 1 (LN + 2) = R := by
    rw [← hS, ← hR, bz_cut]
    congr 1
    show (ins ++ [q]).take (LN + 2 - 1) = ins ++ [q]
    exact List.take_of_length_le (by simp [hLN])
  have hRp := hRP q w
  rw [hQ1] at hRp
  have hq1 : Q1.size = 1 := by rw [← hQ1, bz_size]; rfl
  have hrs : R.size = LN + 1 := by rw [← hR, bz_size]; simp [hLN]
  have HQD : Hid (Q1.data.toList = [q]) := by show _ = _; rw [← hQ1, bz_data]
  have HRD : Hid (R.data.toList = ins ++ [q]) := by show _ = _; rw [← hR, bz_data]
  have HSD : Hid (S.data.toList = q :: ins ++ [q]) := by show _ = _; rw [← hS, bz_data]
  have HRB : Hid (bz' (ins ++ [q]) = R) := hR
  -- not three quotes
  have hno3 : Lib.hasPrefix S.data.toList [q, q, q] = false := by
    rw [HSD.out]
    cases hg with
    | nil => simp [Lib.hasPrefix, List.isPrefixOf]
    | one h1 h2 h3 h => simp [Lib.hasPrefix, List.isPrefixOf]; intro e; exact absurd e.symm h2
    | two h => simp [Lib.hasPrefix, List.isPrefixOf]; intro e; exact absurd e hq
  have hP3 := fun W => hHP S (bz' [q, q, q]) W
  rw [bz_data, hno3] at hP3
  obtain ⟨Q3, hQ3⟩ : ∃ Q3, bz' [q, q, q] = Q3 := ⟨_, rfl⟩
  rw [hQ3] at hRp hP3
  have HG : Hid (Gd q ins) := hg
  rw [hS]
  have hLb : LN ≤ 20000 := by omega
  clear hS hQ1 hR hQ3 hno3 hg hl hLN
  go_enter Tryz.func75, Tryz.ntmps75
  go_wp2_with fail
  refine hRp.mono ?_
  rintro e W1 ⟨rfl, b1⟩
  clear hRp
  go_wp2_with fail
  refine (hP3 _).mono ?_
  rintro e W2 ⟨rfl, rfl⟩
  clear hP3
  go_wp2_with fail
  go_loopw [7] (fun i wr => ∃ (k : Nat) (t : List UInt8), i = .int .i64 (k : Nat) ∧ (ins ++ [q]).drop k = t ++ [q] ∧ Gd q t ∧ Below w.heap.size w wr) (fun i _ => LN + 2 - (intOf i).toNat)
  case atStart => exact ⟨0, ins, rfl, rfl, HG.out, b1⟩
  case round =>
    obtain ⟨k, t, rfl, hdr, hgt, bW⟩ := hrel
    clear b1
    generalize wr = W at *
    have hkl : k + t.length = LN := by
      have h5 := congrArg List.length hdr
      simp only [List.length_drop, List.length_append, List.length_singleton] at h5
      rw [HLN.out] at h5
      omega
    have hki : (k : Int) < (LN : Int) + 1 := by omega
    have hT : R.extract k (LN + 1) = bz' (t ++ [q]) := by
      rw [← HRB.out, bz_cut, hdr]
      congr 1
      exact List.take_of_length_le (by simp; omega)
    obtain ⟨T, hTT⟩ : ∃ T, bz' (t ++ [q]) = T := ⟨_, rfl⟩
    have HTD : Hid (T.data.toList = t ++ [q]) := by show _ = _; rw [← hTT, bz_data]
    rw [hTT] at hT
    have hPf := hHP T Q1 W
    rw [HTD.out, HQD.out, hp_one] at hPf
    have HDR : Hid ((ins ++ [q]).drop k = t ++ [q]) := hdr
    have hk0 : k < R.size := by omega
    have hRk : ∃ b, R[k]'hk0 = b ∧ (t ++ [q]).head? = some b := by
      have h6 := Lib.data_getElem? R k hk0
      rw [HRD.out] at h6
      have h7 : (ins ++ [q])[k]? = (t ++ [q]).head? := by rw [← hdr, List.head?_drop]
      exact ⟨_, rfl, by rw [← h7, h6]⟩
    clear hTT hdr
    cases hgt with
    | nil =>
      have e : (([] : List UInt8) ++ [q]).head? = some q := rfl
      rw [e] at hPf
      have e2 : (some q == some q) = true := by simp
      rw [e2] at hPf
      have hkL : k = LN := by simpa using hkl
      subst hkL
      have hA : R.extract 0 k = bz' ins := by
        rw [← HRB.out, bz_cut]
        congr 1
        rw [List.drop_zero, Nat.sub_zero, List.take_append_of_le_length (by rw [HLN.out]; exact Nat.le_refl _), List.take_of_length_le (by rw [HLN.out]; exact Nat.le_refl _)]
      have hB : R.extract (k + 1) (k + 1) = bz' [] := by
        rw [← HRB.out, bz_cut]
        simp
      have hw1 : IntKind.i64.wrap ((k : Int) + 1) = (k : Int) + 1 := by simp [IntKind.wrap, IntKind.bits, IntKind.signed]; omega
      clear hRk
      go_wp2_with fail
      refine hPf.mono ?_
      rintro e W3 ⟨rfl, rfl⟩
      clear hPf
      go_wp2
      go_region
      go_wp2
      go_ret3
      exact ⟨rfl, bW.drew⟩
    | @one b t' h1 h2 h3 h =>
      have e : (b :: t' ++ [q]).head? = some b := rfl
      rw [e] at hPf hRk
      have e2 : (some b == some q) = false := by simp [h2]
      rw [e2] at hPf
      obtain ⟨b', hb0, hb1⟩ := hRk
      obtain rfl : b = b' := Option.some.inj hb1
      have HN : Hid ((ins ++ [q]).drop (k + 1) = t' ++ [q]) := by
        show _ = _
        rw [← List.drop_drop, HDR.out]
        rfl
      have HG2 : Hid (Gd q t') := h
      have k10 : ((b.toNat : Int) == 10) = false := by
        rw [beq_eq_false_iff_ne]
        intro e; apply h3
        have e3 : b.toNat = 10 := by omega
        exact UInt8.toNat_inj.1 e3
      have k92 : ((b.toNat : Int) == 92) = false := by
        rw [beq_eq_false_iff_ne]
        intro e; apply h1
        have e3 : b.toNat = 92 := by omega
        exact UInt8.toNat_inj.1 e3
      have hw1 : IntKind.i64.wrap ((k : Int) + 1) = (k : Int) + 1 := by simp [IntKind.wrap, IntKind.bits, IntKind.signed]; omega
      have hlt : k + 1 ≤ LN := by simp only [List.length_cons] at hkl; omega
      clear h hb1 e e2 hkl
      go_wp2_with fail
      refine hPf.mono ?_
      rintro e W3 ⟨rfl, rfl⟩
      clear hPf
      go_wp2
      go_roundw
      case rel => exact ⟨k + 1, t', by go_num, HN.out, HG2.out, bW⟩
      case measure => simp [intOf]; omega
    | @two x t' h =>
      have e : ((92 : UInt8) :: x :: t' ++ [q]).head? = some 92 := rfl
      rw [e] at hPf hRk
      have e2 : (some (92 : UInt8) == some q) = false := by simp; exact fun e => hq e.symm
      rw [e2] at hPf
      obtain ⟨b', hb0, hb1⟩ := hRk
      obtain rfl : (92 : UInt8) = b' := Option.some.inj hb1
      have HN : Hid ((ins ++ [q]).drop (k + 2) = t' ++ [q]) := by
        show _ = _
        rw [← List.drop_drop, HDR.out]
        rfl
      have HG2 : Hid (Gd q t') := h
      have hw1 : IntKind.i64.wrap ((k : Int) + 1) = (k : Int) + 1 := by simp [IntKind.wrap, IntKind.bits, IntKind.signed]; omega
      have hw2 : IntKind.i64.wrap ((k : Int) + 1 + 1) = (k : Int) + 1 + 1 := by simp [IntKind.wrap, IntKind.bits, IntKind.signed]; omega
      have hlt : k + 2 ≤ LN := by simp only [List.length_cons] at hkl; omega
      clear h hb1 e e2 hkl
      go_wp2_with fail
      refine hPf.mono ?_
      rintro e W3 ⟨rfl, rfl⟩
      clear hPf
      go_wp2
      go_roundw
      case rel => exact ⟨k + 2, t', by go_num, HN.out, HG2.out, bW⟩
      case measure => simp [intOf]; omega
end Go.Proofs.YtfoofbcfcekleaaGreatDoor
