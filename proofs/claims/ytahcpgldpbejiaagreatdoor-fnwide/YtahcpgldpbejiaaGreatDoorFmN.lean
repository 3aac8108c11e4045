import Derived.Test.YtahcpgldpbejiaaGreatDoorFmP
import Derived.Test.YtahcpgldpbejiaaGreatDoorBxN
import Derived.Test.YtahcpgldpbejiaaGreatDoorRTok
import Derived.Test.YtahcpgldpbejiaaGreatDoorPutS
import Derived.Test.YtahcpgldpbejiaaGreatDoorTxI
namespace Go.Proofs.YtahcpgldpbejiaaGreatDoor
open Go.RowKit Go.Lib
set_option linter.unusedVariables false
set_option linter.unusedSimpArgs false

theorem wrap0 {a : Int} (h0 : 0 ≤ a) (h1 : a < 9223372036854775808) : IntKind.i64.wrap a = a := by
  simp [IntKind.wrap, IntKind.bits, IntKind.signed]; omega
set_option maxRecDepth 100000 in
theorem isAlign_any (c : Nat) (w : World) :
    Calls Tryz.prog 44 #[.int .i64 c] w fun e w' => e = .returned (.bool (isAl c)) ∧ w' = w := by
  have e1 : ((c : Int) == 60) = (c == 60) := by rw [Bool.eq_iff_iff]; simp; omega
  have e2 : ((c : Int) == 62) = (c == 62) := by rw [Bool.eq_iff_iff]; simp; omega
  have e3 : ((c : Int) == 94) = (c == 94) := by rw [Bool.eq_iff_iff]; simp; omega
  have e4 : ((c : Int) == 61) = (c == 61) := by rw [Bool.eq_iff_iff]; simp; omega
  unfold isAl
  cases h1 : (c == 60) <;> rw [h1] at e1
  · cases h2 : (c == 62) <;> rw [h2] at e2
    · cases h3 : (c == 94) <;> rw [h3] at e3
      · cases h4 : (c == 61) <;> rw [h4] at e4
        all_goals
          clear h1 h2 h3 h4
          go_enter Tryz.func44, Tryz.ntmps44
          go_wp2
          go_ret
          exact ⟨rfl, rfl⟩
      · clear h1 h2 h3 e4
        go_enter Tryz.func44, Tryz.ntmps44
        go_wp2
        go_ret
        exact ⟨rfl, rfl⟩
    · clear h1 h2 e3 e4
      go_enter Tryz.func44, Tryz.ntmps44
      go_wp2
      go_ret
      exact ⟨rfl, rfl⟩
  · clear h1 e2 e3 e4
    go_enter Tryz.func44, Tryz.ntmps44
    go_wp2
    go_ret
    exact ⟨rfl, rfl⟩
/-- Digits are being read: so many were. -/
def NmAt (most : Nat) (l : List Nat) (j V : Nat) : Prop := (cutD most l).1 = l.take j ++ (cutD (most - j) (l.drop j)).1 ∧ V = nv (l.take j) ∧ j ≤ most ∧ j ≤ l.length ∧ ∀ x ∈ l.take j, isDg x = true
theorem NmAt.start (most : Nat) (l : List Nat) : NmAt most l 0 0 := ⟨by simp, rfl, by omega, by omega, by simp⟩
theorem NmAt.next {most : Nat} {l : List Nat} {j V x : Nat} (h : NmAt most l j V) (hj : j < most) (hl : j < l.length) (hx : l[j] = x) (hd : isDg x = true) : NmAt most l (j + 1) (V * 10 + (x - 48)) := by
  obtain ⟨h1, h2, h3, h4, h5⟩ := h
  have ht : l.take (j + 1) = l.take j ++ [x] := by rw [List.take_succ_eq_append_getElem hl, hx]
  refine ⟨?_, ?_, by omega, by omega, fun y hy => ?_⟩
  · rw [h1, show most - j = (most - (j + 1)) + 1 by omega, List.drop_eq_getElem_cons hl, hx, cutD, if_pos hd, ht, List.append_assoc]; rfl
  · rw [ht, nv, nvF_snoc, h2, nv]
  · rw [ht] at hy
    rcases List.mem_append.1 hy with h | h
    · exact h5 y h
    · simp at h; subst h; exact hd
theorem NmAt.stop {most : Nat} {l : List Nat} {j V : Nat} (h : NmAt most l j V) (he : j = most ∨ j = l.length ∨ (∃ h : j < l.length, isDg l[j] = false)) : V = nv (cutD most l).1 ∧ j = (cutD most l).1.length := by
  obtain ⟨h1, h2, h3, h4, h5⟩ := h
  have h6 : (cutD (most - j) (l.drop j)).1 = [] := by
    rcases he with rfl | rfl | ⟨hl, hd⟩
    · rw [Nat.sub_self]; rfl
    · rw [List.drop_length]; cases most - l.length <;> rfl
    · rw [List.drop_eq_getElem_cons hl]
      cases most - j with
      | zero => rfl
      | succ m => rw [cutD, if_neg (by rw [hd]; decide)]
  rw [h6, List.append_nil] at h1
  rw [h1]
  exact ⟨h2, by rw [List.length_take]; omega⟩
set_option maxHeartbeats 1000000 in
set_option maxRecDepth 100000 in
theorem number_any (a : Option Addr) (cap : Nat) (rs : List Nat) (k most : Nat) (w : World) (hR : Rd w (.slice a rs.length cap) (rs.map fun (n : Nat) => (n : Int))) (hk : k ≤ rs.length) (hl : rs.length ≤ 16384) (hm : most ≤ 4) :
    Calls Tryz.prog 45 #[.slice a rs.length cap, .int .i64 k, .int .i64 most] w fun e w' => e = .returned (.tuple #[.int .i64 (nv (cutD most (rs.drop k)).1), .int .i64 ((k + (cutD most (rs.drop k)).1.length : Nat) : Int)]) ∧ w' = w := by
  have HST : Hid (∀ j V, NmAt most (rs.drop k) j V → (j = most ∨ j = (rs.drop k).length ∨ (∃ h : j < (rs.drop k).length, isDg (rs.drop k)[j] = false)) → V = nv (cutD most (rs.drop k)).1 ∧ j = (cutD most (rs.drop k)).1.length) := fun j V h1 h2 => h1.stop h2
  have HD : Hid ((cutD most (rs.drop k)).1.length ≤ 4) := by show _ ≤ _; have := cutD_len most (rs.drop k); omega
  obtain ⟨D, hD⟩ : ∃ D, (cutD most (rs.drop k)).1 = D := ⟨_, rfl⟩
  rw [hD] at HST HD ⊢
  clear hD
  obtain ⟨a1, cap1, e1, _, _, hn0, hc⟩ := hR
  simp only [Value.slice.injEq, List.length_map] at e1
  obtain ⟨rfl, _, rfl⟩ := e1
  have HC : Hid (∀ (j c : Nat) (hj : j < rs.length), rs[j] = c → ∃ b off, a = some ⟨b, off, none⟩ ∧ w.cell? ⟨b, off + j, none⟩ = some (.int .i64 c)) := fun j c hj hcc => by
    obtain ⟨b, off, rfl, hb, hcell⟩ := hc (by simp; omega)
    refine ⟨b, off, rfl, ?_⟩
    have := hcell j (by simpa using hj)
    rw [this]
    simp [List.getD, hj, hcc]
  clear hc hn0
  have HL : Hid ((rs.drop k).length = rs.length - k) := by show _ = _; rw [List.length_drop]
  go_enter Tryz.func45, Tryz.ntmps45
  go_wp2
  go_loopw [1, 8, 9] (fun i n kk wr => ∃ (j q : Nat) (V : Int), j ≤ most ∧ q ≤ rs.length ∧ i = .int .i64 q ∧ Hid (q = k + j) ∧ n = .int .i64 V ∧ 0 ≤ V ∧ V ≤ 9999 ∧ kk = .int .i64 j ∧ Hid (NmAt most (rs.drop k) j V.toNat) ∧ wr = w) (fun _ _ kk _ => most - (intOf kk).toNat)
  case atStart => exact ⟨0, k, 0, by omega, hk, rfl, rfl, rfl, by omega, by omega, rfl, NmAt.start _ _, rfl⟩
  case round =>
    obtain ⟨j, q, V, hj, hq, rfl, HQ, rfl, hV0, hV1, rfl, HN, rfl⟩ := hrel
    have HE : Hid ((j = most ∨ j = (rs.drop k).length ∨ (∃ h : j < (rs.drop k).length, isDg (rs.drop k)[j] = false)) → (V = (nv D : Int)) ∧ q = k + D.length) := fun h => by
      obtain ⟨h1, h2⟩ := HST.out j _ HN.out h
      have h3 := HQ.out
      exact ⟨by omega, by omega⟩
    by_cases hql : q < rs.length
    · have hqz : (q : Int) < (rs.length : Int) := by omega
      by_cases hjm : j < most
      · have hjz : (j : Int) < (most : Int) := by omega
        obtain ⟨c, hc⟩ : ∃ c, rs[q] = c := ⟨_, rfl⟩
        obtain ⟨b, off, rfl, hcell⟩ := HC.out q c hql hc
        have HJ : Hid (∃ h : j < (rs.drop k).length, (rs.drop k)[j] = c) := by
          have h1 := HL.out
          have h2 := HQ.out
          refine ⟨by omega, ?_⟩
          rw [List.getElem_drop]
          subst hc
          congr 1; omega
        obtain ⟨C, hC⟩ : ∃ C : Int, (c : Int) = C := ⟨_, rfl⟩
        rw [hC] at hcell
        by_cases hd : isDg c = true
        · have hd2 := hd
          unfold isDg at hd2
          simp only [Bool.and_eq_true, decide_eq_true_eq] at hd2
          have z1 : (48 : Int) ≤ C := by omega
          have z2 : C ≤ (57 : Int) := by omega
          have hw1 := wrap0 (a := V * 10) (by omega) (by omega)
          have hw2 := wrap0 (a := V * 10 + C) (by omega) (by omega)
          obtain ⟨V2, hV2⟩ : ∃ V2 : Int, V * 10 + C - 48 = V2 := ⟨_, rfl⟩
          have hw3 : IntKind.i64.wrap (V * 10 + C - 48) = V2 := by rw [wrap0 (by omega) (by omega)]; exact hV2
          have hw4 := wrap0 (a := (q : Int) + 1) (by omega) (by omega)
          have hw5 := wrap0 (a := (j : Int) + 1) (by omega) (by omega)
          have HN2 : Hid (NmAt most (rs.drop k) (j + 1) V2.toNat) := by
            obtain ⟨h1, h2⟩ := HJ.out
            have := HN.out.next hjm h1 h2 hd
            show NmAt _ _ _ _
            rw [show V2.toNat = V.toNat * 10 + (c - 48) by omega]; exact this
          have hV2b : V2 ≤ 9999 := by
            obtain ⟨h1, h2, h3, h4, h5⟩ := HN2.out
            have h6 := nv_lt h5 (m := 4) (by rw [List.length_take]; omega)
            rw [← h2] at h6
            omega
          have hV20 : 0 ≤ V2 := by omega
          have HQ2 : Hid (q + 1 = k + (j + 1)) := by show _ = _; have := HQ.out; omega
          clear HE HN HST HC hc hC hd hd2 HJ hV2
          go_wp2
          go_roundw
          case rel => exact ⟨j + 1, q + 1, V2, by omega, by omega, by go_num, HQ2, rfl, by omega, by omega, by go_num, HN2, (by first | rfl | trivial)⟩
          case measure => first | (simp [intOf]; done) | (simp [intOf]; omega)
        · obtain ⟨hv, hq2⟩ := HE.out (.inr (.inr (by
            obtain ⟨h1, h2⟩ := HJ.out
            exact ⟨h1, by rw [h2]; simpa using hd⟩)))
          have HV : Hid (V = (nv D : Int)) := hv
          have HQ3 : Hid (q = k + D.length) := hq2
          have hd2 : ¬ (48 ≤ c ∧ c ≤ 57) := by intro h; apply hd; unfold isDg; simp [h.1, h.2]
          clear hv hq2 HE HN HST HC hc hd HJ HL HD HQ
          by_cases z1 : (48 : Int) ≤ C
          · have z2 : ¬ C ≤ (57 : Int) := by omega
            clear hC hd2
            go_wp2
            go_ret2
            rw [HV.out, HQ3.out]; exact ⟨rfl, rfl⟩
          · clear hC hd2
            go_wp2
            go_ret2
            rw [HV.out, HQ3.out]; exact ⟨rfl, rfl⟩
      · have hjz : ¬ (j : Int) < (most : Int) := by omega
        obtain ⟨hv, hq2⟩ := HE.out (.inl (by omega))
        have HV : Hid (V = (nv D : Int)) := hv
        have HQ3 : Hid (q = k + D.length) := hq2
        clear hv hq2 HE HN HST HC HL HD HQ
        go_wp2
        go_ret2
        rw [HV.out, HQ3.out]; exact ⟨rfl, rfl⟩
    · have hqz : ¬ (q : Int) < (rs.length : Int) := by omega
      obtain ⟨hv, hq2⟩ := HE.out (.inr (.inl (by have h1 := HL.out; have h2 := HQ.out; omega)))
      have HV : Hid (V = (nv D : Int)) := hv
      have HQ3 : Hid (q = k + D.length) := hq2
      clear hv hq2 HE HN HST HC HL HD HQ
      go_wp2
      go_ret2
      rw [HV.out, HQ3.out]; exact ⟨rfl, rfl⟩
end Go.Proofs.YtahcpgldpbejiaaGreatDoor
