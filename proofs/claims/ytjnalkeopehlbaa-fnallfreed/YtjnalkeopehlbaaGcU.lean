import Derived.Test.YtjnalkeopehlbaaGcT
namespace Go.Proofs.Ytjnalkeopehlbaa
open Go.RowKit Go.Maps
set_option linter.unusedVariables false
set_option linter.unusedSimpArgs false

theorem okx_false_lt {k : Nat} {S : Gs} (h : Iv k S) {x : Int} (hx : x < 1) : okx S x = false := by
  cases e : okx S x with
  | false => rfl
  | true => have := okx_iff h e; omega
theorem okx_false_gt {k : Nat} {S : Gs} (h : Iv k S) {x : Int} (hx : (S.n : Int) < x) : okx S x = false := by
  cases e : okx S x with
  | false => rfl
  | true => have := okx_iff h e; omega
set_option maxRecDepth 100000 in
set_option maxHeartbeats 1000000 in
theorem okS_any (B sb K : Nat) (ov ew : Value) (S : Gs) (hs ts : Nat → Sl) (x : Int) (w : World) (h : SS w B sb ov ew S hs ts) (hI : Iv K S) (hK : K ≤ 100000) (hx0 : -9223372036854775808 ≤ x) (hx1 : x < 9223372036854775808) :
    Calls Try.prog 41 #[.pointer (some ⟨sb, 0, none⟩), .int .i64 x] w fun e w' => e = .returned (.bool (okx S x)) ∧ w' = w := by
  obtain ⟨c, b0, b1, b2, bf⟩ := h.boxc
  obtain ⟨oa, oc, hov⟩ : ∃ a c, ov = .slice a S.n c := by
    obtain ⟨a, c, e⟩ := h.out.form
    rw [txs_len] at e
    exact ⟨a, c, e⟩
  have hnk := hI.n
  by_cases h1 : x < 1
  · have HF : Hid (okx S x = false) := okx_false_lt hI h1
    have e1 : ¬ (1 : Int) ≤ x := by omega
    rw [HF.out]
    clear h1 h
    go_enter Try.func41, Try.ntmps41
    go_wp2
    go_ret
    exact ⟨rfl, rfl⟩
  · have e1 : (1 : Int) ≤ x := by omega
    by_cases h2 : (S.n : Int) < x
    · have HF : Hid (okx S x = false) := okx_false_gt hI h2
      have e2 : ¬ x ≤ (S.n : Int) := by omega
      rw [HF.out]
      rw [hov] at b0
      clear h1 h h2
      go_enter Try.func41, Try.ntmps41
      go_wp2
      go_ret
      exact ⟨rfl, rfl⟩
    · have e2 : x ≤ (S.n : Int) := by omega
      obtain ⟨ob, cap, hov, -, -⟩ := h.shape (by omega)
      obtain ⟨k, hk⟩ : ∃ k : Nat, x - 1 = (k : Int) := ⟨(x - 1).toNat, by omega⟩
      have hkn : k < S.n := by omega
      obtain ⟨c0, -⟩ := h.cells hov k hkn
      have HF : Hid (okx S x = S.al (k + 1)) := by
        show _ = _
        unfold okx
        rw [show x.toNat = k + 1 by omega, decide_eq_true (by omega), Bool.true_and]
      rw [HF.out]
      rw [hov] at b0
      have hki : (k : Int) < (S.n : Int) := by omega
      clear h1 h h2
      go_enter Try.func41, Try.ntmps41
      go_wp2
      go_ret
      exact ⟨rfl, rfl⟩
theorem ksL_len (l : List (Nat × Nat)) : (ksL l).length = l.length := by unfold ksL; simp
theorem vsL_len (l : List (Nat × Nat)) : (vsL l).length = l.length := by unfold vsL; simp
theorem ksL_getD (l : List (Nat × Nat)) (k : Nat) (h : k < l.length) : (ksL l).getD k 0 = (l[k].1 : Int) := by unfold ksL; simp [List.getD, h]
theorem vsL_getD (l : List (Nat × Nat)) (k : Nat) (h : k < l.length) : (vsL l).getD k 0 = (l[k].2 : Int) := by unfold vsL; simp [List.getD, h]
theorem tmo_take (l : List (Nat × Nat)) (k x : Nat) (h : k < l.length) : tmo (l.take (k + 1)) x = tmo (l.take k) x + if l[k].1 = x then l[k].2 else 0 := by
  rw [List.take_succ_eq_append_getElem h, tmo_app, tmo_cons, tmo_nil]; omega
theorem tmo_take_le {c : Nat} (l : List (Nat × Nat)) (k x : Nat) (hn : (l.map (·.1)).Nodup) (h : ∀ p ∈ l, p.2 ≤ c) : tmo (l.take k) x ≤ c :=
  tmo_le _ _ ((List.Sublist.map _ (List.take_sublist k l)).nodup hn) (fun p hp => h p (List.mem_of_mem_take hp))
/-- The rows of a thing that lives. -/
theorem SS.rows {w : World} {B sb : Nat} {ov ew : Value} {S : Gs} {hs ts : Nat → Sl} (h : SS w B sb ov ew S hs ts) (x : Nat) (hx : S.al x = true) :
    ∃ a c a' c', (hs x).val = .slice a (S.hl x).length c ∧ (ts x).val = .slice a' (S.hl x).length c' ∧
      (0 < (S.hl x).length → ∃ g g', a = some ⟨g, 0, none⟩ ∧ a' = some ⟨g', 0, none⟩ ∧ ∀ k (hk : k < (S.hl x).length), w.cell? ⟨g, k, none⟩ = some (.int .i64 (((S.hl x)[k].1 : Nat) : Int)) ∧ w.cell? ⟨g', k, none⟩ = some (.int .i64 (((S.hl x)[k].2 : Nat) : Int))) := by
  have h1 := h.hr x hx
  have h2 := h.tr x hx
  obtain ⟨a, c, e1⟩ := h1.form
  obtain ⟨a', c', e2⟩ := h2.form
  rw [ksL_len] at e1
  rw [vsL_len] at e2
  refine ⟨a, c, a', c', e1, e2, fun hp => ?_⟩
  rcases h1.shape with ⟨_, e⟩ | ⟨g, cap, e, _⟩
  · have := ksL_len (S.hl x); rw [e] at this; simp at this; omega
  rcases h2.shape with ⟨_, e'⟩ | ⟨g', cap', e', _⟩
  · have := vsL_len (S.hl x); rw [e'] at this; simp at this; omega
  rw [e1] at e
  rw [e2] at e'
  simp only [Value.slice.injEq] at e e'
  refine ⟨g, g', e.1, e'.1, fun k hk => ⟨?_, ?_⟩⟩
  · rw [e1, e.1] at h1
    have := h1.cell k (by rw [ksL_len]; exact hk)
    rw [ksL_getD _ _ hk] at this
    exact this
  · rw [e2, e'.1] at h2
    have := h2.cell k (by rw [vsL_len]; exact hk)
    rw [vsL_getD _ _ hk] at this
    exact this
set_option maxRecDepth 100000 in
set_option maxHeartbeats 2000000 in
theorem countS_any (B sb K X : Nat) (ov ew : Value) (S : Gs) (hs ts : Nat → Sl) (w : World) (h : SS w B sb ov ew S hs ts) (hI : Iv K S) (hK : K ≤ 10000) (hX : X < S.n) :
    Calls Try.prog 43 #[.pointer (some ⟨sb, 0, none⟩), .int .i64 ((X : Int) + 1)] w fun e w' => e = .returned (.int .i64 (cnt S (X + 1) : Nat)) ∧ w' = w := by
  obtain ⟨c, b0, b1, b2, bf⟩ := h.boxc
  have hnk := hI.n
  obtain ⟨ob, cap, hov, -, -⟩ := h.shape (by omega)
  obtain ⟨-, -, -, c3, -⟩ := h.cells hov X hX
  rw [hov] at b0
  have HOV : Hid (ov = .slice (some ⟨ob, 0, none⟩) S.n cap) := hov
  clear hov
  have hXi : (X : Int) < (S.n : Int) := by omega
  obtain ⟨F, hF⟩ : ∃ F : Nat → Nat, (fun k => if S.al (k + 1) = true then tmo (S.hl (k + 1)) (X + 1) else 0) = F := ⟨_, rfl⟩
  have hFk : ∀ k, F k = if S.al (k + 1) = true then tmo (S.hl (k + 1)) (X + 1) else 0 := fun k => by rw [← hF]
  have hFc : ∀ k, F k ≤ 10000 := fun k => by
    rw [hFk]
    split
    · have := tmo_le (S.hl (k + 1)) (X + 1) (hI.nd _) (fun p hp => (hI.hl _ p hp).2.2.2); omega
    · omega
  have HC : Hid (cnt S (X + 1) = S.rt (X + 1) + sm S.n F) := by show _ = _; unfold cnt; rw [← hF]
  obtain ⟨R, hR⟩ : ∃ R, S.rt (X + 1) = R := ⟨_, rfl⟩
  have hRb : R ≤ 10001 := by have := hI.rt (X + 1); rw [hR] at this; split at this <;> omega
  rw [hR] at c3 HC
  obtain ⟨CN, hCN⟩ : ∃ CN, cnt S (X + 1) = CN := ⟨_, rfl⟩
  rw [hCN] at HC
  rw [hCN]
  obtain ⟨N, hN⟩ : ∃ N, S.n = N := ⟨_, rfl⟩
  have hN2 : N ≤ 10000 := by omega
  have HN : Hid (S.n = N) := hN
  rw [hN] at b0 HC hXi
  have hsm : ∀ k, k ≤ N → sm k F ≤ k * 10000 := fun k _ => sm_le F 10000 k (fun j _ => hFc j)
  clear hF hR hCN hN
  go_enter Try.func43, Try.ntmps43
  go_wp2
  go_loopw [5, 6] (fun n i wr => ∃ k : Nat, k ≤ N ∧ i = .int .i64 k ∧ n = .int .i64 ((R + sm k F : Nat) : Int) ∧ wr = w) (fun _ i _ => N - (intOf i).toNat)
  case atStart => exact ⟨0, by omega, rfl, by simp [sm_zero], rfl⟩
  case round =>
    obtain ⟨k, hk, rfl, rfl, hw⟩ := hrel
    obtain rfl : w = wr := hw.symm
    clear hw
    by_cases hlt : k < N
    · have hki : (k : Int) < (N : Int) := by omega
      obtain ⟨d0, d1, d2, -⟩ := h.cells HOV.out k (by rw [HN.out]; omega)
      have HS1 : Hid (sm (k + 1) F = sm k F + F k) := sm_succ k F
      have hb1 := hsm k (by omega)
      cases hal : S.al (k + 1) with
      | false =>
        rw [hal] at d0
        have HF0 : Hid (F k = 0) := by show _ = _; rw [hFk, hal]; rfl
        clear d1 d2 c3
        obtain ⟨A, hA⟩ : ∃ A : Nat, R + sm k F = A := ⟨_, rfl⟩
        simp only [hA]
        have HA : Hid (R + sm k F = A) := hA
        clear hA
        go_wp2
        go_roundw
        case rel => exact ⟨k + 1, by omega, by go_num, by rw [HS1.out, HF0.out, ← HA.out]; rfl, by first | rfl | trivial⟩
        case measure => simp [intOf]; omega
      | true =>
        rw [hal] at d0
        have HF0 : Hid (F k = tmo (S.hl (k + 1)) (X + 1)) := by show _ = _; rw [hFk, hal]; rfl
        obtain ⟨ah, ch, at', ct, eh, et, hcell⟩ := h.rows (k + 1) hal
        rw [eh] at d1
        rw [et] at d2
        have hnd := hI.nd (k + 1)
        have hps : ∀ p ∈ S.hl (k + 1), p.2 ≤ 10000 := fun p hp => by have := hI.hl (k + 1) p hp; omega
        have hpk : ∀ p ∈ S.hl (k + 1), p.1 ≤ 10000 := fun p hp => by have := hI.hl (k + 1) p hp; omega
        have hll := hI.len (k + 1)
        obtain ⟨L, hL⟩ : ∃ L, S.hl (k + 1) = L := ⟨_, rfl⟩
        rw [hL] at d1 d2 hcell hnd hps hpk HF0 hll
        have hpre : ∀ j, tmo (L.take j) (X + 1) ≤ 10000 := fun j => tmo_take_le L j (X + 1) hnd hps
        obtain ⟨LL, hLL⟩ : ∃ LL, L.length = LL := ⟨_, rfl⟩
        have HLL : Hid (L.length = LL) := hLL
        rw [hLL] at d1 d2 hll
        obtain ⟨A, hA⟩ : ∃ A : Nat, R + sm k F = A := ⟨_, rfl⟩
        simp only [hA]
        have HA : Hid (R + sm k F = A) := hA
        have hAb : A ≤ 200000000 := by have : k * 10000 ≤ 10000 * 10000 := Nat.mul_le_mul_right _ (by omega); omega
        clear hA hL hLL c3 eh et hnd
        go_wp2
        go_loopw [5, 7] (fun n i wq => ∃ j : Nat, j ≤ LL ∧ i = .int .i64 j ∧ n = .int .i64 ((A + tmo (L.take j) (X + 1) : Nat) : Int) ∧ wq = w) (fun _ i _ => LL - (intOf i).toNat)
        case atStart => exact ⟨0, by omega, rfl, by simp [tmo_nil], rfl⟩
        case round =>
          obtain ⟨j, hj, rfl, rfl, hw⟩ := hrel
          obtain rfl : w = wr := hw.symm
          clear hw
          by_cases hlj : j < LL
          · have hjl : j < L.length := by rw [HLL.out]; exact hlj
            obtain ⟨g, g', rfl, rfl, hcc⟩ := hcell (by omega)
            obtain ⟨q1, q2⟩ := hcc j hjl
            have hji : (j : Int) < (LL : Int) := by omega
            have hT := tmo_take L j (X + 1) hjl
            have hv := hps L[j] (List.getElem_mem hjl)
            have hkv := hpk L[j] (List.getElem_mem hjl)
            have hp0 := hpre j
            obtain ⟨V, hV⟩ : ∃ V, L[j].2 = V := ⟨_, rfl⟩
            obtain ⟨Y, hY⟩ : ∃ Y, L[j].1 = Y := ⟨_, rfl⟩
            rw [hV] at q2 hT hv
            rw [hY] at q1 hT hkv
            have HT : Hid (tmo (L.take (j + 1)) (X + 1) = tmo (L.take j) (X + 1) + if Y = X + 1 then V else 0) := hT
            obtain ⟨A2, hA2⟩ : ∃ A2 : Nat, A + tmo (L.take j) (X + 1) = A2 := ⟨_, rfl⟩
            simp only [hA2]
            have HA2 : Hid (A + tmo (L.take j) (X + 1) = A2) := hA2
            have hA2b : A2 ≤ 300000000 := by omega
            clear hT hV hY hA2 hcc hcell hp0
            by_cases heq : Y = X + 1
            · have he : (Y : Int) = (X : Int) + 1 := by omega
              rw [he] at q1
              have HT2 : Hid (tmo (L.take (j + 1)) (X + 1) = tmo (L.take j) (X + 1) + V) := by show _ = _; rw [HT.out, if_pos heq]
              clear heq he HT
              go_wp2
              go_roundw
              case rel => exact ⟨j + 1, by omega, by go_num, by rw [HT2.out, ← HA2.out]; simp; omega, by first | rfl | trivial⟩
              case measure => simp [intOf]; omega
            · have he : ((Y : Int) == (X : Int) + 1) = false := by rw [beq_eq_false_iff_ne]; omega
              have HT2 : Hid (tmo (L.take (j + 1)) (X + 1) = tmo (L.take j) (X + 1)) := by show _ = _; rw [HT.out, if_neg heq]; rfl
              clear heq HT
              go_wp2
              go_roundw
              case rel => exact ⟨j + 1, by omega, by go_num, by rw [HT2.out, ← HA2.out], by first | rfl | trivial⟩
              case measure => simp [intOf]; omega
          · obtain rfl : j = LL := by omega
            have HTL : Hid (tmo (L.take j) (X + 1) = tmo L (X + 1)) := by show _ = _; rw [← HLL.out, List.take_length]
            obtain ⟨A2, hA2⟩ : ∃ A2 : Nat, A + tmo (L.take j) (X + 1) = A2 := ⟨_, rfl⟩
            simp only [hA2]
            have HA2 : Hid (A + tmo (L.take j) (X + 1) = A2) := hA2
            clear hA2
            go_wp2
            go_roundw
            case rel => exact ⟨k + 1, by omega, by go_num, by rw [HS1.out, HF0.out, ← HA2.out, HTL.out, ← HA.out]; simp; omega, by first | rfl | trivial⟩
            case measure => simp [intOf]; omega
    · obtain rfl : k = N := by omega
      rw [← HC.out]
      go_wp2
      go_ret
      exact ⟨rfl, rfl⟩
end Go.Proofs.Ytjnalkeopehlbaa
