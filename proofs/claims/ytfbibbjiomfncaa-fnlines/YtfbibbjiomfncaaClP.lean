import Derived.Test.YtfbibbjiomfncaaClS
namespace Go.Proofs.Ytfbibbjiomfncaa
open Go.RowKit
set_option linter.unusedVariables false
set_option linter.unusedSimpArgs false

theorem pigeon : ∀ (i : Nat) (b : List Int), b.Nodup → (∀ x ∈ b, 0 ≤ x ∧ x < (i : Int)) → b.length ≤ i
  | 0, [], _, _ => Nat.le_refl _
  | 0, x :: r, _, h => by have := h x (by simp); omega
  | i + 1, b, hn, h => by
    by_cases hm : (i : Int) ∈ b
    · have h1 := pigeon i (b.erase (i : Int)) (hn.erase _) (fun x hx => by
        have hx' := (hn.mem_erase_iff).mp hx
        have := h x hx'.2
        have := hx'.1
        omega)
      rw [List.length_erase_of_mem hm] at h1
      omega
    · have := pigeon i b hn (fun x hx => by
        have := h x hx
        have : x ≠ (i : Int) := fun e => hm (e ▸ hx)
        omega)
      omega

theorem OkB.len {i : Nat} {b : List Int} (h : OkB i b) : b.length ≤ i := pigeon i b h.2 h.1
theorem OkB.snoc {i k : Nat} {b : List Int} (hk : k < b.length) (h : OkB i (b.take k)) (h1 : 0 ≤ b[k] ∧ b[k] < (i : Int)) (h2 : ∀ j (h : j < b.length), j < k → b[j] ≠ b[k]) : OkB i (b.take (k + 1)) := by
  rw [List.take_succ_eq_append_getElem hk]
  refine ⟨fun x hx => ?_, nodup_snoc h.2 (fun hm => ?_)⟩
  · rcases List.mem_append.mp hx with h3 | h3
    · exact h.1 x h3
    · simp at h3; subst h3; exact h1
  · obtain ⟨j, hj, e⟩ := List.getElem_of_mem hm
    have hjk : j < k := by simp at hj; omega
    rw [List.getElem_take] at e
    exact h2 j (by omega) hjk e

set_option maxRecDepth 100000 in
set_option maxHeartbeats 2000000 in
theorem okCS_any (v : Value) (cs : List Cl) (w : World) (hr : RdC w v cs) :
    Calls Try.prog 11 #[v] w fun e w' => e = .returned (.bool (dec (OkCs cs))) ∧ Below w.heap.size w w' := by
  obtain ⟨ps, ⟨a, cap, rfl, hl, hz, hn0, hc⟩, hpl, hK⟩ := hr
  generalize hR : dec (OkCs cs) = R
  have HR : Hid (dec (OkCs cs) = R) := hR
  have HP : Hid (ps.length = cs.length) := hpl
  rw [hpl] at hl ⊢
  clear hR hpl
  by_cases h200 : cs.length ≤ 200
  · have hg : ¬ (200 : Int) < cs.length := by omega
    go_enter Try.func11, Try.ntmps11
    go_wp2
    go_loopw [3] (fun i wr => ∃ k : Nat, k ≤ cs.length ∧ i = .int .i64 k ∧ (∀ j (h : j < cs.length), j < k → OkB j cs[j].b ∧ OkN cs[j].a ∧ OkT cs[j].a) ∧ Below w.heap.size w wr)
      (fun i _ => cs.length - (intOf i).toNat)
    case atStart => exact ⟨0, Nat.zero_le _, rfl, fun j _ h => absurd h (by omega), Below.refl _ _⟩
    case round =>
      obtain ⟨i, hk, rfl, hJ, hBr⟩ := hrel
      by_cases hlt : i < cs.length
      · have hlt' : i < ps.length := by rw [HP.out]; exact hlt
        obtain ⟨b, off, rfl, hb, hcell⟩ := hc (by omega)
        have HAt : Hid (∀ W (h : Below w.heap.size w W), W.cell? ⟨b, off + i * 2, none⟩ = some ps[i].s1 ∧ W.cell? ⟨b, off + i * 2 + 1, none⟩ = some ps[i].s2) := fun W h => RdP.at (fun k hk j hj => (h.cell (p := ⟨b, _, none⟩) hb).trans (hcell k hk j hj)) i hlt'
        obtain ⟨d0, d1⟩ := HAt.out wr hBr
        have hKk := hK i hlt' hlt
        have HF : Hid (¬ (OkB i cs[i].b ∧ OkN cs[i].a ∧ OkT cs[i].a) → R = false) := fun hn => by rw [← HR.out]; exact dec_false fun h => hn (h.2 i hlt)
        have HT : Hid (OkB i cs[i].b ∧ OkN cs[i].a ∧ OkT cs[i].a → ∀ j (h : j < cs.length), j < i + 1 → OkB j cs[j].b ∧ OkN cs[j].a ∧ OkT cs[j].a) := fun hx j h hj => by
          by_cases e : j = i
          · subst e; exact hx
          · exact hJ j h (by omega)
        clear hcell hc hK hz HR hJ
        generalize cs[i] = C at *
        generalize ps[i] = P at *
        obtain ⟨bs, ats⟩ := C
        obtain ⟨p1, p2, p3, p4, p5, p6⟩ := P
        obtain ⟨⟨a1, cp1, e1, hl1, hz1, hn1, hc1⟩, hA⟩ := hKk
        simp only [Sp.s1, Sp.s2] at *
        simp only [Value.slice.injEq] at e1
        obtain ⟨rfl, rfl, rfl⟩ := e1
        have hAok := fun W h => attrsOk_true (.slice p4 p5 p6) ats W h
        by_cases hlb : bs.length ≤ i
        · have hg1 : ¬ (i : Int) < bs.length := by omega
          go_wp2
          go_loopw [5] (fun q wr => ∃ k : Nat, k ≤ bs.length ∧ q = .int .i64 k ∧ OkB i (bs.take k) ∧ Below w.heap.size w wr)
            (fun q _ => bs.length - (intOf q).toNat)
          case atStart => exact ⟨0, Nat.zero_le _, rfl, by simp [OkB], hBr⟩
          case round =>
            obtain ⟨k, hk1, rfl, hOk, hBk⟩ := hrel
            clear d0 d1
            by_cases hkl : k < bs.length
            · obtain ⟨b1, off1, rfl, hb1, hcell1⟩ := hc1 (by omega)
              have HC : Hid (∀ W (h : Below w.heap.size w W) j, j < bs.length → W.cell? ⟨b1, off1 + j, none⟩ = some (.int .i64 (bs.getD j 0))) := fun W h j hj => (h.cell (p := ⟨b1, off1 + j, none⟩) hb1).trans (hcell1 j hj)
              have ck := HC.out wr hBk k hkl
              have HG : Hid (∀ j (h : j < bs.length), bs.getD j 0 = bs[j]) := fun j h => by simp [List.getD, h]
              have HF1 : Hid (¬ (0 ≤ bs.getD k 0 ∧ bs.getD k 0 < (i : Int)) → R = false) := fun hn => HF.out fun h => hn (by rw [HG.out k hkl]; exact h.1.1 _ (List.getElem_mem hkl))
              have HF2 : Hid (∀ j, j < k → bs.getD j 0 = bs.getD k 0 → R = false) := fun j hj e => HF.out fun h => by
                rw [HG.out k hkl, HG.out j (by omega)] at e
                exact twins hj hkl e h.1.2
              have HS : Hid (0 ≤ bs.getD k 0 ∧ bs.getD k 0 < (i : Int) → (∀ j, j < k → bs.getD j 0 ≠ bs.getD k 0) → OkB i (bs.take (k + 1))) := fun h1 h2 => OkB.snoc hkl hOk (by rw [← HG.out k hkl]; exact h1) (fun j h hj => by rw [← HG.out j h, ← HG.out k hkl]; exact h2 j hj)
              have hzk := hz1.get k
              clear hcell1 hc1 hOk HG hA hAok
              by_cases hg0 : bs.getD k 0 < 0
              · obtain rfl := HF1.out (by omega)
                clear HF1 HF2 HS HF HT HC HAt
                generalize bs.getD k 0 = Z at *
                go_wp2
                go_ret
                exact ⟨rfl, hBk⟩
              · by_cases hg2 : (i : Int) ≤ bs.getD k 0
                · obtain rfl := HF1.out (by omega)
                  clear HF1 HF2 HS HF HT HC HAt
                  generalize bs.getD k 0 = Z at *
                  go_wp2
                  go_ret
                  exact ⟨rfl, hBk⟩
                · have HS' : Hid ((∀ j, j < k → bs.getD j 0 ≠ bs.getD k 0) → OkB i (bs.take (k + 1))) := HS.out ⟨by omega, by omega⟩
                  have HCk : Hid (∀ W (h : Below w.heap.size w W), W.cell? ⟨b1, off1 + k, none⟩ = some (.int .i64 (bs.getD k 0))) := fun W h => HC.out W h k hkl
                  clear HF1 HS
                  generalize bs.getD k 0 = Z at *
                  have hg3 : Z < (i : Int) := by omega
                  go_wp2
                  go_loopw [6] (fun q wr => ∃ m : Nat, m ≤ k ∧ q = .int .i64 m ∧ (∀ j, j < m → bs.getD j 0 ≠ Z) ∧ Below w.heap.size w wr)
                    (fun q _ => k - (intOf q).toNat)
                  case atStart => exact ⟨0, Nat.zero_le _, rfl, fun j h => absurd h (by omega), hBk⟩
                  case round =>
                    obtain ⟨m, hm, rfl, hne, hBm⟩ := hrel
                    clear ck
                    by_cases hmk : m < k
                    · have e0 := HC.out _ hBm m (by omega)
                      have e1 := HCk.out _ hBm
                      have HFm := HF2.out m hmk
                      have HN : Hid (bs.getD m 0 ≠ Z → ∀ j, j < m + 1 → bs.getD j 0 ≠ Z) := fun hx j hj => by
                        by_cases e : j = m
                        · subst e; exact hx
                        · exact hne j (by omega)
                      have hzm := hz1.get m
                      clear hne
                      generalize bs.getD m 0 = Y at *
                      by_cases hY : Y = Z
                      · obtain rfl := HFm hY
                        subst hY
                        clear HFm HN
                        go_wp2
                        go_region
                        all_goals
                          go_wp2
                          go_ret
                          exact ⟨rfl, hBm.drew⟩
                      · have hS : (Y == Z) = false := by simpa using hY
                        have HY : Hid (¬ Y = Z) := hY
                        clear HFm hY
                        go_wp2
                        go_region
                        all_goals
                          go_wp2
                          go_roundw
                          case rel => exact ⟨m + 1, by omega, by go_num, HN.out HY.out, hBm.drew⟩
                          case measure => simp [intOf]; omega
                    · obtain rfl : m = k := by omega
                      go_wp2
                      go_roundw
                      case rel => exact ⟨m + 1, by omega, by go_num, HS'.out hne, hBm⟩
                      case measure => simp [intOf]; omega
            · have hOk' : OkB i bs := by
                have e : bs.take k = bs := List.take_of_length_le (by omega)
                rw [e] at hOk; exact hOk
              obtain ⟨d0, d1⟩ := HAt.out wr hBk
              have HAB := (hAok wr (hA.keep hBk))
              have HD : Hid (OkB i bs) := hOk'
              have HF3 : Hid (dec (OkN ats ∧ OkT ats) = false → R = false) := fun h => HF.out fun h2 => by
                rw [dec_true h2.2] at h; cases h
              have HT3 : Hid (dec (OkN ats ∧ OkT ats) = true → OkB i bs ∧ OkN ats ∧ OkT ats) := fun h => by
                by_cases hh : OkN ats ∧ OkT ats
                · exact ⟨hOk', hh⟩
                · rw [dec_false hh] at h; cases h
              generalize dec (OkN ats ∧ OkT ats) = D at *
              clear hOk hOk' hAok hc1
              go_wp2_with fail
              refine HAB.mono ?_
              rintro e w2 ⟨rfl, hB2⟩
              have hB3 := hBk.trans (hB2.mono hBk.size)
              cases D
              · obtain rfl := HF3.out rfl
                go_wp2
                go_ret
                exact ⟨rfl, hB3⟩
              · go_wp2
                go_roundw
                case rel => exact ⟨i + 1, by omega, by go_num, HT.out (HT3.out (by first | rfl | trivial)), hB3⟩
                case measure => simp [intOf]; omega
        · obtain rfl := HF.out fun h => hlb h.1.len
          have hg1 : (i : Int) < bs.length := by omega
          go_wp2
          go_ret
          exact ⟨rfl, hBr⟩
      · obtain rfl : R = true := by rw [← HR.out]; exact dec_true ⟨h200, fun j h => hJ j h (by omega)⟩
        go_wp2
        go_ret
        exact ⟨rfl, hBr⟩
  · have hg : (200 : Int) < cs.length := by omega
    obtain rfl : R = false := by rw [← HR.out]; exact dec_false (fun h => h200 h.1)
    go_enter Try.func11, Try.ntmps11
    go_wp2
    go_ret
    exact ⟨rfl, Below.refl _ _⟩
end Go.Proofs.Ytfbibbjiomfncaa
