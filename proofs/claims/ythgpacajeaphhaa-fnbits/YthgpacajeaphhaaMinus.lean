import Derived.Test.YthgpacajeaphhaaSub
import Derived.Test.YthgpacajeaphhaaPrim
namespace Go.Proofs.Ythgpacajeaphhaa
open Go.RowKit
set_option linter.unusedVariables false
set_option linter.unusedSimpArgs false

theorem set_one (O : List Int) (d : Int) (m : Nat) : (O ++ List.replicate (m + 1) 0).set O.length d = (O ++ [d]) ++ List.replicate m 0 := by
  rw [List.set_append_right _ _ (Nat.le_refl _), Nat.sub_self, List.replicate_succ, List.set_cons_zero]
  simp

set_option maxHeartbeats 1000000 in
set_option maxRecDepth 100000 in
theorem minus_any (v u : Value) (xs ys : List Int) (w : World) (hx : Rd w v xs) (hy : Rd w u ys) (hlx : xs.length ≤ 1048576) (hlen : ys.length ≤ xs.length) (hle : val ys ≤ val xs) :
    Calls Try.prog 40 #[v, u] w fun e w' => ∃ a c, e = .returned (.slice a (lim (val xs - val ys)).length c) ∧ Own w' w.heap.size (.slice a (lim (val xs - val ys)).length c) (lim (val xs - val ys)) ∧ Below w.heap.size w w' := by
  have hx' := hx
  have hy' := hy
  obtain ⟨a, cap, rfl, _, hzx, hnx, hcx⟩ := hx
  obtain ⟨a', cap', rfl, _, hzy, hny, hcy⟩ := hy
  clear hcy hnx hny
  have hT := fun B n cp a W L (hO : Own W B (.slice a n cp) L) (he : val L = val xs - val ys) => he ▸ trimmed_any B n cp a L W hO
  generalize hQ : lim (val xs - val ys) = Q at hT ⊢
  clear hQ
  have HLE : Hid (val ys ≤ val xs) := hle
  clear hle
  obtain ⟨i0, hi, hz0, hz1, hz2⟩ := info_parts Try.info49
  go_enter Try.func40, Try.ntmps40
  go_wp2_with (at_make; refine wpList_make_full _ rfl _ _ 47 rfl w.heap.size 49 i0 (.int .u32 0) 1 Try.underlying47 hi hz0 hz1 .i64 .i64 _ _ xs.length rfl rfl rfl rfl (by rw [hz2]; omega) (by unfold maxLen; omega) (Nat.le_refl _) ?_; intro w1 hown hgrow)
  have hO : Own w1 w.heap.size _ (List.replicate xs.length 0) := Own.made (by omega) hown
  have hB : Below w.heap.size w w1 := (Below.refl _ _).grown hgrow (Nat.le_refl _) (by intro k h; cases h)
  clear hown hgrow hi hz0 hz1 hz2
  go_loopw [6, 7, 8, 14] (fun q _ _ i wr => ∃ (k c : Nat) (O : List Int), k ≤ xs.length ∧ i = .int .i64 k ∧ q = .int .u32 c ∧ c ≤ 1 ∧ O.length = k ∧ Own wr w.heap.size (.slice (some ⟨w.heap.size, 0, none⟩) xs.length xs.length) (O ++ List.replicate (xs.length - k) 0) ∧ val O + val (ys.take k) = val (xs.take k) + 4294967296 ^ k * c ∧ Below w.heap.size w wr)
    (fun _ _ _ i _ => xs.length - (intOf i).toNat)
  case atStart => exact ⟨0, 0, [], Nat.zero_le _, rfl, rfl, by omega, rfl, by simpa using hO, by simp [val], hB⟩
  case round =>
    obtain ⟨k, c, O, hk, rfl, rfl, hc1, hOl, hOw, hV, hBr⟩ := hrel
    clear hO hB
    by_cases hlt : k < xs.length
    · obtain ⟨b, off, rfl, hb, hcell⟩ := hcx (by omega)
      have hce : wr.cell? ⟨b, off + k, none⟩ = some (.int .u32 (xs.getD k 0)) := (hBr.cell (p := ⟨b, off + k, none⟩) hb).trans (hcell k hlt)
      have hSx := val_take_succ xs k
      have hSy := val_take_succ ys k
      have hXb := hzx.get k
      have hYb := hzy.get k
      have hay := at_any _ ys k wr (hy'.keep hBr) (by omega)
      generalize xs.getD k 0 = X at hXb hSx hce
      generalize ys.getD k 0 = Y at hYb hSy hay
      have hsub := sub32_any X Y c wr hXb hYb (by omega)
      obtain ⟨D, hD⟩ : ∃ D, D = (X - Y - c) % 4294967296 := ⟨_, rfl⟩
      obtain ⟨E, hE⟩ : ∃ E : Nat, (E : Int) = if X < Y + c then 1 else 0 := ⟨if X < Y + c then 1 else 0, by split <;> rfl⟩
      rw [← hD, ← hE] at hsub
      have hE1 : E ≤ 1 := by split at hE <;> omega
      have hD0 : 0 ≤ D ∧ D < 4294967296 := by omega
      have HS : Hid (val O + 4294967296 ^ k * D.toNat + val (ys.take (k + 1)) = val (xs.take (k + 1)) + 4294967296 * 4294967296 ^ k * E) := by
        show _ = _
        rw [hSx, hSy]
        exact sub_step hV (by split at hE <;> omega)
      have HV : Hid (val (O ++ [D]) + val (ys.take (k + 1)) = val (xs.take (k + 1)) + 4294967296 ^ (k + 1) * E) := by
        show _ = _
        rw [val_append, hOl, Nat.pow_succ, Nat.mul_comm (4294967296 ^ k) 4294967296, ← HS.out]; simp [val]
      obtain ⟨u1, hck1⟩ : ∃ u1, wr.cell? ⟨w.heap.size, k, none⟩ = some u1 := ⟨_, hOw.cell k (by simp; omega)⟩
      have hf0 := hOw.frozen k
      have hSt := hOw.store k hD0.1 hD0.2
      have hse := set_one O D (xs.length - (k + 1))
      rw [hOl, show xs.length - (k + 1) + 1 = xs.length - k from by omega] at hse
      rw [hse] at hSt
      have HSt : Hid _ := hSt
      clear hse hV hSx hSy hD hE hOw hcell hcx hx' hy' hT hSt
      go_wp2_with (first | (go_at_call 70; refine hay.mono ?_; rintro e w2 ⟨rfl, rfl⟩) | (go_at_call 71; refine hsub.mono ?_; rintro e w2 ⟨rfl, rfl⟩))
      go_roundw
      case rel => exact ⟨k + 1, E, O ++ [D], by omega, by go_num, rfl, hE1, by simp [hOl], HSt.out, HV.out, hBr.setCell (Nat.le_refl _) _⟩
      case measure => simp [intOf]; omega
    · have hkN : k = xs.length := by omega
      have hVE : val (O ++ List.replicate (xs.length - k) 0) = val xs - val ys := by
        rw [List.take_of_length_le (by omega), List.take_of_length_le (by omega)] at hV
        have hlt2 := val_lt (zs := O) (fun z hz => hOw.2.2 z (List.mem_append_left _ hz))
        rw [hOl] at hlt2
        rw [hkN, Nat.sub_self]
        simp
        exact sub_end hV hlt2 HLE.out hc1
      have hK := hT _ _ _ _ _ _ hOw hVE
      clear hVE hV hT hOw hcx
      go_wp2_with fail
      refine hK.mono ?_
      rintro e w2 ⟨a2, c2, rfl, hO2, rfl⟩
      clear hK
      go_wp2
      go_ret
      exact ⟨a2, c2, rfl, hO2, hBr⟩
end Go.Proofs.Ythgpacajeaphhaa
