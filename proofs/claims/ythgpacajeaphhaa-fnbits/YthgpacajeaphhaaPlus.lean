import Derived.Test.YthgpacajeaphhaaAdd
import Derived.Test.YthgpacajeaphhaaPrim
import Derived.Deep.RegionHeld3
namespace Go.Proofs.Ythgpacajeaphhaa
open Go.RowKit
set_option linter.unusedVariables false
set_option linter.unusedSimpArgs false

theorem set_two (O : List Int) (c d e : Int) (m : Nat) : ((O ++ c :: List.replicate (m + 1) 0).set O.length d).set (O.length + 1) e = (O ++ [d]) ++ e :: List.replicate m 0 := by
  rw [List.set_append_right _ _ (Nat.le_refl _), Nat.sub_self, List.set_cons_zero, List.set_append_right _ _ (by omega)]
  simp [List.replicate_succ]

set_option maxHeartbeats 2000000 in
set_option maxRecDepth 100000 in
theorem plus_any (v u : Value) (xs ys : List Int) (w : World) (hx : Rd w v xs) (hy : Rd w u ys) (hlx : xs.length ≤ 1048576) (hly : ys.length ≤ 1048576) :
    Calls Try.prog 39 #[v, u] w fun e w' => ∃ a c, e = .returned (.slice a (lim (val xs + val ys)).length c) ∧ Own w' w.heap.size (.slice a (lim (val xs + val ys)).length c) (lim (val xs + val ys)) ∧ Below w.heap.size w w' := by
  have hx' := hx
  have hy' := hy
  obtain ⟨a, cap, rfl, _, hzx, hnx, hcx⟩ := hx
  obtain ⟨a', cap', rfl, _, hzy, hny, hcy⟩ := hy
  clear hcx hcy hnx hny
  have hT := fun B n cp a W L (hO : Own W B (.slice a n cp) L) (he : val L = val xs + val ys) => he ▸ trimmed_any B n cp a L W hO
  generalize hQ : lim (val xs + val ys) = Q at hT ⊢
  clear hQ
  obtain ⟨i0, hi, hz0, hz1, hz2⟩ := info_parts Try.info49
  by_cases hcmp : xs.length < ys.length
  · skip
    go_enter Try.func39, Try.ntmps39
    go_wp2_with (at_make; refine wpList_make_full _ rfl _ _ 47 rfl w.heap.size 49 i0 (.int .u32 0) 1 Try.underlying47 hi hz0 hz1 .i64 .i64 _ _ (ys.length + 1) rfl rfl (by go_num) (by go_num) (by rw [hz2]; omega) (by unfold maxLen; omega) (Nat.le_refl _) ?_; intro w1 hown hgrow)
    have hO : Own w1 w.heap.size _ (List.replicate (ys.length + 1) 0) := Own.made (by omega) hown
    have hB : Below w.heap.size w w1 := (Below.refl _ _).grown hgrow (Nat.le_refl _) (by intro k h; cases h)
    clear hown hgrow
    go_loopw [7, 17] (fun _ i wr => ∃ (k c : Nat) (O : List Int), k ≤ ys.length ∧ i = .int .i64 k ∧ c ≤ 1 ∧ O.length = k ∧ Own wr w.heap.size (.slice (some ⟨w.heap.size, 0, none⟩) (ys.length + 1) (ys.length + 1)) (O ++ (c : Int) :: List.replicate (ys.length - k) 0) ∧ val O + 4294967296 ^ k * c = val (xs.take k) + val (ys.take k) ∧ Below w.heap.size w wr)
      (fun _ i _ => ys.length - (intOf i).toNat)
    case atStart => exact ⟨0, 0, [], Nat.zero_le _, rfl, by omega, rfl, by simpa [List.replicate_succ] using hO, by simp [val], hB⟩
    case round =>
      obtain ⟨k, c, O, hk, rfl, hc1, hOl, hOw, hV, hBr⟩ := hrel
      clear hO hB
      by_cases hlt : k < ys.length
      · have hSx := val_take_succ xs k
        have hSy := val_take_succ ys k
        have hXb := hzx.get k
        have hYb := hzy.get k
        have hax : AtC wr.drew (.slice a xs.length cap) k (xs.getD k 0) := at_any _ xs k wr.drew (hx'.keep hBr.drew) (by omega)
        have hay : AtC wr.drew (.slice a' ys.length cap') k (ys.getD k 0) := at_any _ ys k wr.drew (hy'.keep hBr.drew) (by omega)
        generalize xs.getD k 0 = X at hXb hSx hax
        generalize ys.getD k 0 = Y at hYb hSy hay
        have hadd := add32_any X Y c wr.drew hXb hYb (by omega)
        obtain ⟨D, hD⟩ : ∃ D, D = (X + Y + c) % 4294967296 := ⟨_, rfl⟩
        obtain ⟨E, hE⟩ : ∃ E : Nat, (E : Int) = (X + Y + c) / 4294967296 := ⟨((X + Y + c) / 4294967296).toNat, by omega⟩
        rw [← hD, ← hE] at hadd
        have hE1 : E ≤ 1 := by omega
        have hD0 : 0 ≤ D ∧ D < 4294967296 := by omega
        have HS : Hid (val O + 4294967296 ^ k * D.toNat + 4294967296 * 4294967296 ^ k * E = val (xs.take (k + 1)) + val (ys.take (k + 1))) := by
          show _ = _
          rw [hSx, hSy]
          exact add_step hV (by omega)
        have hll : (O ++ (c : Int) :: List.replicate (ys.length - k) 0).length = ys.length + 1 := by simp; omega
        have hck : wr.cell? ⟨w.heap.size, k, none⟩ = some (.int .u32 c) := by
          rw [hOw.cell k (by omega)]; simp [List.getD, ← hOl]
        obtain ⟨u1, hck1⟩ : ∃ u1, wr.cell? ⟨w.heap.size, k + 1, none⟩ = some u1 := ⟨_, hOw.cell (k + 1) (by omega)⟩
        have hf0 := hOw.frozen k
        have hf1 := hOw.frozen (k + 1)
        have hSt := (hOw.store k hD0.1 hD0.2).store (k + 1) (z := (E : Int)) (by omega) (by omega)
        have hse := set_two O c D E (ys.length - (k + 1))
        rw [hOl, show ys.length - (k + 1) + 1 = ys.length - k from by omega] at hse
        rw [hse] at hSt
        clear hse hV hSx hSy hD hE hll hOw
        have HSt : Hid _ := hSt
        have HV : Hid (val (O ++ [D]) + 4294967296 ^ (k + 1) * E = val (xs.take (k + 1)) + val (ys.take (k + 1))) := by
          show _ = _
          rw [val_append, hOl, Nat.pow_succ, Nat.mul_comm (4294967296 ^ k) 4294967296, ← HS.out]; simp [val]
        have HT : Hid _ := hT
        clear hSt hT hx' hy' hlx hly hzx hzy hi hz0 hz1 hz2
        have hi0 : (0 : Int) ≤ (k : Int) := by omega
        have hi1 : (k : Int) < (ys.length : Int) + 1 := by omega
        have hi2 : (k : Int) + 1 < (ys.length : Int) + 1 := by omega
        have hi3 : (0 : Int) ≤ (k : Int) + 1 := by omega
        have hi4 : (k : Int) < (ys.length : Int) := by omega
        have hi5 : ((k : Int) + 1).toNat = k + 1 := by omega
        have hi6 : IntKind.i64.wrap ((k : Int) + 1) = (k : Int) + 1 := by simp [IntKind.wrap, IntKind.bits, IntKind.signed]; omega
        go_wp2_with fail
        go_region_with (first | (go_at_call_of 70 (Value.slice a xs.length cap); refine (AtC.out hax).mono ?_; rintro e w2 ⟨rfl, rfl⟩) | (go_at_call_of 70 (Value.slice a' ys.length cap'); refine (AtC.out hay).mono ?_; rintro e w2 ⟨rfl, rfl⟩) | (go_at_call 69; refine hadd.mono ?_; rintro e w2 ⟨rfl, rfl⟩))
        all_goals go_wp2
        all_goals go_roundw
        all_goals first | exact ⟨k + 1, E, O ++ [D], by omega, by go_num, hE1, by simp [hOl], Own.drew HSt.out, HV.out, ((hBr.setCell (Nat.le_refl _) _).setCell (Nat.le_refl _) _).drew⟩ | (simp [intOf]; omega)
      · have hkN : k = ys.length := by omega
        have hVE : val (O ++ (c : Int) :: List.replicate (ys.length - k) 0) = val xs + val ys := by
          rw [List.take_of_length_le (by omega), List.take_of_length_le (by omega)] at hV
          rw [← hV, hkN, Nat.sub_self, val_append, hOl, hkN]; simp [val]
        have hK := hT _ _ _ _ _ _ hOw hVE
        clear hVE hV hT hOw
        go_wp2_with fail
        refine hK.mono ?_
        rintro e w2 ⟨a2, c2, rfl, hO2, rfl⟩
        clear hK
        go_wp2
        go_ret
        exact ⟨a2, c2, rfl, hO2, hBr⟩
  · skip
    go_enter Try.func39, Try.ntmps39
    go_wp2_with (at_make; refine wpList_make_full _ rfl _ _ 47 rfl w.heap.size 49 i0 (.int .u32 0) 1 Try.underlying47 hi hz0 hz1 .i64 .i64 _ _ (xs.length + 1) rfl rfl (by go_num) (by go_num) (by rw [hz2]; omega) (by unfold maxLen; omega) (Nat.le_refl _) ?_; intro w1 hown hgrow)
    have hO : Own w1 w.heap.size _ (List.replicate (xs.length + 1) 0) := Own.made (by omega) hown
    have hB : Below w.heap.size w w1 := (Below.refl _ _).grown hgrow (Nat.le_refl _) (by intro k h; cases h)
    clear hown hgrow
    go_loopw [7, 17] (fun _ i wr => ∃ (k c : Nat) (O : List Int), k ≤ xs.length ∧ i = .int .i64 k ∧ c ≤ 1 ∧ O.length = k ∧ Own wr w.heap.size (.slice (some ⟨w.heap.size, 0, none⟩) (xs.length + 1) (xs.length + 1)) (O ++ (c : Int) :: List.replicate (xs.length - k) 0) ∧ val O + 4294967296 ^ k * c = val (xs.take k) + val (ys.take k) ∧ Below w.heap.size w wr)
      (fun _ i _ => xs.length - (intOf i).toNat)
    case atStart => exact ⟨0, 0, [], Nat.zero_le _, rfl, by omega, rfl, by simpa [List.replicate_succ] using hO, by simp [val], hB⟩
    case round =>
      obtain ⟨k, c, O, hk, rfl, hc1, hOl, hOw, hV, hBr⟩ := hrel
      clear hO hB
      by_cases hlt : k < xs.length
      · have hSx := val_take_succ xs k
        have hSy := val_take_succ ys k
        have hXb := hzx.get k
        have hYb := hzy.get k
        have hax : AtC wr.drew (.slice a xs.length cap) k (xs.getD k 0) := at_any _ xs k wr.drew (hx'.keep hBr.drew) (by omega)
        have hay : AtC wr.drew (.slice a' ys.length cap') k (ys.getD k 0) := at_any _ ys k wr.drew (hy'.keep hBr.drew) (by omega)
        generalize xs.getD k 0 = X at hXb hSx hax
        generalize ys.getD k 0 = Y at hYb hSy hay
        have hadd := add32_any X Y c wr.drew hXb hYb (by omega)
        obtain ⟨D, hD⟩ : ∃ D, D = (X + Y + c) % 4294967296 := ⟨_, rfl⟩
        obtain ⟨E, hE⟩ : ∃ E : Nat, (E : Int) = (X + Y + c) / 4294967296 := ⟨((X + Y + c) / 4294967296).toNat, by omega⟩
        rw [← hD, ← hE] at hadd
        have hE1 : E ≤ 1 := by omega
        have hD0 : 0 ≤ D ∧ D < 4294967296 := by omega
        have HS : Hid (val O + 4294967296 ^ k * D.toNat + 4294967296 * 4294967296 ^ k * E = val (xs.take (k + 1)) + val (ys.take (k + 1))) := by
          show _ = _
          rw [hSx, hSy]
          exact add_step hV (by omega)
        have hll : (O ++ (c : Int) :: List.replicate (xs.length - k) 0).length = xs.length + 1 := by simp; omega
        have hck : wr.cell? ⟨w.heap.size, k, none⟩ = some (.int .u32 c) := by
          rw [hOw.cell k (by omega)]; simp [List.getD, ← hOl]
        obtain ⟨u1, hck1⟩ : ∃ u1, wr.cell? ⟨w.heap.size, k + 1, none⟩ = some u1 := ⟨_, hOw.cell (k + 1) (by omega)⟩
        have hf0 := hOw.frozen k
        have hf1 := hOw.frozen (k + 1)
        have hSt := (hOw.store k hD0.1 hD0.2).store (k + 1) (z := (E : Int)) (by omega) (by omega)
        have hse := set_two O c D E (xs.length - (k + 1))
        rw [hOl, show xs.length - (k + 1) + 1 = xs.length - k from by omega] at hse
        rw [hse] at hSt
        clear hse hV hSx hSy hD hE hll hOw
        have HSt : Hid _ := hSt
        have HV : Hid (val (O ++ [D]) + 4294967296 ^ (k + 1) * E = val (xs.take (k + 1)) + val (ys.take (k + 1))) := by
          show _ = _
          rw [val_append, hOl, Nat.pow_succ, Nat.mul_comm (4294967296 ^ k) 4294967296, ← HS.out]; simp [val]
        have HT : Hid _ := hT
        clear hSt hT hx' hy' hlx hly hzx hzy hi hz0 hz1 hz2
        have hi0 : (0 : Int) ≤ (k : Int) := by omega
        have hi1 : (k : Int) < (xs.length : Int) + 1 := by omega
        have hi2 : (k : Int) + 1 < (xs.length : Int) + 1 := by omega
        have hi3 : (0 : Int) ≤ (k : Int) + 1 := by omega
        have hi4 : (k : Int) < (xs.length : Int) := by omega
        have hi5 : ((k : Int) + 1).toNat = k + 1 := by omega
        have hi6 : IntKind.i64.wrap ((k : Int) + 1) = (k : Int) + 1 := by simp [IntKind.wrap, IntKind.bits, IntKind.signed]; omega
        go_wp2_with fail
        go_region_with (first | (go_at_call_of 70 (Value.slice a xs.length cap); refine (AtC.out hax).mono ?_; rintro e w2 ⟨rfl, rfl⟩) | (go_at_call_of 70 (Value.slice a' ys.length cap'); refine (AtC.out hay).mono ?_; rintro e w2 ⟨rfl, rfl⟩) | (go_at_call 69; refine hadd.mono ?_; rintro e w2 ⟨rfl, rfl⟩))
        all_goals go_wp2
        all_goals go_roundw
        all_goals first | exact ⟨k + 1, E, O ++ [D], by omega, by go_num, hE1, by simp [hOl], Own.drew HSt.out, HV.out, ((hBr.setCell (Nat.le_refl _) _).setCell (Nat.le_refl _) _).drew⟩ | (simp [intOf]; omega)
      · have hkN : k = xs.length := by omega
        have hVE : val (O ++ (c : Int) :: List.replicate (xs.length - k) 0) = val xs + val ys := by
          rw [List.take_of_length_le (by omega), List.take_of_length_le (by omega)] at hV
          rw [← hV, hkN, Nat.sub_self, val_append, hOl, hkN]; simp [val]
        have hK := hT _ _ _ _ _ _ hOw hVE
        clear hVE hV hT hOw
        go_wp2_with fail
        refine hK.mono ?_
        rintro e w2 ⟨a2, c2, rfl, hO2, rfl⟩
        clear hK
        go_wp2
        go_ret
        exact ⟨a2, c2, rfl, hO2, hBr⟩
end Go.Proofs.Ythgpacajeaphhaa
