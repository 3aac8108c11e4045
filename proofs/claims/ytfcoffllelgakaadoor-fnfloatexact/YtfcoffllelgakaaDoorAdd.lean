import Derived.Test.YtfcoffllelgakaaDoorTrim
import Derived.Laws.MathBits
namespace Go.Proofs.YtfcoffllelgakaaDoor
open Go.RowKit
set_option linter.unusedVariables false
set_option linter.unusedSimpArgs false

theorem val_take_succ (zs : List Int) (k : Nat) : val (zs.take (k + 1)) = val (zs.take k) + 4294967296 ^ k * (zs.getD k 0).toNat := by
  by_cases hk : k < zs.length
  · rw [take_succ_getD zs k hk, val_append]
    have : (zs.take k).length = k := by simp; omega
    rw [this]; simp [val]
  · rw [List.take_of_length_le (by omega), List.take_of_length_le (by omega)]
    have : zs.getD k 0 = 0 := by simp [List.getD, List.getElem?_eq_none (by omega : zs.length ≤ k)]
    rw [this]; simp

/-- One step of a sum, limb by limb. -/
theorem add_step {V A B P c x y d e : Nat} (h : V + P * c = A + B) (hd : d + 4294967296 * e = c + x + y) : V + P * d + 4294967296 * P * e = A + P * x + (B + P * y) := by
  have h1 : P * (d + 4294967296 * e) = P * (c + x + y) := by rw [hd]
  have h2 : P * (d + 4294967296 * e) = P * d + 4294967296 * P * e := by rw [Nat.mul_add, ← Nat.mul_assoc, Nat.mul_comm P 4294967296]
  have h3 : P * (c + x + y) = P * c + P * x + P * y := by rw [Nat.mul_add, Nat.mul_add]
  omega

theorem low32' {u : Int} (h0 : 0 ≤ u) (h1 : u ≤ 18446744073709551615) : bits .and .u64 u 4294967295 = u % 4294967296 := and_low32 u h0 (by omega)

set_option maxHeartbeats 1000000 in
set_option maxRecDepth 100000 in
theorem addMag_any (v u : Value) (xs ys : List Int) (w : World) (hx : Rd w v xs) (hy : Rd w u ys) (hlx : xs.length ≤ 1048576) (hly : ys.length ≤ 1048576) :
    Calls Tryd.prog 57 #[v, u] w fun e w' => ∃ a c, e = .returned (.slice a (lim (val xs + val ys)).length c) ∧ Own w' w.heap.size (.slice a (lim (val xs + val ys)).length c) (lim (val xs + val ys)) ∧ Below w.heap.size w w' := by
  obtain ⟨a, cap, rfl, _, hzx, hnx, hcx⟩ := hx
  obtain ⟨a', cap', rfl, _, hzy, hny, hcy⟩ := hy
  have hT := fun W v L (hr : Rd W v L) (he : val L = val xs + val ys) => he ▸ trimS_any v L W hr
  generalize hQ : lim (val xs + val ys) = Q at hT ⊢
  have HQ : Hid (lim (val xs + val ys) = Q) := hQ
  clear hQ
  go_enter Tryd.func57, Tryd.ntmps57
  go_wp2
  go_loopw [5, 6, 7] (fun o q i wr => ∃ (k : Nat) (c : Nat) (O : List Int) (ao : Option Addr) (co : Nat), k ≤ 1048576 ∧ (k ≤ xs.length ∨ k ≤ ys.length) ∧ i = .int .i64 k ∧ q = .int .u64 c ∧ c ≤ 1 ∧ o = .slice ao O.length co ∧ O.length = k ∧ Own wr w.heap.size (.slice ao O.length co) O ∧ val O + 4294967296 ^ k * c = val (xs.take k) + val (ys.take k) ∧ Below w.heap.size w wr)
    (fun _ _ i _ => (max xs.length ys.length) - (intOf i).toNat)
  case atStart => exact ⟨0, 0, [], _, _, by omega, .inl (Nat.zero_le _), rfl, rfl, by omega, rfl, rfl, Own.empty w, by simp [val], (Below.refl _ _).alloc (Nat.le_refl _) _⟩
  case round =>
    obtain ⟨k, c, O, ao, co, hk, hkk, rfl, rfl, hc1, rfl, hO, hOw, hV, hBr⟩ := hrel
    have hSx := val_take_succ xs k
    have hSy := val_take_succ ys k
    by_cases hkx : k < xs.length
    · by_cases hky : k < ys.length
      · skip
        obtain ⟨b, off, rfl, hb, hcell⟩ := hcx (by omega)
        have hce : wr.cell? ⟨b, off + k, none⟩ = some (.int .u32 (xs.getD k 0)) := (hBr.cell (p := ⟨b, off + k, none⟩) hb).trans (hcell k hkx)
        have hXb := hzx.get k
        generalize hX : xs.getD k 0 = X at hce hXb hSx
        clear hX hcell hcx
        obtain ⟨b', off', rfl, hb', hcell'⟩ := hcy (by omega)
        have hce' : wr.cell? ⟨b', off' + k, none⟩ = some (.int .u32 (ys.getD k 0)) := (hBr.cell (p := ⟨b', off' + k, none⟩) hb').trans (hcell' k hky)
        have hYb := hzy.get k
        generalize hY : ys.getD k 0 = Y at hce' hYb hSy
        clear hY hcell' hcy
        have hand := low32' (u := (c : Int) + X + Y) (by omega) (by omega)
        obtain ⟨D, hD⟩ : ∃ D, D = ((c : Int) + X + Y) % 4294967296 := ⟨_, rfl⟩
        obtain ⟨E, hE⟩ : ∃ E : Nat, (E : Int) = ((c : Int) + X + Y) / 4294967296 := ⟨(((c : Int) + X + Y) / 4294967296).toNat, by omega⟩
        rw [← hD] at hand
        have hD0 : 0 ≤ D := by omega
        have hD1 : D < 4294967296 := by omega
        have hE1 : E ≤ 1 := by omega
        have HS : Hid (val O + 4294967296 ^ k * D.toNat + 4294967296 * 4294967296 ^ k * E = val (xs.take (k + 1)) + val (ys.take (k + 1))) := by
          show _ = _
          rw [hSx, hSy]
          exact add_step hV (by omega)
        have HE : Hid ((E : Int) = ((c : Int) + X + Y) / 4294967296) := hE
        clear hV hSx hSy hD hE
        go_wp2_with (at_builtin; refine wpList_append_rd rfl _ _ 22 rfl Tryd.underlying22 w.heap.size _ _ O [D] rfl rfl (hOw.alloc _) (Rd.one wr wr.heap.size rfl 48 hD0 hD1) (by simp; omega) (by have := hBr.size; simp; omega) ?_; intro a1 c1 w1 hO1 hB1)
        have hB2 := (hBr.alloc hBr.size (Obj.cells #[.int .u32 D] 48)).trans hB1
        have hln : (O ++ [D]).length = k + 1 := by simp [hO]
        go_roundw
        case rel =>
          refine ⟨k + 1, E, O ++ [D], a1, c1, by omega, by omega, by go_num, ?_, hE1, by rw [hln], hln, hO1, ?_, hB2⟩
          · rw [HE.out]
          · rw [val_append, hO, Nat.pow_succ, Nat.mul_comm (4294967296 ^ k) 4294967296, ← HS.out]; simp [val]
        case measure => simp [intOf]; omega
      · skip
        obtain ⟨b, off, rfl, hb, hcell⟩ := hcx (by omega)
        have hce : wr.cell? ⟨b, off + k, none⟩ = some (.int .u32 (xs.getD k 0)) := (hBr.cell (p := ⟨b, off + k, none⟩) hb).trans (hcell k hkx)
        have hXb := hzx.get k
        generalize hX : xs.getD k 0 = X at hce hXb hSx
        clear hX hcell hcx
        have hY0 : ys.getD k 0 = 0 := by simp [List.getD, List.getElem?_eq_none (by omega : ys.length ≤ k)]
        rw [hY0] at hSy
        clear hY0 hcy
        have hand := low32' (u := (c : Int) + X) (by omega) (by omega)
        obtain ⟨D, hD⟩ : ∃ D, D = ((c : Int) + X) % 4294967296 := ⟨_, rfl⟩
        obtain ⟨E, hE⟩ : ∃ E : Nat, (E : Int) = ((c : Int) + X) / 4294967296 := ⟨(((c : Int) + X) / 4294967296).toNat, by omega⟩
        rw [← hD] at hand
        have hD0 : 0 ≤ D := by omega
        have hD1 : D < 4294967296 := by omega
        have hE1 : E ≤ 1 := by omega
        have HS : Hid (val O + 4294967296 ^ k * D.toNat + 4294967296 * 4294967296 ^ k * E = val (xs.take (k + 1)) + val (ys.take (k + 1))) := by
          show _ = _
          rw [hSx, hSy]
          exact add_step hV (by omega)
        have HE : Hid ((E : Int) = ((c : Int) + X) / 4294967296) := hE
        clear hV hSx hSy hD hE
        go_wp2_with (at_builtin; refine wpList_append_rd rfl _ _ 22 rfl Tryd.underlying22 w.heap.size _ _ O [D] rfl rfl (hOw.alloc _) (Rd.one wr wr.heap.size rfl 48 hD0 hD1) (by simp; omega) (by have := hBr.size; simp; omega) ?_; intro a1 c1 w1 hO1 hB1)
        have hB2 := (hBr.alloc hBr.size (Obj.cells #[.int .u32 D] 48)).trans hB1
        have hln : (O ++ [D]).length = k + 1 := by simp [hO]
        go_roundw
        case rel =>
          refine ⟨k + 1, E, O ++ [D], a1, c1, by omega, by omega, by go_num, ?_, hE1, by rw [hln], hln, hO1, ?_, hB2⟩
          · rw [HE.out]
          · rw [val_append, hO, Nat.pow_succ, Nat.mul_comm (4294967296 ^ k) 4294967296, ← HS.out]; simp [val]
        case measure => simp [intOf]; omega
    · by_cases hky : k < ys.length
      · skip
        have hX0 : xs.getD k 0 = 0 := by simp [List.getD, List.getElem?_eq_none (by omega : xs.length ≤ k)]
        rw [hX0] at hSx
        clear hX0 hcx
        obtain ⟨b', off', rfl, hb', hcell'⟩ := hcy (by omega)
        have hce' : wr.cell? ⟨b', off' + k, none⟩ = some (.int .u32 (ys.getD k 0)) := (hBr.cell (p := ⟨b', off' + k, none⟩) hb').trans (hcell' k hky)
        have hYb := hzy.get k
        generalize hY : ys.getD k 0 = Y at hce' hYb hSy
        clear hY hcell' hcy
        have hand := low32' (u := (c : Int) + Y) (by omega) (by omega)
        obtain ⟨D, hD⟩ : ∃ D, D = ((c : Int) + Y) % 4294967296 := ⟨_, rfl⟩
        obtain ⟨E, hE⟩ : ∃ E : Nat, (E : Int) = ((c : Int) + Y) / 4294967296 := ⟨(((c : Int) + Y) / 4294967296).toNat, by omega⟩
        rw [← hD] at hand
        have hD0 : 0 ≤ D := by omega
        have hD1 : D < 4294967296 := by omega
        have hE1 : E ≤ 1 := by omega
        have HS : Hid (val O + 4294967296 ^ k * D.toNat + 4294967296 * 4294967296 ^ k * E = val (xs.take (k + 1)) + val (ys.take (k + 1))) := by
          show _ = _
          rw [hSx, hSy]
          exact add_step hV (by omega)
        have HE : Hid ((E : Int) = ((c : Int) + Y) / 4294967296) := hE
        clear hV hSx hSy hD hE
        go_wp2_with (at_builtin; refine wpList_append_rd rfl _ _ 22 rfl Tryd.underlying22 w.heap.size _ _ O [D] rfl rfl (hOw.alloc _) (Rd.one wr wr.heap.size rfl 48 hD0 hD1) (by simp; omega) (by have := hBr.size; simp; omega) ?_; intro a1 c1 w1 hO1 hB1)
        have hB2 := (hBr.alloc hBr.size (Obj.cells #[.int .u32 D] 48)).trans hB1
        have hln : (O ++ [D]).length = k + 1 := by simp [hO]
        go_roundw
        case rel =>
          refine ⟨k + 1, E, O ++ [D], a1, c1, by omega, by omega, by go_num, ?_, hE1, by rw [hln], hln, hO1, ?_, hB2⟩
          · rw [HE.out]
          · rw [val_append, hO, Nat.pow_succ, Nat.mul_comm (4294967296 ^ k) 4294967296, ← HS.out]; simp [val]
        case measure => simp [intOf]; omega
      · have hE : val (O ++ [(c : Int)]) = val xs + val ys := by
          rw [List.take_of_length_le (by omega), List.take_of_length_le (by omega)] at hV
          rw [val_append, hO, ← hV]; simp [val]
        have HE : Hid (val (O ++ [(c : Int)]) = val xs + val ys) := hE
        clear hE hSx hSy hV hcx hcy
        go_wp2_with (at_builtin; refine wpList_append_rd rfl _ _ 22 rfl Tryd.underlying22 w.heap.size _ _ O [(c : Int)] rfl rfl (hOw.alloc _) (Rd.one wr wr.heap.size rfl 48 (by omega) (by omega)) (by simp; omega) (by have := hBr.size; simp; omega) ?_; intro a1 c1 w1 hO1 hB1)
        have hO1' := hO1
        rw [show (O ++ [(c : Int)]).length = k + 1 from by simp [hO]] at hO1'
        refine (hT _ _ _ hO1'.rd HE.out).mono ?_
        rintro e w2 ⟨a2, c2, rfl, hO2, hB2⟩
        clear hT
        go_wp2
        go_ret
        have hs : w.heap.size ≤ w1.heap.size := by have := hB1.size; have := hBr.size; simp at *; omega
        exact ⟨a2, c2, rfl, hO2.mono hs, ((hBr.alloc hBr.size _).trans hB1).trans (hB2.mono hs)⟩
end Go.Proofs.YtfcoffllelgakaaDoor
