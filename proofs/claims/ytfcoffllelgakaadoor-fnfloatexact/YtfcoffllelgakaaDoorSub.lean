import Derived.Test.YtfcoffllelgakaaDoorAdd
namespace Go.Proofs.YtfcoffllelgakaaDoor
open Go.RowKit
set_option linter.unusedVariables false
set_option linter.unusedSimpArgs false

/-- One step of a difference, limb by limb. -/
theorem sub_step {V A B P b x y d e : Nat} (h : V + B = A + P * b) (hd : d + y + b = x + 4294967296 * e) : V + P * d + (B + P * y) = A + P * x + 4294967296 * P * e := by
  have h1 : P * (d + y + b) = P * (x + 4294967296 * e) := by rw [hd]
  have h2 : P * (x + 4294967296 * e) = P * x + 4294967296 * P * e := by rw [Nat.mul_add, ← Nat.mul_assoc, Nat.mul_comm P 4294967296]
  have h3 : P * (d + y + b) = P * d + P * y + P * b := by rw [Nat.mul_add, Nat.mul_add]
  omega

theorem sub_end {V X Y P b : Nat} (h : V + Y = X + P * b) (hV : V < P) (hYX : Y ≤ X) (hb : b ≤ 1) : V = X - Y := by
  have : b = 0 ∨ b = 1 := by omega
  rcases this with rfl | rfl
  · omega
  · omega

set_option maxHeartbeats 1000000 in
set_option maxRecDepth 100000 in
theorem subMag_any (v u : Value) (xs ys : List Int) (w : World) (hx : Rd w v xs) (hy : Rd w u ys) (hlx : xs.length ≤ 1048576) (hlen : ys.length ≤ xs.length) (hle : val ys ≤ val xs) :
    Calls Tryd.prog 82 #[v, u] w fun e w' => ∃ a c, e = .returned (.slice a (lim (val xs - val ys)).length c) ∧ Own w' w.heap.size (.slice a (lim (val xs - val ys)).length c) (lim (val xs - val ys)) ∧ Below w.heap.size w w' := by
  obtain ⟨a, cap, rfl, _, hzx, hnx, hcx⟩ := hx
  obtain ⟨a', cap', rfl, _, hzy, hny, hcy⟩ := hy
  have hT := fun W v L (hr : Rd W v L) (he : val L = val xs - val ys) => he ▸ trimS_any v L W hr
  generalize hQ : lim (val xs - val ys) = Q at hT ⊢
  clear hQ
  have HLE : Hid (val ys ≤ val xs) := hle
  clear hle
  go_enter Tryd.func82, Tryd.ntmps82
  go_wp2
  go_loopw [5, 6, 7, 8] (fun o q i _ wr => ∃ (k : Nat) (c : Nat) (O : List Int) (ao : Option Addr) (co : Nat), k ≤ xs.length ∧ i = .int .i64 k ∧ q = .int .i64 c ∧ c ≤ 1 ∧ o = .slice ao O.length co ∧ O.length = k ∧ Own wr w.heap.size (.slice ao O.length co) O ∧ val O + val (ys.take k) = val (xs.take k) + 4294967296 ^ k * c ∧ Below w.heap.size w wr)
    (fun _ _ i _ _ => xs.length - (intOf i).toNat)
  case atStart => exact ⟨0, 0, [], _, _, by omega, rfl, rfl, by omega, rfl, rfl, Own.empty w, by simp [val], (Below.refl _ _).alloc (Nat.le_refl _) _⟩
  case round =>
    obtain ⟨k, c, O, ao, co, hk, rfl, rfl, hc1, rfl, hO, hOw, hV, hBr⟩ := hrel
    have hSx := val_take_succ xs k
    have hSy := val_take_succ ys k
    by_cases hkx : k < xs.length
    · obtain ⟨b, off, rfl, hb, hcell⟩ := hcx (by omega)
      have hce : wr.cell? ⟨b, off + k, none⟩ = some (.int .u32 (xs.getD k 0)) := (hBr.cell (p := ⟨b, off + k, none⟩) hb).trans (hcell k hkx)
      have hXb := hzx.get k
      generalize hX : xs.getD k 0 = X at hce hXb hSx
      clear hX hcell hcx
      by_cases hky : k < ys.length
      · obtain ⟨b', off', rfl, hb', hcell'⟩ := hcy (by omega)
        have hce' : wr.cell? ⟨b', off' + k, none⟩ = some (.int .u32 (ys.getD k 0)) := (hBr.cell (p := ⟨b', off' + k, none⟩) hb').trans (hcell' k hky)
        have hYb := hzy.get k
        generalize hY : ys.getD k 0 = Y at hce' hYb hSy
        clear hY hcell' hcy
        by_cases hneg : X - (c : Int) - Y < 0
        · skip
          have HS : Hid (val O + 4294967296 ^ k * (X - (c : Int) - Y + 4294967296).toNat + val (ys.take (k + 1)) = val (xs.take (k + 1)) + 4294967296 * 4294967296 ^ k * 1) := by
            show _ = _
            rw [hSx, hSy]
            exact sub_step hV (by omega)
          have hD0 : 0 ≤ X - (c : Int) - Y + 4294967296 := by omega
          have hD1 : X - (c : Int) - Y + 4294967296 < 4294967296 := by omega
          clear hV hSx hSy
          go_wp2_with (at_builtin; refine wpList_append_rd rfl _ _ 22 rfl Tryd.underlying22 w.heap.size _ _ O [X - (c : Int) - Y + 4294967296] rfl rfl (hOw.alloc _) (Rd.one wr wr.heap.size rfl 48 hD0 hD1) (by simp; omega) (by have := hBr.size; simp; omega) ?_; intro a1 c1 w1 hO1 hB1)
          have hB2 := (hBr.alloc hBr.size (Obj.cells #[.int .u32 (X - (c : Int) - Y + 4294967296)] 48)).trans hB1
          have hln : (O ++ [X - (c : Int) - Y + 4294967296]).length = k + 1 := by simp [hO]
          go_roundw
          case rel =>
            refine ⟨k + 1, 1, O ++ [X - (c : Int) - Y + 4294967296], a1, c1, by omega, by go_num, by go_num, by omega, by rw [hln], hln, hO1, ?_, hB2⟩
            rw [val_append, hO, Nat.pow_succ, Nat.mul_comm (4294967296 ^ k) 4294967296, ← HS.out]; simp [val]
          case measure => simp [intOf]; omega
        · skip
          have HS : Hid (val O + 4294967296 ^ k * (X - (c : Int) - Y).toNat + val (ys.take (k + 1)) = val (xs.take (k + 1)) + 4294967296 * 4294967296 ^ k * 0) := by
            show _ = _
            rw [hSx, hSy]
            exact sub_step hV (by omega)
          have hD0 : 0 ≤ X - (c : Int) - Y := by omega
          have hD1 : X - (c : Int) - Y < 4294967296 := by omega
          clear hV hSx hSy
          go_wp2_with (at_builtin; refine wpList_append_rd rfl _ _ 22 rfl Tryd.underlying22 w.heap.size _ _ O [X - (c : Int) - Y] rfl rfl (hOw.alloc _) (Rd.one wr wr.heap.size rfl 48 hD0 hD1) (by simp; omega) (by have := hBr.size; simp; omega) ?_; intro a1 c1 w1 hO1 hB1)
          have hB2 := (hBr.alloc hBr.size (Obj.cells #[.int .u32 (X - (c : Int) - Y)] 48)).trans hB1
          have hln : (O ++ [X - (c : Int) - Y]).length = k + 1 := by simp [hO]
          go_roundw
          case rel =>
            refine ⟨k + 1, 0, O ++ [X - (c : Int) - Y], a1, c1, by omega, by go_num, by go_num, by omega, by rw [hln], hln, hO1, ?_, hB2⟩
            rw [val_append, hO, Nat.pow_succ, Nat.mul_comm (4294967296 ^ k) 4294967296, ← HS.out]; simp [val]
          case measure => simp [intOf]; omega
      · have hY0 : ys.getD k 0 = 0 := by simp [List.getD, List.getElem?_eq_none (by omega : ys.length ≤ k)]
        rw [hY0] at hSy
        clear hY0 hcy
        by_cases hneg : X - (c : Int) < 0
        · skip
          have HS : Hid (val O + 4294967296 ^ k * (X - (c : Int) + 4294967296).toNat + val (ys.take (k + 1)) = val (xs.take (k + 1)) + 4294967296 * 4294967296 ^ k * 1) := by
            show _ = _
            rw [hSx, hSy]
            exact sub_step hV (by omega)
          have hD0 : 0 ≤ X - (c : Int) + 4294967296 := by omega
          have hD1 : X - (c : Int) + 4294967296 < 4294967296 := by omega
          clear hV hSx hSy
          go_wp2_with (at_builtin; refine wpList_append_rd rfl _ _ 22 rfl Tryd.underlying22 w.heap.size _ _ O [X - (c : Int) + 4294967296] rfl rfl (hOw.alloc _) (Rd.one wr wr.heap.size rfl 48 hD0 hD1) (by simp; omega) (by have := hBr.size; simp; omega) ?_; intro a1 c1 w1 hO1 hB1)
          have hB2 := (hBr.alloc hBr.size (Obj.cells #[.int .u32 (X - (c : Int) + 4294967296)] 48)).trans hB1
          have hln : (O ++ [X - (c : Int) + 4294967296]).length = k + 1 := by simp [hO]
          go_roundw
          case rel =>
            refine ⟨k + 1, 1, O ++ [X - (c : Int) + 4294967296], a1, c1, by omega, by go_num, by go_num, by omega, by rw [hln], hln, hO1, ?_, hB2⟩
            rw [val_append, hO, Nat.pow_succ, Nat.mul_comm (4294967296 ^ k) 4294967296, ← HS.out]; simp [val]
          case measure => simp [intOf]; omega
        · skip
          have HS : Hid (val O + 4294967296 ^ k * (X - (c : Int)).toNat + val (ys.take (k + 1)) = val (xs.take (k + 1)) + 4294967296 * 4294967296 ^ k * 0) := by
            show _ = _
            rw [hSx, hSy]
            exact sub_step hV (by omega)
          have hD0 : 0 ≤ X - (c : Int) := by omega
          have hD1 : X - (c : Int) < 4294967296 := by omega
          clear hV hSx hSy
          go_wp2_with (at_builtin; refine wpList_append_rd rfl _ _ 22 rfl Tryd.underlying22 w.heap.size _ _ O [X - (c : Int)] rfl rfl (hOw.alloc _) (Rd.one wr wr.heap.size rfl 48 hD0 hD1) (by simp; omega) (by have := hBr.size; simp; omega) ?_; intro a1 c1 w1 hO1 hB1)
          have hB2 := (hBr.alloc hBr.size (Obj.cells #[.int .u32 (X - (c : Int))] 48)).trans hB1
          have hln : (O ++ [X - (c : Int)]).length = k + 1 := by simp [hO]
          go_roundw
          case rel =>
            refine ⟨k + 1, 0, O ++ [X - (c : Int)], a1, c1, by omega, by go_num, by go_num, by omega, by rw [hln], hln, hO1, ?_, hB2⟩
            rw [val_append, hO, Nat.pow_succ, Nat.mul_comm (4294967296 ^ k) 4294967296, ← HS.out]; simp [val]
          case measure => simp [intOf]; omega
    · have hE : val O = val xs - val ys := by
        rw [List.take_of_length_le (by omega), List.take_of_length_le (by omega)] at hV
        have := val_lt hOw.2.2
        rw [hO] at this
        exact sub_end hV this HLE.out hc1
      have HE : Hid (val O = val xs - val ys) := hE
      clear hE hSx hSy hV hcx hcy
      have hOw' := hOw
      rw [hO] at hOw'
      go_wp2_with fail
      refine (hT _ _ _ hOw'.rd HE.out).mono ?_
      rintro e w2 ⟨a2, c2, rfl, hO2, hB2⟩
      clear hT
      go_wp2
      go_ret
      exact ⟨a2, c2, rfl, hO2.mono hBr.size, hBr.trans (hB2.mono hBr.size)⟩
end Go.Proofs.YtfcoffllelgakaaDoor
