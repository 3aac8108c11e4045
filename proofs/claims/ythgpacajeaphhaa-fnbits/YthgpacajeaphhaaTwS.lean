import Derived.Test.YthgpacajeaphhaaPwD
import Derived.Test.YthgpacajeaphhaaSum
namespace Go.Proofs.Ythgpacajeaphhaa
open Go.RowKit
set_option linter.unusedVariables false
set_option linter.unusedSimpArgs false

set_option maxHeartbeats 1000000 in
set_option maxRecDepth 100000 in
/-- l1SubMag of any two rows of limbs: some row. -/
theorem subW_any (v u : Value) (xs ys : List Int) (w : World) (hx : Rd w v xs) (hy : Rd w u ys) (hlx : xs.length ≤ 1048576) :
    Calls Try.prog 74 #[v, u] w fun e w' => ∃ a c L, e = .returned (.slice a L.length c) ∧ Own w' w.heap.size (.slice a L.length c) L ∧ Below w.heap.size w w' := by
  obtain ⟨a, cap, rfl, _, hzx, hnx, hcx⟩ := hx
  obtain ⟨a', cap', rfl, _, hzy, hny, hcy⟩ := hy
  have hT := fun W v L (hr : Rd W v L) => trimS_any v L W hr
  go_enter Try.func74, Try.ntmps74
  go_wp2
  go_loopw [5, 6, 7, 8] (fun o q i _ wr => ∃ (k : Nat) (c : Nat) (O : List Int) (ao : Option Addr) (co : Nat), k ≤ xs.length ∧ i = .int .i64 k ∧ q = .int .i64 c ∧ c ≤ 1 ∧ o = .slice ao O.length co ∧ O.length = k ∧ Own wr w.heap.size (.slice ao O.length co) O ∧ Below w.heap.size w wr)
    (fun _ _ i _ _ => xs.length - (intOf i).toNat)
  case atStart => exact ⟨0, 0, [], _, _, by omega, rfl, rfl, by omega, rfl, rfl, Own.empty w, (Below.refl _ _).alloc (Nat.le_refl _) _⟩
  case round =>
    obtain ⟨k, c, O, ao, co, hk, rfl, rfl, hc1, rfl, hO, hOw, hBr⟩ := hrel
    by_cases hkx : k < xs.length
    · obtain ⟨b, off, rfl, hb, hcell⟩ := hcx (by omega)
      have hce : wr.cell? ⟨b, off + k, none⟩ = some (.int .u32 (xs.getD k 0)) := (hBr.cell (p := ⟨b, off + k, none⟩) hb).trans (hcell k hkx)
      have hXb := hzx.get k
      generalize xs.getD k 0 = X at hce hXb
      clear hcell hcx
      by_cases hky : k < ys.length
      · obtain ⟨b', off', rfl, hb', hcell'⟩ := hcy (by omega)
        have hce' : wr.cell? ⟨b', off' + k, none⟩ = some (.int .u32 (ys.getD k 0)) := (hBr.cell (p := ⟨b', off' + k, none⟩) hb').trans (hcell' k hky)
        have hYb := hzy.get k
        generalize ys.getD k 0 = Y at hce' hYb
        clear hcell' hcy
        by_cases hneg : X - (c : Int) - Y < 0
        · have hD0 : 0 ≤ X - (c : Int) - Y + 4294967296 := by omega
          have hD1 : X - (c : Int) - Y + 4294967296 < 4294967296 := by omega
          go_wp2_with (at_builtin; refine wpList_append_rd rfl _ _ 24 rfl Try.underlying24 w.heap.size _ _ O [X - (c : Int) - Y + 4294967296] rfl rfl (hOw.alloc _) (Rd.one wr wr.heap.size rfl 49 hD0 hD1) (by simp; omega) (by have := hBr.size; simp; omega) ?_; intro a1 c1 w1 hO1 hB1)
          have hB2 := (hBr.alloc hBr.size (Obj.cells #[.int .u32 (X - (c : Int) - Y + 4294967296)] 49)).trans hB1
          have hln : (O ++ [X - (c : Int) - Y + 4294967296]).length = k + 1 := by simp [hO]
          go_roundw
          case rel => exact ⟨k + 1, 1, O ++ [X - (c : Int) - Y + 4294967296], a1, c1, by omega, by go_num, by go_num, by omega, by rw [hln], hln, hO1, hB2⟩
          case measure => simp [intOf]; omega
        · have hD0 : 0 ≤ X - (c : Int) - Y := by omega
          have hD1 : X - (c : Int) - Y < 4294967296 := by omega
          go_wp2_with (at_builtin; refine wpList_append_rd rfl _ _ 24 rfl Try.underlying24 w.heap.size _ _ O [X - (c : Int) - Y] rfl rfl (hOw.alloc _) (Rd.one wr wr.heap.size rfl 49 hD0 hD1) (by simp; omega) (by have := hBr.size; simp; omega) ?_; intro a1 c1 w1 hO1 hB1)
          have hB2 := (hBr.alloc hBr.size (Obj.cells #[.int .u32 (X - (c : Int) - Y)] 49)).trans hB1
          have hln : (O ++ [X - (c : Int) - Y]).length = k + 1 := by simp [hO]
          go_roundw
          case rel => exact ⟨k + 1, 0, O ++ [X - (c : Int) - Y], a1, c1, by omega, by go_num, by go_num, by omega, by rw [hln], hln, hO1, hB2⟩
          case measure => simp [intOf]; omega
      · clear hcy
        by_cases hneg : X - (c : Int) < 0
        · have hD0 : 0 ≤ X - (c : Int) + 4294967296 := by omega
          have hD1 : X - (c : Int) + 4294967296 < 4294967296 := by omega
          go_wp2_with (at_builtin; refine wpList_append_rd rfl _ _ 24 rfl Try.underlying24 w.heap.size _ _ O [X - (c : Int) + 4294967296] rfl rfl (hOw.alloc _) (Rd.one wr wr.heap.size rfl 49 hD0 hD1) (by simp; omega) (by have := hBr.size; simp; omega) ?_; intro a1 c1 w1 hO1 hB1)
          have hB2 := (hBr.alloc hBr.size (Obj.cells #[.int .u32 (X - (c : Int) + 4294967296)] 49)).trans hB1
          have hln : (O ++ [X - (c : Int) + 4294967296]).length = k + 1 := by simp [hO]
          go_roundw
          case rel => exact ⟨k + 1, 1, O ++ [X - (c : Int) + 4294967296], a1, c1, by omega, by go_num, by go_num, by omega, by rw [hln], hln, hO1, hB2⟩
          case measure => simp [intOf]; omega
        · have hD0 : 0 ≤ X - (c : Int) := by omega
          have hD1 : X - (c : Int) < 4294967296 := by omega
          go_wp2_with (at_builtin; refine wpList_append_rd rfl _ _ 24 rfl Try.underlying24 w.heap.size _ _ O [X - (c : Int)] rfl rfl (hOw.alloc _) (Rd.one wr wr.heap.size rfl 49 hD0 hD1) (by simp; omega) (by have := hBr.size; simp; omega) ?_; intro a1 c1 w1 hO1 hB1)
          have hB2 := (hBr.alloc hBr.size (Obj.cells #[.int .u32 (X - (c : Int))] 49)).trans hB1
          have hln : (O ++ [X - (c : Int)]).length = k + 1 := by simp [hO]
          go_roundw
          case rel => exact ⟨k + 1, 0, O ++ [X - (c : Int)], a1, c1, by omega, by go_num, by go_num, by omega, by rw [hln], hln, hO1, hB2⟩
          case measure => simp [intOf]; omega
    · clear hcx hcy
      have hOw' := hOw
      rw [hO] at hOw'
      have hT2 := hT wr _ O hOw'.rd
      generalize lim (val O) = L at hT2
      clear hT
      go_wp2_with fail
      refine hT2.mono ?_
      rintro e w1 ⟨a1, c1, rfl, hO1, hB1⟩
      go_wp2
      go_ret
      exact ⟨a1, c1, L, rfl, hO1.mono hBr.size, hBr.trans (hB1.mono hBr.size)⟩
set_option maxHeartbeats 1000000 in
set_option maxRecDepth 100000 in
/-- l1Cmp of any two rows of limbs. -/
theorem cmpW_any (v u : Value) (xs ys : List Int) (w : World) (hx : Rd w v xs) (hy : Rd w u ys) :
    Calls Try.prog 79 #[v, u] w fun e w' => ∃ z : Int, e = .returned (.int .i64 z) ∧ Below w.heap.size w w' := by
  obtain ⟨a, cap, rfl, hlx, hzx, hnx, hcx⟩ := hx
  obtain ⟨a', cap', rfl, hly, hzy, hny, hcy⟩ := hy
  by_cases hlen : xs.length = ys.length
  · have hle : ((xs.length : Int) != (ys.length : Int)) = false := by rw [hlen]; simp
    go_enter Try.func79, Try.ntmps79
    go_wp2
    go_loopw [5] (fun i wr => ∃ k : Nat, k ≤ xs.length ∧ i = .int .i64 ((k : Int) - 1) ∧ Below w.heap.size w wr) (fun i _ => (intOf i + 1).toNat)
    case atStart => exact ⟨xs.length, Nat.le_refl _, by go_num, Below.refl _ _⟩
    case round =>
      obtain ⟨k, hk, rfl, hBr⟩ := hrel
      by_cases hk0 : k = 0
      · subst hk0
        clear hlen hcx hcy
        go_wp2
        go_ret
        exact ⟨_, rfl, hBr⟩
      · obtain ⟨j, rfl⟩ : ∃ j, k = j + 1 := ⟨k - 1, by omega⟩
        obtain ⟨b, off, rfl, hb, hcell⟩ := hcx (by omega)
        obtain ⟨b', off', rfl, hb', hcell'⟩ := hcy (by omega)
        have hce : wr.cell? ⟨b, off + j, none⟩ = some (.int .u32 (xs.getD j 0)) := (hBr.cell (p := ⟨b, off + j, none⟩) hb).trans (hcell j (by omega))
        have hce' : wr.cell? ⟨b', off' + j, none⟩ = some (.int .u32 (ys.getD j 0)) := (hBr.cell (p := ⟨b', off' + j, none⟩) hb').trans (hcell' j (by omega))
        have hj : j < xs.length := by omega
        have hj' : j < ys.length := by omega
        have hji : ((j + 1 : Nat) : Int) - 1 = (j : Int) := by omega
        rw [hji]
        generalize xs.getD j 0 = X at hce
        generalize ys.getD j 0 = Y at hce'
        clear hcell hcell' hcx hcy hlen hji
        by_cases hXY : X = Y
        · subst hXY
          have hne : (X != X) = false := by simp
          go_wp2
          go_region
          all_goals go_wp2
          all_goals go_roundw
          all_goals first | exact ⟨j, by omega, by go_num, hBr.drew⟩ | (simp [intOf]; done) | (simp [intOf]; omega)
        · have hne : (X != Y) = true := by simpa using hXY
          by_cases hXl : X < Y
          · go_wp2
            go_region
            all_goals go_wp2
            all_goals go_region
            all_goals go_wp2
            all_goals go_ret
            all_goals exact ⟨_, rfl, hBr.drew.drew⟩
          · go_wp2
            go_region
            all_goals go_wp2
            all_goals go_region
            all_goals go_wp2
            all_goals go_ret
            all_goals exact ⟨_, rfl, hBr.drew.drew⟩
  · have hle : ((xs.length : Int) != (ys.length : Int)) = true := by simp; omega
    by_cases hlt : xs.length < ys.length
    · go_enter Try.func79, Try.ntmps79
      go_wp2
      go_ret
      exact ⟨_, rfl, Below.refl _ _⟩
    · go_enter Try.func79, Try.ntmps79
      go_wp2
      go_ret
      exact ⟨_, rfl, Below.refl _ _⟩
end Go.Proofs.Ythgpacajeaphhaa
