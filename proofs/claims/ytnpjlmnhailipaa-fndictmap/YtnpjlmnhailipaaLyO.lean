import Derived.Test.YtnpjlmnhailipaaNdI
import Derived.DeepKeys5
namespace Go.Proofs.Ytnpjlmnhailipaa
open Go.RowKit Go.Maps
set_option linter.unusedVariables false
set_option linter.unusedSimpArgs false

theorem equal_any (v u : Value) (xs ys : List Int) (w : World) (hx : Rd w v xs) (hy : Rd w u ys) :
    Calls Try.prog 72 #[v, u] w fun e w' => e = .returned (.bool (decide (xs = ys))) ∧ Below w.heap.size w w' := by
  obtain ⟨a, cap, rfl, hlx, hzx, hnx, hcx⟩ := hx
  obtain ⟨a', cap', rfl, hly, hzy, hny, hcy⟩ := hy
  by_cases hlen : xs.length = ys.length
  · go_enter Try.func72, Try.ntmps72
    go_wp2
    go_loopw [13] (fun i wr => ∃ k : Nat, k ≤ xs.length ∧ i = .int .i64 k ∧ xs.take k = ys.take k ∧ Below w.heap.size w wr)
      (fun i _ => xs.length - (intOf i).toNat)
    case atStart => exact ⟨0, Nat.zero_le _, rfl, by simp, Below.refl _ _⟩
    case round =>
      obtain ⟨k, hk, rfl, hEq, hBr⟩ := hrel
      by_cases hlt : k < xs.length
      · obtain ⟨b, off, rfl, hb, hcell⟩ := hcx (by omega)
        obtain ⟨b', off', rfl, hb', hcell'⟩ := hcy (by omega)
        have hlt' : k < ys.length := by omega
        have e1 : xs.getD k 0 = xs[k] := by simp [List.getD, hlt]
        have e2 : ys.getD k 0 = ys[k] := by simp [List.getD, hlt']
        have hce : wr.cell? ⟨b, off + k, none⟩ = some (.int .i64 xs[k]) := by rw [hBr.cell (p := ⟨b, off + k, none⟩) hb, hcell k hlt, e1]
        have hce' : wr.cell? ⟨b', off' + k, none⟩ = some (.int .i64 ys[k]) := by rw [hBr.cell (p := ⟨b', off' + k, none⟩) hb', hcell' k hlt', e2]
        have hA := hEq
        have HL : Hid (xs.length = ys.length) := hlen
        clear hcell hcell' hcx hcy hEq hlen e1 e2
        by_cases hxy : xs[k] = ys[k]
        · have hxy' : (xs[k] == ys[k]) = true := by simpa using hxy
          have HX : Hid (xs[k] = ys[k]) := hxy
          clear hxy
          generalize hx : xs[k] = x at *
          generalize hy : ys[k] = y at *
          go_wp2
          go_region
          all_goals
            go_wp2
            go_roundw
            case rel =>
              refine ⟨k + 1, by omega, by go_num, ?_, hBr.drew⟩
              rw [List.take_succ_eq_append_getElem hlt, List.take_succ_eq_append_getElem hlt', hA, hx, hy, HX.out]
            case measure => simp [intOf]; omega
        · have hxy' : (xs[k] == ys[k]) = false := by simpa using hxy
          have HX : Hid (¬ xs[k] = ys[k]) := hxy
          clear hxy
          generalize hx : xs[k] = x at *
          generalize hy : ys[k] = y at *
          go_wp2
          go_region
          all_goals
            go_wp2
            go_ret
            refine ⟨?_, hBr.drew⟩
            have : xs ≠ ys := fun h => HX.out (by subst h; rw [← hx, ← hy])
            simp [this]
      · go_wp2
        go_ret
        refine ⟨?_, hBr⟩
        rw [List.take_of_length_le (by omega), List.take_of_length_le (by omega)] at hEq
        simp [hEq]
  · have hne : ((xs.length : Int) == (ys.length : Int)) = false := by simp; omega
    go_enter Try.func72, Try.ntmps72
    go_wp2
    go_ret
    have : xs ≠ ys := fun h => hlen (by rw [h])
    exact ⟨by simp [this], Below.refl _ _⟩

theorem Try.info95 : (Try.prog.info? 95).map (fun i => (i.zero, i.size, i.bytes)) = some (some (.agg #[.int .u64 0, .int .i64 0]), 2, 16) := by kernel_rfl

theorem nm_new (w : World) (p : Int × Int) (T : TypeId) (g : Nat) (hg : g = w.heap.size) : ∀ j, j < shN.n → (w.alloc (.cells #[.int .u64 p.1, .int .i64 p.2] T)).cell? ⟨g, j, none⟩ = (shN.cs p)[j]? := by
  intro j _; rw [World.cell?_alloc_at _ _ _ _ hg]; simp [shN]

set_option maxRecDepth 100000 in
set_option maxHeartbeats 1000000 in
theorem names_any (g : Nat) (vs ve vl : Value) (es : List En) (w : World) (hB : Box3 w g vs ve vl) (hE : RdE w ve es) (hlen : es.length ≤ 65536) :
    Calls Try.prog 74 #[.pointer (some ⟨g, 0, none⟩)] w fun e w' => ∃ v, e = .returned v ∧ OwnG shN 95 w' w.heap.size v (lv es) ∧ Below w.heap.size w w' := by
  obtain ⟨i0, hi, hz0, hz1, hz2⟩ := info_parts Try.info95
  obtain ⟨a, cap, rfl, hlx, hzx, hnx, hcx⟩ := id hE
  obtain ⟨hg, k0, k1, k2⟩ := id hB
  go_enter Try.func74, Try.ntmps74
  go_wp2_with (at_make; refine wpList_make_own _ rfl _ _ 103 rfl w.heap.size 95 i0 _ 2 Try.underlying103 hi hz0 hz1 .i64 .i64 _ es.length rfl rfl (by go_num) (by rw [hz2]; omega) (by unfold maxLen; omega) (by simp) ?_; intro w1 hown hgrow; have hB1 := (Below.refl w.heap.size w).grown hgrow (Nat.le_refl _) (by intro k h; cases h); have hx1 := hB.keep hB1; obtain ⟨-, m0, m1, m2⟩ := id hx1)
  have hO1 : OwnG shN 95 w1 w.heap.size (.slice (some ⟨w.heap.size, 0, none⟩) 0 es.length) [] := ⟨hown, by simp, by simp⟩
  clear hown hgrow m0 m1 m2
  go_loopw [3, 17] (fun v i wr => ∃ k : Nat, k ≤ es.length ∧ i = .int .i64 k ∧ OwnG shN 95 wr w.heap.size v (lv (es.take k)) ∧ Below w.heap.size w wr) (fun _ i _ => es.length - (intOf i).toNat)
  case atStart => exact ⟨0, Nat.zero_le _, rfl, by simpa [lv] using hO1, hB1⟩
  case round =>
    obtain ⟨k, hk, rfl, hO, hBr⟩ := hrel
    clear hO1 hB1 hx1
    by_cases hlt : k < es.length
    · obtain ⟨b, off, rfl, hb, hcell⟩ := hcx (by omega)
      obtain ⟨d0, d1, d2, d3⟩ := RdE.at (fun k hk j hj => (hBr.cell (p := ⟨b, _, none⟩) hb).trans (hcell k hk j hj)) k hlt
      have hok := hzx es[k] (List.getElem_mem hlt)
      have htk := List.take_succ_eq_append_getElem hlt
      have hlk : (lv (es.take k)).length ≤ 65536 := by
        have h1 : (lv (es.take k)).length ≤ (es.take k).length := by unfold lv; rw [List.length_map]; exact List.length_filter_le _ _
        rw [List.length_take] at h1; omega
      have hlv : lv (es.take (k + 1)) = lv (es.take k) ++ lv [es[k]] := by rw [htk]; unfold lv; rw [List.filter_append, List.map_append]
      generalize es[k] = E at *
      obtain ⟨Eh, Ek, Ev, Eg⟩ := E
      obtain ⟨va, vc, hv⟩ := hO.form
      subst hv
      generalize lv (es.take k) = XS at *
      have Hlv : Hid (lv (es.take (k + 1)) = XS ++ lv [⟨Eh, Ek, Ev, Eg⟩]) := hlv
      simp only at d0 d1 d2 d3
      have hlo := hO.lt
      have hz := hBr.size
      clear hcell hcx hlv
      cases Eg
      · go_wp2_with (at_builtin; refine wpList_append_one (S := shN) Try.info95 rfl (by omega) rfl _ _ 103 rfl Try.underlying103 w.heap.size _ XS (Eh, Ek) ⟨hok.1, hok.2.1⟩ (wr.heap.size + 1) 1 rfl rfl ((hO.alloc _).alloc _) (nm_new _ (Eh, Ek) _ _ (by simp)) (by omega) (by simp; omega) ?_; intro a' c' w' hO' hg')
        have hga := gb_trans (gb_trans (World.grownBy_alloc wr (.cells #[.int .u64 Eh, .int .i64 Ek, .int .i64 Ev, .bool false] 97) (Value.slice va XS.length vc).ownBlock) (World.grownBy_alloc _ (.cells #[.int .u64 Eh, .int .i64 Ek] 95) _)) hg'
        go_roundw
        case rel =>
          refine ⟨k + 1, by omega, by go_num, ?_, hBr.grown hga hz (fun j hj => (hlo j hj).1)⟩
          rw [Hlv.out]
          simpa [lv] using hO'
        case measure => simp [intOf]; omega
      · go_wp2
        go_roundw
        case rel =>
          refine ⟨k + 1, by omega, by go_num, ?_, hBr.alloc hz _⟩
          rw [Hlv.out]
          simpa [lv] using hO.alloc _
        case measure => simp [intOf]; omega
    · obtain rfl : k = es.length := by omega
      rw [List.take_length] at hO
      clear hcx
      obtain ⟨va, vc, hv⟩ := hO.form
      subst hv
      go_wp2
      go_ret
      exact ⟨_, rfl, hO, hBr⟩
end Go.Proofs.Ytnpjlmnhailipaa
