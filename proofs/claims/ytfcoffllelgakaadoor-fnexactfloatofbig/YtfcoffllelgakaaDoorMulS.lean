import Derived.Test.YtfcoffllelgakaaDoorMul
namespace Go.Proofs.YtfcoffllelgakaaDoor
open Go.RowKit
set_option linter.unusedVariables false
set_option linter.unusedSimpArgs false

set_option maxHeartbeats 2000000 in
set_option maxRecDepth 100000 in
theorem mulMag_any (v u : Value) (xs ys : List Int) (w : World) (hx : Rd w v xs) (hy : Rd w u ys) (hlx : xs.length ≤ 1048576) (hly : ys.length ≤ 1048576) :
    Calls Tryd.prog 67 #[v, u] w fun e w' => ∃ a c, e = .returned (.slice a (lim (val xs * val ys)).length c) ∧ Own w' w.heap.size (.slice a (lim (val xs * val ys)).length c) (lim (val xs * val ys)) ∧ Below w.heap.size w w' := by
  obtain ⟨a, cap, rfl, _, hzx, hnx, hcx⟩ := hx
  obtain ⟨a', cap', rfl, _, hzy, hny, hcy⟩ := hy
  have hT := fun W v L (hr : Rd W v L) (he : val L = val xs * val ys) => he ▸ trimS_any v L W hr
  generalize hQ : lim (val xs * val ys) = Q at hT ⊢
  clear hQ hnx hny
  obtain ⟨i0, hi, hz0, hz1, hz2⟩ := info_parts Tryd.info48
  go_enter Tryd.func67, Tryd.ntmps67
  go_wp2_with (at_make; refine wpList_make_full _ rfl _ _ 22 rfl w.heap.size 48 i0 (.int .u32 0) 1 Tryd.underlying22 hi hz0 hz1 .i64 .i64 _ _ (xs.length + ys.length) rfl rfl (by go_num) (by go_num) (by rw [hz2]; omega) (by unfold maxLen; omega) (Nat.le_refl _) ?_; intro w1 hown hgrow)
  have hO : Own w1 w.heap.size _ (List.replicate (xs.length + ys.length) 0) := Own.made (by omega) hown
  have hB : Below w.heap.size w w1 := (Below.refl _ _).grown hgrow (Nat.le_refl _) (by intro k h; cases h)
  clear hown hgrow hi hz0 hz1 hz2
  go_loopw [6, 7, 8, 9] (fun i _ _ _ wr => ∃ (k : Nat) (O : List Int), k ≤ xs.length ∧ i = .int .i64 k ∧ Own wr w.heap.size (.slice (some ⟨w.heap.size, 0, none⟩) (xs.length + ys.length) (xs.length + ys.length)) O ∧ Outer O xs ys k ∧ Below w.heap.size w wr)
    (fun i _ _ _ _ => xs.length - (intOf i).toNat)
  case atStart => exact ⟨0, _, Nat.zero_le _, rfl, hO, Outer.begin xs ys, hB⟩
  case round =>
    obtain ⟨k, O, hk, rfl, hOw, hOu, hBr⟩ := hrel
    clear hO hB
    by_cases hlt : k < xs.length
    · obtain ⟨b, off, rfl, hb, hcell⟩ := hcx (by omega)
      have hcx0 := hcell k hlt
      have hXb := hzx.get k
      have HOu : Hid (Outer O xs ys k ∧ (xs.getD k 0).toNat = (xs.getD k 0).toNat) := ⟨hOu, rfl⟩
      have hOl := hOu.1
      obtain ⟨X, hX⟩ : ∃ X, X = xs.getD k 0 := ⟨_, rfl⟩
      rw [← hX] at hcx0 hXb
      have HX : Hid (X = xs.getD k 0) := hX
      clear hX hcell hcx hOu
      go_wp2
      go_loopw [7, 8, 9] (fun c j _ wq => ∃ (jj cc : Nat) (P : List Int), jj ≤ ys.length ∧ j = .int .i64 jj ∧ c = .int .u64 cc ∧ Own wq w.heap.size (.slice (some ⟨w.heap.size, 0, none⟩) (xs.length + ys.length) (xs.length + ys.length)) P ∧ Inner O P xs ys X.toNat k jj cc ∧ Below w.heap.size w wq)
        (fun _ j _ _ => ys.length - (intOf j).toNat)
      case atStart => exact ⟨0, 0, O, Nat.zero_le _, rfl, rfl, hOw, Inner.begin _, hBr⟩
      case round =>
        obtain ⟨j, c, P, hj, rfl, rfl, hPw, hIn, hBq⟩ := hrel
        have hcc := hIn.2.2.2
        have hPl : P.length = xs.length + ys.length := hIn.1.trans hOl
        by_cases hjl : j < ys.length
        · obtain ⟨b', off', rfl, hb', hcell'⟩ := hcy (by omega)
          have hcY : wr.cell? ⟨b', off' + j, none⟩ = some (.int .u32 (ys.getD j 0)) := (hBq.cell (p := ⟨b', off' + j, none⟩) hb').trans (hcell' j hjl)
          have hcX : wr.cell? ⟨b, off + k, none⟩ = some (.int .u32 X) := (hBq.cell (p := ⟨b, off + k, none⟩) hb).trans hcx0
          have hcO : wr.cell? ⟨w.heap.size, k + j, none⟩ = some (.int .u32 (P.getD (k + j) 0)) := hPw.cell (k + j) (by omega)
          have hfO := hPw.frozen (k + j)
          have hYb := hzy.get j
          have hob := hPw.2.2.get (k + j)
          have hpo := hIn.2.1 (k + j) (Nat.le_refl _)
          have hStep := fun d e h1 h2 => Inner.step (d := d) (e := e) hIn (by omega) h1 h2
          rw [← hpo] at hStep
          generalize ys.getD j 0 = Y at hcY hYb hStep
          generalize P.getD (k + j) 0 = o at hcO hob hStep
          have hp := prod_bound X Y hXb.1 (by omega) hYb.1 (by omega)
          have hnat : ((X.toNat * Y.toNat : Nat) : Int) = X * Y := by rw [Int.natCast_mul, Int.toNat_of_nonneg hXb.1, Int.toNat_of_nonneg hYb.1]
          obtain ⟨D, hD⟩ : ∃ D : Nat, (D : Int) = (X * Y + o + c) % 4294967296 := ⟨((X * Y + o + c) % 4294967296).toNat, by omega⟩
          obtain ⟨E, hE⟩ : ∃ E : Nat, (E : Int) = (X * Y + o + c) / 4294967296 := ⟨((X * Y + o + c) / 4294967296).toNat, by omega⟩
          have hand := low32' (u := X * Y + o + c) (by omega) (by omega)
          rw [← hD] at hand
          have hS := hStep D E (by omega) (by omega)
          have hD1 : (D : Int) < 4294967296 := by omega
          have hSt := hPw.store (k + j) (z := (D : Int)) (by omega) hD1
          have HS : Hid _ := hS
          have HSt : Hid _ := hSt
          have HE : Hid ((E : Int) = (X * Y + o + c) / 4294967296) := hE
          have hw1 : IntKind.i64.wrap ((k : Int) + (j : Int)) = (k : Int) + (j : Int) := by simp [IntKind.wrap, IntKind.bits, IntKind.signed]; omega
          have hw2 : IntKind.u64.wrap (X * Y) = X * Y := by rw [IntKind.wrap_u64]; omega
          have hw3 : IntKind.u64.wrap (X * Y + o) = X * Y + o := by rw [IntKind.wrap_u64]; omega
          have hw4 : IntKind.u64.wrap (X * Y + o + (c : Int)) = X * Y + o + (c : Int) := by rw [IntKind.wrap_u64]; omega
          have hi0 : (k : Int) < (xs.length : Int) := by omega
          have hi1 : (j : Int) < (ys.length : Int) := by omega
          have hi2 : (k : Int) + (j : Int) < (xs.length : Int) + (ys.length : Int) := by omega
          have hi3 : (0 : Int) ≤ (k : Int) + (j : Int) := by omega
          have hi4 : ((k : Int) + (j : Int)).toNat = k + j := by omega
          clear hStep hIn hS hSt hD hE hnat hcell' hcy hT hOw hpo hPw
          go_wp2_with fail
          go_region_held3 (fun W => W.cell? ⟨b, off + k, none⟩ = some (.int .u32 X) ∧ W.cell? ⟨b', off' + j, none⟩ = some (.int .u32 Y) ∧ W.cell? ⟨w.heap.size, k + j, none⟩ = some (.int .u32 o)) (go_keep) (fail)
          go_wp2
          go_roundw
          case rel => exact ⟨j + 1, E, P.set (k + j) (D : Int), by omega, by go_num, by rw [HE.out], Own.drew HSt.out, HS.out, (hBq.setCell (Nat.le_refl _) _).drew⟩
          case measure => simp [intOf]; omega
        · have hjy : j = ys.length := by omega
          subst hjy
          obtain ⟨u0, hcO⟩ : ∃ u0, wr.cell? ⟨w.heap.size, k + ys.length, none⟩ = some u0 := ⟨_, hPw.cell (k + ys.length) (by omega)⟩
          have hfO := hPw.frozen (k + ys.length)
          have hSt := hPw.store (k + ys.length) (z := (c : Int)) (by omega) (by omega)
          have hN := Outer.next HOu.out.1 hlt (by rw [← HX.out]; exact hIn)
          have HN : Hid _ := hN
          have HSt : Hid _ := hSt
          have hi2 : (k : Int) + (ys.length : Int) < (xs.length : Int) + (ys.length : Int) := by omega
          clear hIn hN hSt hcy hT hOw hPw
          go_wp2
          go_roundw
          case rel => exact ⟨k + 1, _, by omega, by go_num, HSt.out, HN.out, hBq.setCell (Nat.le_refl _) _⟩
          case measure => simp [intOf]; omega
    · have hkN : k = xs.length := by omega
      subst hkN
      have hV := hOu.done
      have hK := hT _ _ _ hOw.rd hV
      clear hV hT hOw hOu hcx hcy
      go_wp2_with fail
      refine hK.mono ?_
      rintro e w2 ⟨a2, c2, rfl, hO2, hB2⟩
      clear hK
      go_wp2
      go_ret
      exact ⟨a2, c2, rfl, hO2.mono hBr.size, hBr.trans (hB2.mono hBr.size)⟩
end Go.Proofs.YtfcoffllelgakaaDoor
