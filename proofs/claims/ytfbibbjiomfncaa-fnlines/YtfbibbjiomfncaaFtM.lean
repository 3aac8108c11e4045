import Derived.Test.YtfbibbjiomfncaaFtA
import Derived.Test.YtfbibbjiomfncaaHelpZ
namespace Go.Proofs.Ytfbibbjiomfncaa
open Go.RowKit
set_option linter.unusedVariables false
set_option linter.unusedSimpArgs false

set_option maxRecDepth 100000 in
theorem eqB_any (v u : Value) (xs : List Bool) (w : World) (hx : RdG shB w v xs) (hy : RdG shB w u xs) :
    Calls Try.prog 23 #[v, u] w fun e w' => e = .returned (.bool true) ∧ Below w.heap.size w w' := by
  obtain ⟨a, cap, rfl, hlx, hzx, hnx, hcx⟩ := hx
  obtain ⟨a', cap', rfl, hly, hzy, hny, hcy⟩ := hy
  go_enter Try.func23, Try.ntmps23
  go_wp2
  go_loopw [5] (fun i wr => ∃ k : Nat, k ≤ xs.length ∧ i = .int .i64 k ∧ Below w.heap.size w wr) (fun i _ => xs.length - (intOf i).toNat)
  case atStart => exact ⟨0, Nat.zero_le _, rfl, Below.refl _ _⟩
  case round =>
    obtain ⟨k, hk, rfl, hB⟩ := hrel
    by_cases hlt : k < xs.length
    · have hlti : (k : Int) < (xs.length : Int) := by omega
      obtain ⟨b, off, rfl, hb, hcell⟩ := hcx (by omega)
      obtain ⟨b', off', rfl, hb', hcell'⟩ := hcy (by omega)
      have d0 := (hB.cell (p := ⟨b, off + k * shB.n + 0, none⟩) hb).trans (hcell k hlt 0 (by decide))
      have d1 := (hB.cell (p := ⟨b', off' + k * shB.n + 0, none⟩) hb').trans (hcell' k hlt 0 (by decide))
      simp only [show shB.n = 1 from rfl, Nat.mul_one, Nat.add_zero, shB, List.getElem?_cons_zero] at d0 d1
      generalize xs[k] = X at *
      clear hcell hcell' hcx hcy
      have hXX : (X == X) = true := by simp
      go_wp2_with fail
      go_region_held3 (fun W => W.cell? ⟨b, off + k, none⟩ = some (.bool X) ∧ W.cell? ⟨b', off' + k, none⟩ = some (.bool X)) (go_keep) (fail)
      all_goals
        go_wp2
        go_roundw
        case rel => exact ⟨k + 1, by omega, by go_num, hB.drew⟩
        case measure => simp [intOf]; omega
    · obtain rfl : k = xs.length := by omega
      go_wp2
      go_ret
      exact ⟨rfl, hB⟩

def bmk (k : Int) : Bool := k % 3 == 0
def bmarks (k0 : Int) (n : Nat) : List Bool := (List.range n).map fun (i : Nat) => bmk (k0 + (i : Int))
theorem bmarks_len (k0 : Int) (n : Nat) : (bmarks k0 n).length = n := by simp [bmarks]
theorem bmarks_set (k0 : Int) (zs : List Bool) (k : Nat) (h : k < zs.length) : (bmarks k0 k ++ zs.drop k).set k (bmk (k0 + k)) = bmarks k0 (k + 1) ++ zs.drop (k + 1) := by
  have e : zs.drop k = zs[k] :: zs.drop (k + 1) := List.drop_eq_getElem_cons h
  rw [e, List.set_append_right _ _ (by simp [bmarks_len]), bmarks_len, Nat.sub_self, List.set_cons_zero]
  simp only [bmarks, List.range_succ, List.map_append, List.append_assoc, List.map_cons, List.map_nil, List.singleton_append]

set_option maxRecDepth 100000 in
theorem markB_any (B n cap : Nat) (a : Option Addr) (zs : List Bool) (k0 : Int) (w : World) (hO : OwnG shB 4 w B (.slice a n cap) zs) (h0 : 0 ≤ k0) (h1 : k0 ≤ 33554432) :
    Calls Try.prog 24 #[.slice a n cap, .int .i64 k0] w fun e w' => e = .returned (.int .i64 (k0 + zs.length)) ∧ OwnG shB 4 w' B (.slice a n cap) (bmarks k0 zs.length) ∧ w.grownBy w' (Value.slice a n cap).ownBlock := by
  have hlz := hO.2.1
  rcases hO.shape with ⟨hv, rfl⟩ | ⟨g, cap', hv, hBg, hg, hcap⟩
  · simp at hv
    obtain ⟨rfl, rfl, rfl⟩ := hv
    go_enter Try.func24, Try.ntmps24
    go_wp2
    refine wp_loop_rounds 1 ?_
    rw [rounds_succ]
    go_wp2
    go_ret
    exact ⟨by simp, by simpa [bmarks] using hO, World.grownBy.refl _ _⟩
  · simp at hv
    obtain ⟨rfl, rfl, rfl⟩ := hv
    go_enter Try.func24, Try.ntmps24
    go_wp2
    go_loopw [1, 5] (fun q i wr => ∃ k : Nat, k ≤ zs.length ∧ q = .int .i64 (k0 + k) ∧ i = .int .i64 k ∧ OwnG shB 4 wr B (.slice (some ⟨g, 0, none⟩) zs.length cap) (bmarks k0 k ++ zs.drop k) ∧ w.grownBy wr (some g))
      (fun _ i _ => zs.length - (intOf i).toNat)
    case atStart => exact ⟨0, Nat.zero_le _, by simp, rfl, by simpa [bmarks] using hO, World.grownBy.refl _ _⟩
    case round =>
      obtain ⟨k, hk, rfl, rfl, hOr, hBr⟩ := hrel
      by_cases hlt : k < zs.length
      · have hml : (bmarks k0 k ++ zs.drop k).length = zs.length := by simp [bmarks_len]; omega
        have hlti : (k : Int) < (zs.length : Int) := by omega
        have hcc := hOr.cell k (by omega) 0 (by decide)
        simp only [show shB.n = 1 from rfl, Nat.mul_one, Nat.add_zero, shB, List.getElem?_cons_zero] at hcc
        have hfz := hOr.frozen k
        have HS : Hid _ := bmarks_set k0 zs k hlt
        have hput := hOr.put k (by omega) 0 (by decide) (.bool (bmk (k0 + k))) (bmk (k0 + k)) trivial (by simp [shB])
        simp only [show shB.n = 1 from rfl, Nat.mul_one, Nat.add_zero] at hput
        rw [HS.out] at hput
        have htm : ((k0 + (k : Int)) % 3 == 0) = bmk (k0 + k) := rfl
        have htm2 : IntKind.i64.wrap (Int.tmod (k0 + k) 3) = Int.tmod (k0 + k) 3 := by
          rw [IntKind.wrap_i64]
          have := Int.tmod_lt_of_pos (k0 + (k : Int)) (show (0 : Int) < 3 by omega)
          have := Int.tmod_nonneg 3 (show (0 : Int) ≤ k0 + (k : Int) by omega)
          omega
        generalize hbk : bmk (k0 + k) = bk at htm hput
        generalize (bmarks k0 k ++ zs.drop k)[k] = old at *
        clear hbk HS
        go_wp2
        go_roundw
        case rel => exact ⟨k + 1, by omega, by go_num, by go_num, by first | exact hput | (rw [htm]; exact hput), gb_trans hBr (gb_set _ _ _ _)⟩
        case measure => simp [intOf]; omega
      · go_wp2
        go_ret
        have hk' : k = zs.length := by omega
        subst hk'
        exact ⟨rfl, by simpa using hOr, hBr⟩

set_option maxRecDepth 100000 in
theorem heldB_any (v : Value) (k0 : Int) (n : Nat) (w : World) (hr : RdG shB w v (bmarks k0 n)) (h0 : 0 ≤ k0) (h1 : k0 ≤ 33554432) :
    Calls Try.prog 25 #[v, .int .i64 k0] w fun e w' => e = .returned (.int .i64 (k0 + n)) ∧ Below w.heap.size w w' := by
  obtain ⟨a, cap, rfl, hl, hz, hn0, hc⟩ := hr
  rw [bmarks_len] at hl hn0 ⊢
  have hc' : 0 < n → ∃ b off, a = some ⟨b, off, none⟩ ∧ b < w.heap.size ∧ ∀ k, k < n → w.cell? ⟨b, off + k, none⟩ = some (.bool (bmk (k0 + k))) := fun h => by
    obtain ⟨b, off, e, hb, hcell⟩ := hc (by rw [bmarks_len]; exact h)
    refine ⟨b, off, e, hb, fun k hk => ?_⟩
    have := hcell k (by rw [bmarks_len]; exact hk) 0 (by decide)
    simpa [shB, bmarks] using this
  clear hc hz
  go_enter Try.func25, Try.ntmps25
  go_wp2
  go_loopw [1, 5] (fun q i wr => ∃ k : Nat, k ≤ n ∧ q = .int .i64 (k0 + k) ∧ i = .int .i64 k ∧ Below w.heap.size w wr)
    (fun _ i _ => n - (intOf i).toNat)
  case atStart => exact ⟨0, Nat.zero_le _, by simp, rfl, Below.refl _ _⟩
  case round =>
    obtain ⟨k, hk, rfl, rfl, hBr⟩ := hrel
    by_cases hlt : k < n
    · have hlti : (k : Int) < (n : Int) := by omega
      obtain ⟨b, off, rfl, hb, hcell⟩ := hc' (by omega)
      have d0 := (hBr.cell (p := ⟨b, off + k, none⟩) hb).trans (hcell k hlt)
      have htm : ((k0 + (k : Int)) % 3 == 0) = bmk (k0 + k) := rfl
      have htm2 : IntKind.i64.wrap (Int.tmod (k0 + k) 3) = Int.tmod (k0 + k) 3 := by
        rw [IntKind.wrap_i64]
        have := Int.tmod_lt_of_pos (k0 + (k : Int)) (show (0 : Int) < 3 by omega)
        have := Int.tmod_nonneg 3 (show (0 : Int) ≤ k0 + (k : Int) by omega)
        omega
      generalize hbk : bmk (k0 + k) = bk at htm d0
      clear hbk hcell hc'
      cases bk
      · go_wp2
        go_roundw
        case rel => exact ⟨k + 1, by omega, by go_num, by go_num, by first | exact hBr | exact hBr.drew⟩
        case measure => simp [intOf]; omega
      · go_wp2
        go_roundw
        case rel => exact ⟨k + 1, by omega, by go_num, by go_num, by first | exact hBr | exact hBr.drew⟩
        case measure => simp [intOf]; omega
    · go_wp2
      go_ret
      have hk' : k = n := by omega
      subst hk'
      exact ⟨rfl, hBr⟩
end Go.Proofs.Ytfbibbjiomfncaa
