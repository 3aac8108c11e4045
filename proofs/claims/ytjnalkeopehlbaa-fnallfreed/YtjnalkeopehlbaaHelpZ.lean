import Derived.Test.YtjnalkeopehlbaaBaseZ
namespace Go.Proofs.Ytjnalkeopehlbaa
open Go.RowKit
set_option linter.unusedVariables false
set_option linter.unusedSimpArgs false

theorem eqS_any (v u : Value) (xs ys : List Int) (w : World) (hx : Rd w v xs) (hy : Rd w u ys) :
    Calls Try.prog 12 #[v, u] w fun e w' => e = .returned (.bool (decide (xs = ys))) ∧ Below w.heap.size w w' := by
  obtain ⟨a, cap, rfl, hlx, hzx, hnx, hcx⟩ := hx
  obtain ⟨a', cap', rfl, hly, hzy, hny, hcy⟩ := hy
  by_cases hlen : xs.length = ys.length
  · go_enter Try.func12, Try.ntmps12
    go_wp2
    go_loopw [5] (fun i wr => ∃ k : Nat, k ≤ xs.length ∧ i = .int .i64 k ∧ xs.take k = ys.take k ∧ Below w.heap.size w wr)
      (fun i _ => xs.length - (intOf i).toNat)
    case atStart => exact ⟨0, Nat.zero_le _, rfl, by simp, Below.refl _ _⟩
    case round =>
      obtain ⟨k, hk, rfl, hEq, hBr⟩ := hrel
      by_cases hlt : k < xs.length
      · obtain ⟨b, off, rfl, hb, hcell⟩ := hcx (by omega)
        obtain ⟨b', off', rfl, hb', hcell'⟩ := hcy (by omega)
        have hce : wr.cell? ⟨b, off + k, none⟩ = some (.int .i64 (xs.getD k 0)) := (hBr.cell (p := ⟨b, off + k, none⟩) hb).trans (hcell k hlt)
        have hce' : wr.cell? ⟨b', off' + k, none⟩ = some (.int .i64 (ys.getD k 0)) := (hBr.cell (p := ⟨b', off' + k, none⟩) hb').trans (hcell' k (by omega))
        have hlt' : k < ys.length := by omega
        have hA := hEq
        have HL : Hid (xs.length = ys.length) := hlen
        clear hcell hcell' hcx hcy hEq hlen
        go_wp2
        go_region
        all_goals go_wp2
        · go_ret
          have hne : (xs[k] != ys[k]) = true := by assumption
          refine ⟨?_, hBr.drew⟩
          have : xs ≠ ys := fun h => by subst h; simp at hne
          simp [this]
        · have he : (xs[k] != ys[k]) = false := by assumption
          go_roundw
          case rel =>
            refine ⟨k + 1, by omega, by go_num, ?_, hBr.drew⟩
            rw [List.take_succ_eq_append_getElem hlt, List.take_succ_eq_append_getElem hlt', hA]
            simp at he; rw [he]
          case measure => simp [intOf]; omega
      · go_wp2
        go_ret
        refine ⟨?_, hBr⟩
        rw [List.take_of_length_le (by omega), List.take_of_length_le (by omega)] at hEq
        simp [hEq]
  · have hne : ((xs.length : Int) == (ys.length : Int)) = false := by simp; omega
    go_enter Try.func12, Try.ntmps12
    go_wp2
    go_ret
    have : xs ≠ ys := fun h => hlen (by rw [h])
    exact ⟨by simp [this], Below.refl _ _⟩

/-- k0, k0 + 1, .. : n numbers. -/
def marks (k0 : Int) (n : Nat) : List Int := (List.range n).map fun (i : Nat) => k0 + (i : Int)
theorem marks_length (k0 : Int) (n : Nat) : (marks k0 n).length = n := by simp [marks]
theorem marks_getD (k0 : Int) (n k : Nat) (h : k < n) : (marks k0 n).getD k 0 = k0 + k := by simp [marks, List.getD, h]
theorem marks_set (k0 : Int) (zs : List Int) (k : Nat) (h : k < zs.length) : (marks k0 k ++ zs.drop k).set k (k0 + k) = marks k0 (k + 1) ++ zs.drop (k + 1) := by
  have e : zs.drop k = zs[k] :: zs.drop (k + 1) := List.drop_eq_getElem_cons h
  rw [e, List.set_append_right _ _ (by simp [marks_length]), marks_length, Nat.sub_self, List.set_cons_zero]
  simp only [marks, List.range_succ, List.map_append, List.append_assoc, List.map_cons, List.map_nil, List.singleton_append]
theorem Limbs.marks {k0 : Int} {n : Nat} (h0 : 0 ≤ k0) (h1 : k0 + n ≤ 4294967296) : Limbs (marks k0 n) := fun z hz => by
  simp [Go.Proofs.Ytjnalkeopehlbaa.marks] at hz
  obtain ⟨i, hi, rfl⟩ := hz
  omega

theorem markS_any (B n cap : Nat) (a : Option Addr) (zs : List Int) (k0 : Int) (w : World) (hO : Own w B (.slice a n cap) zs) (h0 : 0 ≤ k0) (h1 : k0 ≤ 33554432) :
    Calls Try.prog 15 #[.slice a n cap, .int .i64 k0] w fun e w' => e = .returned (.int .i64 (k0 + zs.length)) ∧ Own w' B (.slice a n cap) (marks k0 zs.length) ∧ w.grownBy w' (Value.slice a n cap).ownBlock := by
  have hlz := hO.2.1
  rcases hO.shape with ⟨hv, rfl⟩ | ⟨g, cap', hv, hBg, hg, hcap⟩
  · simp at hv
    obtain ⟨rfl, rfl, rfl⟩ := hv
    go_enter Try.func15, Try.ntmps15
    go_wp2
    refine wp_loop_rounds 1 ?_
    rw [rounds_succ]
    go_wp2
    go_ret
    exact ⟨by simp, hO, World.grownBy.refl _ _⟩
  · simp at hv
    obtain ⟨rfl, rfl, rfl⟩ := hv
    go_enter Try.func15, Try.ntmps15
    go_wp2
    go_loopw [1, 5] (fun q i wr => ∃ k : Nat, k ≤ zs.length ∧ q = .int .i64 (k0 + k) ∧ i = .int .i64 k ∧ Own wr B (.slice (some ⟨g, 0, none⟩) zs.length cap) (marks k0 k ++ zs.drop k) ∧ w.grownBy wr (some g))
      (fun _ i _ => zs.length - (intOf i).toNat)
    case atStart => exact ⟨0, Nat.zero_le _, by simp, rfl, by simpa [marks] using hO, World.grownBy.refl _ _⟩
    case round =>
      obtain ⟨k, hk, rfl, rfl, hOr, hBr⟩ := hrel
      by_cases hlt : k < zs.length
      · obtain ⟨u, hu⟩ : ∃ u, wr.cell? ⟨g, k, none⟩ = some u := ⟨_, hOr.cell k (by simp [marks_length]; omega)⟩
        have hfz := hOr.frozen k
        have hS := marks_set k0 zs k hlt
        have HS : Hid ((marks k0 k ++ zs.drop k).set k (k0 + k) = marks k0 (k + 1) ++ zs.drop (k + 1)) := hS
        clear hS
        go_wp2
        go_roundw
        case rel =>
          refine ⟨k + 1, by omega, by go_num, by go_num, ?_, gb_trans hBr (gb_set _ _ _ _)⟩
          have := hOr.store k (z := k0 + k) (by omega) (by omega)
          rw [HS.out] at this
          exact this
        case measure => simp [intOf]; omega
      · go_wp2
        go_ret
        have hk' : k = zs.length := by omega
        subst hk'
        exact ⟨rfl, by simpa using hOr, hBr⟩

theorem heldS_any (v : Value) (zs : List Int) (k0 : Int) (n : Nat) (w : World) (hr : Rd w v zs) (h0 : 0 ≤ k0) (h1 : k0 ≤ 33554432) (he : zs = marks k0 n) :
    Calls Try.prog 16 #[v, .int .i64 k0] w fun e w' => e = .returned (.int .i64 (k0 + n)) ∧ Below w.heap.size w w' := by
  obtain ⟨a, cap, rfl, hl, hz, hn0, hc⟩ := hr
  have hn : zs.length = n := by rw [he, marks_length]
  have hg : ∀ k, k < n → zs.getD k 0 = k0 + k := fun k h => by rw [he, marks_getD _ _ _ h]
  rw [hn] at hc hl ⊢
  clear he hn
  go_enter Try.func16, Try.ntmps16
  go_wp2
  go_loopw [1, 5] (fun q i wr => ∃ k : Nat, k ≤ n ∧ q = .int .i64 (k0 + k) ∧ i = .int .i64 k ∧ Below w.heap.size w wr)
    (fun _ i _ => n - (intOf i).toNat)
  case atStart => exact ⟨0, Nat.zero_le _, by simp, rfl, Below.refl _ _⟩
  case round =>
    obtain ⟨k, hk, rfl, rfl, hBr⟩ := hrel
    by_cases hlt : k < n
    · obtain ⟨b, off, rfl, hb, hcell⟩ := hc (by omega)
      have hce : wr.cell? ⟨b, off + k, none⟩ = some (.int .i64 (k0 + k)) := by rw [hBr.cell (p := ⟨b, off + k, none⟩) hb, hcell k hlt, hg k hlt]
      clear hg hcell hc
      go_wp2
      go_roundw
      case rel => exact ⟨k + 1, by omega, by go_num, by go_num, hBr⟩
      case measure => simp [intOf]; omega
    · go_wp2
      go_ret
      have hk' : k = n := by omega
      subst hk'
      exact ⟨rfl, hBr⟩

end Go.Proofs.Ytjnalkeopehlbaa
