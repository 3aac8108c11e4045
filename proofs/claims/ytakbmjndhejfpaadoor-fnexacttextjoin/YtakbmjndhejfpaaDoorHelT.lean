import Derived.Test.YtakbmjndhejfpaaDoorHelpS
import Derived.Deep.RegionHeld3
namespace Go.Proofs.YtakbmjndhejfpaaDoor
open Go.RowKit
set_option linter.unusedVariables false
set_option linter.unusedSimpArgs false

set_option maxRecDepth 100000 in
theorem eqT_any (v u : Value) (xs : List ByteArray) (w : World) (hx : Str.Rd w v xs) (hy : Str.Rd w u xs) :
    Calls Tryd.prog 14 #[v, u] w fun e w' => e = .returned (.bool true) ∧ Below w.heap.size w w' := by
  obtain ⟨a, cap, rfl, hlx, hnx, hcx⟩ := hx
  obtain ⟨a', cap', rfl, hly, hny, hcy⟩ := hy
  go_enter Tryd.func14, Tryd.ntmps14
  go_wp2
  go_loopw [5] (fun i wr => ∃ k : Nat, k ≤ xs.length ∧ i = .int .i64 k ∧ Below w.heap.size w wr)
    (fun i _ => xs.length - (intOf i).toNat)
  case atStart => exact ⟨0, Nat.zero_le _, rfl, Below.refl _ _⟩
  case round =>
    obtain ⟨k, hk, rfl, hBr⟩ := hrel
    by_cases hlt : k < xs.length
    · obtain ⟨b, off, rfl, hb, hcell⟩ := hcx (by omega)
      obtain ⟨b', off', rfl, hb', hcell'⟩ := hcy (by omega)
      obtain ⟨z, hz⟩ : ∃ z, xs.getD k Str.Z = z := ⟨_, rfl⟩
      have hce : wr.cell? ⟨b, off + k, none⟩ = some (.string z) := ((hBr.cell (p := ⟨b, off + k, none⟩) hb).trans (hcell k hlt)).trans (by rw [hz])
      have hce' : wr.cell? ⟨b', off' + k, none⟩ = some (.string z) := ((hBr.cell (p := ⟨b', off' + k, none⟩) hb').trans (hcell' k hlt)).trans (by rw [hz])
      clear hcell hcell' hcx hcy hz
      go_wp2
      go_region
      all_goals go_wp2
      all_goals go_roundw
      case rel => exact ⟨k + 1, by omega, by go_num, hBr.drew⟩
      case measure => simp [intOf]; omega
    · go_wp2
      go_ret
      exact ⟨rfl, hBr⟩

/-- The marks' texts k0, k0 + 1, .. : n of them. -/
def mtl (k0 n : Nat) : List ByteArray := (List.range n).map fun i => mtB (k0 + i)
theorem mtl_length (k0 n : Nat) : (mtl k0 n).length = n := by simp [mtl]
theorem mtl_getD (k0 n k : Nat) (h : k < n) : (mtl k0 n).getD k Str.Z = mtB (k0 + k) := by simp [mtl, List.getD, h]
theorem mtl_set (k0 : Nat) (zs : List ByteArray) (k : Nat) (h : k < zs.length) : (mtl k0 k ++ zs.drop k).set k (mtB (k0 + k)) = mtl k0 (k + 1) ++ zs.drop (k + 1) := by
  have e : zs.drop k = zs[k] :: zs.drop (k + 1) := List.drop_eq_getElem_cons h
  rw [e, List.set_append_right _ _ (by simp [mtl_length]), mtl_length, Nat.sub_self, List.set_cons_zero]
  simp only [mtl, List.range_succ, List.map_append, List.append_assoc, List.map_cons, List.map_nil, List.singleton_append]

set_option maxRecDepth 100000 in
theorem markT_any (B n cap : Nat) (a : Option Addr) (zs : List ByteArray) (k0 : Nat) (w : World) (hO : Str.Own w B (.slice a n cap) zs) (h0 : 1 ≤ k0) (h1 : k0 + zs.length ≤ 2097152) (hBw : B ≤ w.heap.size) :
    Calls Tryd.prog 23 #[.slice a n cap, .int .i64 k0] w fun e w' => e = .returned (.int .i64 ((k0 + zs.length : Nat) : Int)) ∧ Str.Own w' B (.slice a n cap) (mtl k0 zs.length) ∧ w.grownBy w' (Value.slice a n cap).ownBlock := by
  have hlz := hO.2
  rcases hO.shape with ⟨hv, rfl⟩ | ⟨g, cap', hv, hBg, hg, hcap⟩
  · simp at hv
    obtain ⟨rfl, rfl, rfl⟩ := hv
    go_enter Tryd.func23, Tryd.ntmps23
    go_wp2
    refine wp_loop_rounds 1 ?_
    rw [rounds_succ]
    go_wp2
    go_ret
    exact ⟨by simp, hO, World.grownBy.refl _ _⟩
  · simp at hv
    obtain ⟨rfl, rfl, rfl⟩ := hv
    go_enter Tryd.func23, Tryd.ntmps23
    go_wp2
    go_loopw [1, 5] (fun q i wr => ∃ k : Nat, k ≤ zs.length ∧ q = .int .i64 ((k0 + k : Nat) : Int) ∧ i = .int .i64 k ∧ Str.Own wr B (.slice (some ⟨g, 0, none⟩) zs.length cap) (mtl k0 k ++ zs.drop k) ∧ w.grownBy wr (some g))
      (fun _ i _ => zs.length - (intOf i).toNat)
    case atStart => exact ⟨0, Nat.zero_le _, by simp, rfl, by simpa [mtl] using hO, World.grownBy.refl _ _⟩
    case round =>
      obtain ⟨k, hk, rfl, rfl, hOr, hBr⟩ := hrel
      by_cases hlt : k < zs.length
      · have hM := fun W => markText_any (k0 + k) W (by omega) (by omega)
        have HS : Hid ((mtl k0 k ++ zs.drop k).set k (mtB (k0 + k)) = mtl k0 (k + 1) ++ zs.drop (k + 1)) := mtl_set k0 zs k hlt
        generalize mtB (k0 + k) = M at hM HS
        obtain ⟨X, hX⟩ : ∃ X, mtl k0 k ++ zs.drop k = X := ⟨_, rfl⟩
        have hXl : X.length = zs.length := by rw [← hX]; simp [mtl_length]; omega
        rw [hX] at hOr HS
        clear hX
        obtain ⟨kk, hkk⟩ : ∃ kk, k0 + k = kk := ⟨_, rfl⟩
        rw [hkk] at hM ⊢
        have wk := wrap64_id (a := (kk : Int) + 1) (by omega) (by omega)
        obtain ⟨u, hu⟩ : ∃ u, wr.cell? ⟨g, k, none⟩ = some u := ⟨_, hOr.cell k (by omega)⟩
        have hgr : g < wr.heap.size := Nat.lt_of_lt_of_le hg hBr.size
        go_wp2_with fail
        refine (hM _).mono ?_
        rintro e w1 ⟨rfl, hB1⟩
        have hO1 := hOr.keep hB1
        have hu1 : w1.cell? ⟨g, k, none⟩ = some u := (hB1.cell (p := ⟨g, k, none⟩) hgr).trans hu
        have hfz := hO1.frozen k
        clear hOr
        go_wp2
        go_roundw
        case rel =>
          refine ⟨k + 1, by omega, by (first | (rw [← hkk]; go_num) | (simp [← hkk]; omega)), by go_num, ?_, ?_⟩
          · have := hO1.store k M
            rw [HS.out] at this
            exact this
          · exact gb_trans (gb_trans hBr (gb_below _ hB1)) (gb_set _ _ _ _)
        case measure => simp [intOf]; omega
      · go_wp2
        go_ret
        have hk' : k = zs.length := by omega
        subst hk'
        exact ⟨rfl, by simpa using hOr, hBr⟩

set_option maxRecDepth 100000 in
theorem heldT_any (v : Value) (zs : List ByteArray) (k0 : Nat) (n : Nat) (w : World) (hr : Str.Rd w v zs) (h0 : 1 ≤ k0) (h1 : k0 + n ≤ 2097152) (he : zs = mtl k0 n) :
    Calls Tryd.prog 24 #[v, .int .i64 k0] w fun e w' => e = .returned (.int .i64 ((k0 + n : Nat) : Int)) ∧ Below w.heap.size w w' := by
  obtain ⟨a, cap, rfl, hl, hn0, hc⟩ := hr
  have hn : zs.length = n := by rw [he, mtl_length]
  have hg : ∀ k, k < n → zs.getD k Str.Z = mtB (k0 + k) := fun k h => by rw [he, mtl_getD _ _ _ h]
  rw [hn] at hc hl ⊢
  clear he hn
  go_enter Tryd.func24, Tryd.ntmps24
  go_wp2
  go_loopw [1, 5] (fun q i wr => ∃ k : Nat, k ≤ n ∧ q = .int .i64 ((k0 + k : Nat) : Int) ∧ i = .int .i64 k ∧ Below w.heap.size w wr)
    (fun _ i _ => n - (intOf i).toNat)
  case atStart => exact ⟨0, Nat.zero_le _, by simp, rfl, Below.refl _ _⟩
  case round =>
    obtain ⟨k, hk, rfl, rfl, hBr⟩ := hrel
    by_cases hlt : k < n
    · obtain ⟨b, off, rfl, hb, hcell⟩ := hc (by omega)
      have hM := fun W => markText_any (k0 + k) W (by omega) (by omega)
      have hce : wr.cell? ⟨b, off + k, none⟩ = some (.string (mtB (k0 + k))) := by rw [hBr.cell (p := ⟨b, off + k, none⟩) hb, hcell k hlt, hg k hlt]
      generalize mtB (k0 + k) = M at hM hce
      obtain ⟨kk, hkk⟩ : ∃ kk, k0 + k = kk := ⟨_, rfl⟩
      rw [hkk] at hM ⊢
      have wk := wrap64_id (a := (kk : Int) + 1) (by omega) (by omega)
      have hbr : b < wr.heap.size := Nat.lt_of_lt_of_le hb hBr.size
      clear hg hcell hc
      go_wp2_with fail
      go_region_held3 (fun W => W.cell? ⟨b, off + k, none⟩ = some (.string M)) (go_keep) (first | (go_at_call 52; refine (hM _).mono ?_; rintro e w1 ⟨rfl, hB1⟩; have hce1 : w1.cell? ⟨b, off + k, none⟩ = some (.string M) := (hB1.cell (p := ⟨b, off + k, none⟩) (by first | exact hbr | simpa using hbr)).trans hce))
      all_goals go_wp2
      all_goals go_roundw
      case rel => exact ⟨k + 1, by omega, by (first | (rw [← hkk]; go_num) | (simp [← hkk]; omega)), by go_num, by first | exact hBr.drew.trans (hB1.mono hBr.drew.size) | exact hBr.trans (hB1.mono hBr.size) | exact (hBr.drew.trans (hB1.mono hBr.drew.size)).drew⟩
      case measure => simp [intOf]; omega
    · go_wp2
      go_ret
      have hk' : k = n := by omega
      subst hk'
      exact ⟨rfl, hBr⟩
end Go.Proofs.YtakbmjndhejfpaaDoor
