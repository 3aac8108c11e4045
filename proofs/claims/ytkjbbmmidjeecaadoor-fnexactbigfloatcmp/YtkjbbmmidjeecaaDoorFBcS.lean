import Derived.Test.YtkjbbmmidjeecaaDoorFBcM
namespace Go.Proofs.YtkjbbmmidjeecaaDoor
open Go.RowKit
set_option linter.unusedVariables false
set_option linter.unusedSimpArgs false

theorem bfc_bad {p : Bool} {xs : List Int} {x : Nat} (h : okB p xs = false) : bfc p xs x = 2 := by
  unfold bfc; rw [if_neg (fun e => by rw [h] at e; cases e.1)]
theorem bfc_nan {p : Bool} {xs : List Int} {x : Nat} (h : isN x = true) : bfc p xs x = 2 := by
  unfold bfc; rw [if_neg (fun e => by rw [h] at e; cases e.2)]
theorem bfc_inf {p : Bool} {xs : List Int} {x : Nat} (h : okB p xs = true) (hn : isN x = false) (hi : isI x = true) : bfc p xs x = if fneg x = true then 1 else -1 := by
  unfold bfc; rw [if_pos ⟨h, hn⟩, if_pos hi]
theorem bfc_fin {p : Bool} {xs : List Int} {x : Nat} (h : okB p xs = true) (hn : isN x = false) (hi : isI x = false) : bfc p xs x = cmpI (sgn p (val xs) * (lowP : Int)) (sgn (fneg x) (fu x)) := by
  unfold bfc; rw [if_pos ⟨h, hn⟩, if_neg (by rw [hi]; decide)]
theorem sgn_nz (s : Bool) (n : Nat) : sgn (nz s n) n = sgn s n := by
  unfold sgn nz
  cases s with
  | false => rfl
  | true =>
    by_cases h : 0 < n
    · simp [h]
    · have : n = 0 := by omega
      subst this; rfl
theorem len_shift {zs : List Int} (hz : Limbs zs) (e k : Nat) (he : e ≤ 32 * k) : (lim (val zs * 2 ^ e)).length ≤ zs.length + k := by
  refine lim_length_le ?_
  rw [Nat.pow_add]
  have h1 := val_lt hz
  have h2 : 2 ^ e ≤ 4294967296 ^ k := by rw [R_pow]; exact Nat.pow_le_pow_right (by decide) he
  exact Nat.lt_of_lt_of_le (Nat.mul_lt_mul_of_pos_right h1 (Nat.two_pow_pos e)) (Nat.mul_le_mul_left _ h2)
theorem nz_true {s : Bool} {n : Nat} (h : nz s n = true) : 0 < n := by
  unfold nz at h
  simp at h
  exact h.2
set_option maxHeartbeats 1000000 in
set_option maxRecDepth 100000 in
theorem bigFloatCmpS_any (p : Bool) (v : Value) (xs : List Int) (x : Int) (w : World) (hx : Rd w v xs) (h0 : 0 ≤ x) (h1 : x ≤ 18446744073709551615) :
    Calls Tryd.prog 15 #[.agg #[.bool p, v], .int .u64 x] w fun e w' => e = .returned (.int .i64 (bfc p xs x.toNat)) ∧ Below w.heap.size w w' := by
  have hx' := hx
  obtain ⟨a, cap, rfl, _, hzx, hnx, hcx⟩ := hx
  clear hcx hnx
  have hN := fun W => isNanS_any x W h0 h1
  have hI := fun W => isInfS_any x W h0 h1
  have hG := fun W => negS_any x W h0 h1
  have hok := fun W h => bigOkS_any p (.slice a xs.length cap) xs W h
  have bA := Box.new w (.bool p) (.slice a xs.length cap) 25
  have rx := hx'.alloc (Obj.cells #[.bool p, .slice a xs.length cap] 25)
  have hW := (Below.refl w.heap.size w).alloc (Nat.le_refl _) (Obj.cells #[.bool p, .slice a xs.length cap] 25)
  cases hoA : okB p xs with
  | false =>
    have HC : Hid (bfc p xs x.toNat = 2) := bfc_bad hoA
    rw [hoA] at hok
    clear hoA hx'
    go_enter Tryd.func15, Tryd.ntmps15
    go_wp2_with fail
    refine (hok _ rx).mono ?_
    rintro e w1 ⟨rfl, hB⟩
    replace hW := hW.trans (hB.mono hW.size)
    go_wp2
    go_ret
    exact ⟨by rw [HC.out]; rfl, hW⟩
  | true =>
    cases hn : isN x.toNat with
    | true =>
      have HC : Hid (bfc p xs x.toNat = 2) := bfc_nan hn
      rw [hoA] at hok
      rw [hn] at hN
      clear hoA hx' hn
      go_enter Tryd.func15, Tryd.ntmps15
      go_wp2_with fail
      refine (hok _ rx).mono ?_
      rintro e w1 ⟨rfl, hB⟩
      replace hW := hW.trans (hB.mono hW.size)
      go_wp2_with fail
      refine (hN _).mono ?_
      rintro e w2 ⟨rfl, rfl⟩
      go_wp2
      go_ret
      exact ⟨by rw [HC.out]; rfl, hW⟩
    | false =>
      cases hi : isI x.toNat with
      | true =>
        have hC := bfc_inf hoA hn hi
        rw [hoA] at hok
        rw [hn] at hN
        rw [hi] at hI
        clear hoA hx' hn hi
        cases hs : fneg x.toNat with
        | true =>
          rw [hs] at hG hC
          have HC : Hid (bfc p xs x.toNat = 1) := hC
          clear hC hs
          go_enter Tryd.func15, Tryd.ntmps15
          go_wp2_with fail
          refine (hok _ rx).mono ?_
          rintro e w1 ⟨rfl, hB⟩
          replace hW := hW.trans (hB.mono hW.size)
          go_wp2_with fail
          refine (hN _).mono ?_
          rintro e w2 ⟨rfl, rfl⟩
          go_wp2_with fail
          refine (hI _).mono ?_
          rintro e w2 ⟨rfl, rfl⟩
          go_wp2_with fail
          refine (hG _).mono ?_
          rintro e w2 ⟨rfl, rfl⟩
          go_wp2
          go_ret
          exact ⟨by rw [HC.out]; rfl, hW⟩
        | false =>
          rw [hs] at hG hC
          have HC : Hid (bfc p xs x.toNat = -1) := hC
          clear hC hs
          go_enter Tryd.func15, Tryd.ntmps15
          go_wp2_with fail
          refine (hok _ rx).mono ?_
          rintro e w1 ⟨rfl, hB⟩
          replace hW := hW.trans (hB.mono hW.size)
          go_wp2_with fail
          refine (hN _).mono ?_
          rintro e w2 ⟨rfl, rfl⟩
          go_wp2_with fail
          refine (hI _).mono ?_
          rintro e w2 ⟨rfl, rfl⟩
          go_wp2_with fail
          refine (hG _).mono ?_
          rintro e w2 ⟨rfl, rfl⟩
          go_wp2
          go_ret
          exact ⟨by rw [HC.out]; rfl, hW⟩
      | false =>
        have hlt := isN_lt hn hi
        have hC := bfc_fin hoA hn hi
        have hlx := (okB_norm hoA).2
        have hnx := (okB_norm hoA).1
        have hL := fun v W h => shlMag_any v xs lowE W h (by omega) (by decide)
        rw [low_eq, show ((lowE : Nat) : Int) = 1074 from rfl] at hL
        obtain ⟨AP, hAP⟩ : ∃ AP, val xs * lowP = AP := ⟨_, rfl⟩
        rw [hAP] at hL
        have hBg := fun v W h => l1Big_any p v (lim AP) W h
        rw [val_lim] at hBg
        have hWh := fun W => wholeS_any x W h0 h1
        have hul := lim_len_fu _ hlt
        have hal : (lim AP).length ≤ 1048576 := by
          have h3 := len_shift hzx lowE 34 (by decide)
          rw [low_eq, hAP] at h3
          omega
        have hO := fun p1 q1 v u W h h2 hp hq => orderS_any p1 q1 v u (lim AP) (lim (fu x.toNat)) W h h2 (lim_norm _) (lim_norm _) hal (by omega) hp hq
        rw [val_lim, val_lim] at hO
        have hO1 := fun v u W h h2 => hO (nz p AP) (nz (fneg x.toNat) (fu x.toNat)) v u W h h2 nz_true nz_true
        rw [order_cmpR, ordI_cmp, ← hAP, sgn_scale, ← hC] at hO1
        rw [hAP] at hO1
        rw [hoA] at hok
        rw [hn] at hN
        rw [hi] at hI
        clear hO hC hoA hn hi hal hul hAP hlt
        generalize bfc p xs x.toNat = R at hO1 ⊢
        generalize nz p AP = s1 at hBg hO1
        generalize nz (fneg x.toNat) (fu x.toNat) = s2 at hWh hO1
        generalize lim AP = L1 at hL hBg hO1
        generalize lim (fu x.toNat) = L2 at hWh hO1
        go_enter Tryd.func15, Tryd.ntmps15
        go_wp2_with fail
        refine (hok _ rx).mono ?_
        rintro e w1 ⟨rfl, hB⟩
        replace hW := hW.trans (hB.mono hW.size)
        replace bA := bA.keep hB
        replace rx := rx.keep hB
        clear hB
        obtain ⟨-, k0, k1⟩ := id bA
        go_wp2_with fail
        refine (hN _).mono ?_
        rintro e w2 ⟨rfl, rfl⟩
        go_wp2_with fail
        refine (hI _).mono ?_
        rintro e w2 ⟨rfl, rfl⟩
        go_wp2_with fail
        clear hok hN hI hG
        go_region_held3 (fun W => W.cell? ⟨w.heap.size, 0, none⟩ = some (.bool p) ∧ W.cell? ⟨w.heap.size, 1, none⟩ = some (.slice a xs.length cap)) (go_keep) (first | (go_at_call 42; refine (hL _ _ rx.drew).mono ?_; rintro e w3 ⟨a3, c3, rfl, o3, hB3⟩; have b3 := bA.drew.keep hB3; obtain ⟨-, x0, x1⟩ := id b3; have hW3 := hW.drew.trans (hB3.mono hW.size)) | (go_at_call 32; refine (hBg _ _ o3.rd).mono ?_; rintro e w4 ⟨a4, c4, rfl, o4, hB4⟩; have b4 := b3.keep hB4; obtain ⟨-, y0, y1⟩ := id b4; have hW4 := hW3.trans (hB4.mono hW3.size)) | (go_at_call 43; refine (hWh _).mono ?_; rintro e w5 ⟨a5, c5, rfl, o5, hB5⟩; have b5 := b4.keep hB5; obtain ⟨-, z0, z1⟩ := id b5; have hW5 := hW4.trans (hB5.mono hW4.size); have o45 := o4.keep hB5) | (go_at_call 41; refine (hO1 _ _ _ o45.rd o5.rd).mono ?_; rintro e w6 ⟨rfl, hB6⟩; have b6 := b5.keep hB6; obtain ⟨-, u0, u1⟩ := id b6; have hW6 := hW5.trans (hB6.mono hW5.size)))
        all_goals (try go_wp2)
        all_goals go_ret
        all_goals exact ⟨rfl, by first | exact hW6 | exact hW6.drew⟩
end Go.Proofs.YtkjbbmmidjeecaaDoor
