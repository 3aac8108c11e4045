import Derived.Test.YtfcoffllelgakaaDoorAdd
import Derived.Test.YtfcoffllelgakaaDoorBits
namespace Go.Proofs.YtfcoffllelgakaaDoor
open Go.RowKit
set_option linter.unusedVariables false
set_option linter.unusedSimpArgs false

/-- -1, 0, 1. -/
def cmpN (m n : Nat) : Int := if m < n then -1 else if n < m then 1 else 0
theorem cmpN_lt {m n : Nat} (h : m < n) : cmpN m n = -1 := by unfold cmpN; rw [if_pos h]
theorem cmpN_gt {m n : Nat} (h : n < m) : cmpN m n = 1 := by unfold cmpN; rw [if_neg (by omega), if_pos h]
theorem cmpN_eq (m : Nat) : cmpN m m = 0 := by unfold cmpN; rw [if_neg (by omega), if_neg (by omega)]

theorem val_split (zs : List Int) (k : Nat) (hk : k < zs.length) : val zs = val (zs.take k) + 4294967296 ^ k * ((zs.getD k 0).toNat + 4294967296 * val (zs.drop (k + 1))) := by
  have e : zs = zs.take k ++ (zs[k] :: zs.drop (k + 1)) := by
    rw [← List.drop_eq_getElem_cons hk, List.take_append_drop]
  have hl : (zs.take k).length = k := by simp; omega
  have hg : zs.getD k 0 = zs[k] := by simp [List.getD, hk]
  rw [hg]
  calc val zs = val (zs.take k ++ (zs[k] :: zs.drop (k + 1))) := by rw [← e]
    _ = _ := by rw [val_append, hl]; rfl

theorem val_lt_of_top {xs ys : List Int} (hx : Limbs xs) (hy : Limbs ys) (hl : xs.length = ys.length) (k : Nat) (hk : k < xs.length) (ht : xs.drop (k + 1) = ys.drop (k + 1)) (h : xs.getD k 0 < ys.getD k 0) : val xs < val ys := by
  rw [val_split xs k hk, val_split ys k (by omega), ht]
  have h1 := val_lt (hx.take k)
  have hl : (xs.take k).length = k := by simp; omega
  rw [hl] at h1
  have hx0 := hx.get k
  have h2 : (xs.getD k 0).toNat + 1 ≤ (ys.getD k 0).toNat := by omega
  have h3 : 4294967296 ^ k * ((xs.getD k 0).toNat + 1 + 4294967296 * val (ys.drop (k + 1))) ≤ 4294967296 ^ k * ((ys.getD k 0).toNat + 4294967296 * val (ys.drop (k + 1))) := Nat.mul_le_mul_left _ (by omega)
  have h4 : 4294967296 ^ k * ((xs.getD k 0).toNat + 1 + 4294967296 * val (ys.drop (k + 1))) = 4294967296 ^ k * ((xs.getD k 0).toNat + 4294967296 * val (ys.drop (k + 1))) + 4294967296 ^ k := by
    rw [show (xs.getD k 0).toNat + 1 + 4294967296 * val (ys.drop (k + 1)) = ((xs.getD k 0).toNat + 4294967296 * val (ys.drop (k + 1))) + 1 from by omega, Nat.mul_add, Nat.mul_one]
  omega

theorem val_lt_of_len {xs ys : List Int} (hx : Limbs xs) (hy : Limbs ys) (hn : Norm ys) (hl : xs.length < ys.length) : val xs < val ys := by
  have h1 := val_lt hx
  have h2 := le_val hy hn (by omega)
  have h3 : 4294967296 ^ xs.length ≤ 4294967296 ^ (ys.length - 1) := Nat.pow_le_pow_right (by omega) (by omega)
  omega

set_option maxHeartbeats 1000000 in
set_option maxRecDepth 100000 in
theorem cmpS_any (v u : Value) (xs ys : List Int) (w : World) (hx : Rd w v xs) (hy : Rd w u ys) (nx : Norm xs) (ny : Norm ys) :
    Calls Tryd.prog 55 #[v, u] w fun e w' => e = .returned (.int .i64 (cmpN (val xs) (val ys))) ∧ Below w.heap.size w w' := by
  obtain ⟨a, cap, rfl, hlx, hzx, hnx, hcx⟩ := hx
  obtain ⟨a', cap', rfl, hly, hzy, hny, hcy⟩ := hy
  by_cases hlen : xs.length = ys.length
  · have hle : ((xs.length : Int) != (ys.length : Int)) = false := by rw [hlen]; simp
    go_enter Tryd.func55, Tryd.ntmps55
    go_wp2
    go_loopw [5] (fun i wr => ∃ k : Nat, k ≤ xs.length ∧ i = .int .i64 ((k : Int) - 1) ∧ xs.drop k = ys.drop k ∧ Below w.heap.size w wr) (fun i _ => (intOf i + 1).toNat)
    case atStart => exact ⟨xs.length, Nat.le_refl _, by go_num, by rw [List.drop_of_length_le (Nat.le_refl _), List.drop_of_length_le (by omega)], Below.refl _ _⟩
    case round =>
      obtain ⟨k, hk, rfl, hd, hBr⟩ := hrel
      by_cases hk0 : k = 0
      · subst hk0
        have hxy : xs = ys := by simpa using hd
        subst hxy
        clear hd hlen hcx hcy
        go_wp2
        go_ret
        exact ⟨by rw [cmpN_eq]; rfl, hBr⟩
      · obtain ⟨j, rfl⟩ : ∃ j, k = j + 1 := ⟨k - 1, by omega⟩
        obtain ⟨b, off, rfl, hb, hcell⟩ := hcx (by omega)
        obtain ⟨b', off', rfl, hb', hcell'⟩ := hcy (by omega)
        have hce : wr.cell? ⟨b, off + j, none⟩ = some (.int .u32 (xs.getD j 0)) := (hBr.cell (p := ⟨b, off + j, none⟩) hb).trans (hcell j (by omega))
        have hce' : wr.cell? ⟨b', off' + j, none⟩ = some (.int .u32 (ys.getD j 0)) := (hBr.cell (p := ⟨b', off' + j, none⟩) hb').trans (hcell' j (by omega))
        have hj : j < xs.length := by omega
        have hj' : j < ys.length := by omega
        have HLT : Hid (xs.getD j 0 < ys.getD j 0 → val xs < val ys) := fun h => val_lt_of_top hzx hzy hlen j hj hd h
        have HGT : Hid (ys.getD j 0 < xs.getD j 0 → val ys < val xs) := fun h => val_lt_of_top hzy hzx hlen.symm j hj' hd.symm h
        have HEQ : Hid (xs.getD j 0 = ys.getD j 0 → xs.drop j = ys.drop j) := fun h => by
          have e1 : xs[j] = ys[j] := by simpa [List.getD, hj, hj'] using h
          rw [List.drop_eq_getElem_cons hj, List.drop_eq_getElem_cons hj', hd, e1]
        have hji : ((j + 1 : Nat) : Int) - 1 = (j : Int) := by omega
        rw [hji]
        generalize xs.getD j 0 = X at hce HLT HGT HEQ
        generalize ys.getD j 0 = Y at hce' HLT HGT HEQ
        clear hcell hcell' hcx hcy hd hlen hji
        by_cases hXY : X = Y
        · subst hXY
          have hD := HEQ.out rfl
          clear HLT HGT HEQ
          have HD : Hid (xs.drop j = ys.drop j) := hD
          clear hD
          have hne : (X != X) = false := by simp
          go_wp2
          go_region
          all_goals go_wp2
          all_goals go_roundw
          all_goals first | exact ⟨j, by omega, by go_num, HD.out, hBr.drew⟩ | (simp [intOf]; done) | (simp [intOf]; omega)
        · have hne : (X != Y) = true := by simpa using hXY
          by_cases hXl : X < Y
          · have HV : Hid (cmpN (val xs) (val ys) = -1) := cmpN_lt (HLT.out hXl)
            clear HLT HGT HEQ
            go_wp2
            go_region
            all_goals go_wp2
            all_goals go_region
            all_goals go_wp2
            all_goals go_ret
            all_goals exact ⟨by rw [HV.out]; rfl, hBr.drew.drew⟩
          · have HV : Hid (cmpN (val xs) (val ys) = 1) := cmpN_gt (HGT.out (by omega))
            clear HLT HGT HEQ
            go_wp2
            go_region
            all_goals go_wp2
            all_goals go_region
            all_goals go_wp2
            all_goals go_ret
            all_goals exact ⟨by rw [HV.out]; rfl, hBr.drew.drew⟩
  · have hle : ((xs.length : Int) != (ys.length : Int)) = true := by simp; omega
    by_cases hl2 : xs.length < ys.length
    · have HV : Hid (cmpN (val xs) (val ys) = -1) := cmpN_lt (val_lt_of_len hzx hzy ny hl2)
      have hl3 : (xs.length : Int) < (ys.length : Int) := by omega
      clear hcx hcy hlen
      go_enter Tryd.func55, Tryd.ntmps55
      go_wp2
      go_ret
      exact ⟨by rw [HV.out]; rfl, Below.refl _ _⟩
    · have HV : Hid (cmpN (val xs) (val ys) = 1) := cmpN_gt (val_lt_of_len hzy hzx nx (by omega))
      have hl3 : (ys.length : Int) < (xs.length : Int) := by omega
      clear hcx hcy hlen
      go_enter Tryd.func55, Tryd.ntmps55
      go_wp2
      go_ret
      exact ⟨by rw [HV.out]; rfl, Below.refl _ _⟩


theorem cmp32_any (x y : Int) (w : World) :
    Calls Tryd.prog 96 #[.int .u32 x, .int .u32 y] w fun e w' => e = .returned (.int .i64 (if x < y then -1 else if y < x then 1 else 0)) ∧ w' = w := by
  have hn : ∀ z : Int, (z != z) = false := fun z => by simp
  by_cases h1 : x < y
  · go_enter Tryd.func96, Tryd.ntmps96
    go_wp2
    go_ret
    exact ⟨rfl, rfl⟩
  · by_cases h2 : y < x
    · go_enter Tryd.func96, Tryd.ntmps96
      go_wp2
      go_ret
      exact ⟨rfl, rfl⟩
    · go_enter Tryd.func96, Tryd.ntmps96
      go_wp2
      go_ret
      exact ⟨rfl, rfl⟩


theorem cmpI_any (x y : Int) (w : World) :
    Calls Tryd.prog 95 #[.int .i64 x, .int .i64 y] w fun e w' => e = .returned (.int .i64 (if x < y then -1 else if y < x then 1 else 0)) ∧ w' = w := by
  have hn : ∀ z : Int, (z != z) = false := fun z => by simp
  by_cases h1 : x < y
  · go_enter Tryd.func95, Tryd.ntmps95
    go_wp2
    go_ret
    exact ⟨rfl, rfl⟩
  · by_cases h2 : y < x
    · go_enter Tryd.func95, Tryd.ntmps95
      go_wp2
      go_ret
      exact ⟨rfl, rfl⟩
    · go_enter Tryd.func95, Tryd.ntmps95
      go_wp2
      go_ret
      exact ⟨rfl, rfl⟩

set_option maxHeartbeats 1000000 in
set_option maxRecDepth 100000 in
theorem compare_any (v u : Value) (xs ys : List Int) (w : World) (hx : Rd w v xs) (hy : Rd w u ys) (nx : Norm xs) (ny : Norm ys) :
    Calls Tryd.prog 83 #[v, u] w fun e w' => e = .returned (.int .i64 (cmpN (val xs) (val ys))) ∧ Below w.heap.size w w' := by
  obtain ⟨a, cap, rfl, hlx, hzx, hnx, hcx⟩ := hx
  obtain ⟨a', cap', rfl, hly, hzy, hny, hcy⟩ := hy
  by_cases hlen : xs.length = ys.length
  · have hle : ((xs.length : Int) != (ys.length : Int)) = false := by rw [hlen]; simp
    go_enter Tryd.func83, Tryd.ntmps83
    go_wp2
    go_loopw [5] (fun i wr => ∃ k : Nat, k ≤ xs.length ∧ i = .int .i64 ((k : Int) - 1) ∧ xs.drop k = ys.drop k ∧ Below w.heap.size w wr) (fun i _ => (intOf i + 1).toNat)
    case atStart => exact ⟨xs.length, Nat.le_refl _, by go_num, by rw [List.drop_of_length_le (Nat.le_refl _), List.drop_of_length_le (by omega)], Below.refl _ _⟩
    case round =>
      obtain ⟨k, hk, rfl, hd, hBr⟩ := hrel
      by_cases hk0 : k = 0
      · subst hk0
        have hxy : xs = ys := by simpa using hd
        subst hxy
        clear hd hlen hcx hcy
        go_wp2
        go_ret
        exact ⟨by rw [cmpN_eq]; rfl, hBr⟩
      · obtain ⟨j, rfl⟩ : ∃ j, k = j + 1 := ⟨k - 1, by omega⟩
        obtain ⟨b, off, rfl, hb, hcell⟩ := hcx (by omega)
        obtain ⟨b', off', rfl, hb', hcell'⟩ := hcy (by omega)
        have hce : wr.cell? ⟨b, off + j, none⟩ = some (.int .u32 (xs.getD j 0)) := (hBr.cell (p := ⟨b, off + j, none⟩) hb).trans (hcell j (by omega))
        have hce' : wr.cell? ⟨b', off' + j, none⟩ = some (.int .u32 (ys.getD j 0)) := (hBr.cell (p := ⟨b', off' + j, none⟩) hb').trans (hcell' j (by omega))
        have hj : j < xs.length := by omega
        have hj' : j < ys.length := by omega
        have HLT : Hid (xs.getD j 0 < ys.getD j 0 → val xs < val ys) := fun h => val_lt_of_top hzx hzy hlen j hj hd h
        have HGT : Hid (ys.getD j 0 < xs.getD j 0 → val ys < val xs) := fun h => val_lt_of_top hzy hzx hlen.symm j hj' hd.symm h
        have HEQ : Hid (xs.getD j 0 = ys.getD j 0 → xs.drop j = ys.drop j) := fun h => by
          have e1 : xs[j] = ys[j] := by simpa [List.getD, hj, hj'] using h
          rw [List.drop_eq_getElem_cons hj, List.drop_eq_getElem_cons hj', hd, e1]
        have hji : ((j + 1 : Nat) : Int) - 1 = (j : Int) := by omega
        rw [hji]
        generalize xs.getD j 0 = X at hce HLT HGT HEQ
        generalize ys.getD j 0 = Y at hce' HLT HGT HEQ
        clear hcell hcell' hcx hcy hd hlen hji
        by_cases hXY : X = Y
        · subst hXY
          have hD := HEQ.out rfl
          clear HLT HGT HEQ
          have HD : Hid (xs.drop j = ys.drop j) := hD
          clear hD
          have hne : (X != X) = false := by simp
          go_wp2
          go_region
          all_goals go_wp2
          all_goals go_roundw
          all_goals first | exact ⟨j, by omega, by go_num, HD.out, hBr.drew⟩ | (simp [intOf]; done) | (simp [intOf]; omega)
        · have hne : (X != Y) = true := by simpa using hXY
          by_cases hXl : X < Y
          · have HV : Hid (cmpN (val xs) (val ys) = -1) := cmpN_lt (HLT.out hXl)
            clear HLT HGT HEQ
            have hK := fun W => cmp32_any X Y W
            first | rw [if_pos hXl] at hK | rw [if_neg hXl, if_pos (by omega)] at hK
            go_wp2
            go_region
            all_goals go_wp2
            all_goals go_region_with (go_at_call 96; refine (hK _).mono ?_; rintro e w2 ⟨rfl, rfl⟩)
            all_goals go_wp2
            all_goals go_ret
            all_goals exact ⟨by rw [HV.out]; rfl, hBr.drew.drew⟩
          · have HV : Hid (cmpN (val xs) (val ys) = 1) := cmpN_gt (HGT.out (by omega))
            clear HLT HGT HEQ
            have hK := fun W => cmp32_any X Y W
            first | rw [if_pos hXl] at hK | rw [if_neg hXl, if_pos (by omega)] at hK
            go_wp2
            go_region
            all_goals go_wp2
            all_goals go_region_with (go_at_call 96; refine (hK _).mono ?_; rintro e w2 ⟨rfl, rfl⟩)
            all_goals go_wp2
            all_goals go_ret
            all_goals exact ⟨by rw [HV.out]; rfl, hBr.drew.drew⟩
  · have hle : ((xs.length : Int) != (ys.length : Int)) = true := by simp; omega
    by_cases hl2 : xs.length < ys.length
    · have HV : Hid (cmpN (val xs) (val ys) = -1) := cmpN_lt (val_lt_of_len hzx hzy ny hl2)
      have hl3 : (xs.length : Int) < (ys.length : Int) := by omega
      clear hcx hcy hlen
      have hK := fun W => cmpI_any xs.length ys.length W
      first | rw [if_pos hl3] at hK | rw [if_neg (by omega), if_pos hl3] at hK
      go_enter Tryd.func83, Tryd.ntmps83
      go_wp2_with fail
      refine (hK _).mono ?_
      rintro e w2 ⟨rfl, rfl⟩
      go_wp2
      go_ret
      exact ⟨by rw [HV.out]; rfl, Below.refl _ _⟩
    · have HV : Hid (cmpN (val xs) (val ys) = 1) := cmpN_gt (val_lt_of_len hzy hzx nx (by omega))
      have hl3 : (ys.length : Int) < (xs.length : Int) := by omega
      clear hcx hcy hlen
      have hK := fun W => cmpI_any xs.length ys.length W
      first | rw [if_pos hl3] at hK | rw [if_neg (by omega), if_pos hl3] at hK
      go_enter Tryd.func83, Tryd.ntmps83
      go_wp2_with fail
      refine (hK _).mono ?_
      rintro e w2 ⟨rfl, rfl⟩
      go_wp2
      go_ret
      exact ⟨by rw [HV.out]; rfl, Below.refl _ _⟩
end Go.Proofs.YtfcoffllelgakaaDoor
