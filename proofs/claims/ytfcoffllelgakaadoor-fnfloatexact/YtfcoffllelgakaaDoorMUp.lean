import Derived.Test.YtfcoffllelgakaaDoorPlus
import Derived.Test.YtfcoffllelgakaaDoorShl
import Derived.Laws.BitsAllLaws
namespace Go.Proofs.YtfcoffllelgakaaDoor
open Go.RowKit
set_option linter.unusedVariables false
set_option linter.unusedSimpArgs false

theorem up_step {V P c A t D E X : Nat} (h : V + P * c = A * t) (hd : D + 4294967296 * E = c + X * t) : V + P * D + 4294967296 * P * E = (A + P * X) * t := by
  have h1 : P * D + P * (4294967296 * E) = P * c + P * (X * t) := by rw [← Nat.mul_add, ← Nat.mul_add, hd]
  have h2 : 4294967296 * P * E = P * (4294967296 * E) := by rw [Nat.mul_comm 4294967296 P, Nat.mul_assoc]
  have h3 : (A + P * X) * t = A * t + P * (X * t) := by rw [Nat.add_mul, Nat.mul_assoc P X t]
  rw [h2, h3, ← h]; omega

/-- What was carried in has place below what comes. -/
theorem or_up (c x s : Nat) (hs : s < 32) (hc : c < 2 ^ s) (hx : x < 4294967296) : bits .or .u32 (c : Int) (((x * 2 ^ s % 4294967296 : Nat) : Int)) = ((c + x * 2 ^ s % 4294967296 : Nat) : Int) ∧ c + x * 2 ^ s % 4294967296 < 4294967296 ∧ x * 2 ^ s / 4294967296 < 2 ^ s ∧ x * 2 ^ s < 9223372036854775808 := by
  have h2 : (2 : Nat) ^ s ≤ 2 ^ 31 := Nat.pow_le_pow_right (by decide) (by omega)
  have h31 : (2 : Nat) ^ 31 = 2147483648 := by decide
  have hm : x * 2 ^ s % 4294967296 = 2 ^ s * (x % 2 ^ (32 - s)) := by
    have e : (4294967296 : Nat) = 2 ^ s * 2 ^ (32 - s) := by rw [← Nat.pow_add, show s + (32 - s) = 32 from by omega]
    rw [e, Nat.mul_comm x, Nat.mul_mod_mul_left]
  have hor := Nat.two_pow_add_eq_or_of_lt (i := s) (b := c) hc (x % 2 ^ (32 - s))
  have hlt : x * 2 ^ s % 4294967296 < 4294967296 := Nat.mod_lt _ (by decide)
  have hb : x * 2 ^ s % 4294967296 ||| c < 2 ^ 32 := Nat.or_lt_two_pow (by omega) (by omega)
  have hx2 : x * 2 ^ s < 4294967296 * 2 ^ s := Nat.mul_lt_mul_of_pos_right hx (Nat.two_pow_pos s)
  refine ⟨?_, ?_, ?_, ?_⟩
  · rw [u32_or_nat _ _ (by omega) (by omega), Nat.or_comm, hm, ← hor, Nat.add_comm]
  · rw [hm, ← hor, ← hm] at hb; omega
  · exact Nat.div_lt_of_lt_mul hx2
  · omega

theorem up_wraps (c x s : Nat) (h : bits .or .u32 (c : Int) (((x * 2 ^ s % 4294967296 : Nat) : Int)) = ((c + x * 2 ^ s % 4294967296 : Nat) : Int)) (h4 : x * 2 ^ s < 9223372036854775808) :
    bits .or .u32 (c : Int) (IntKind.u64.wrap ((x : Int) * 2 ^ s) % 4294967296) = ((c + x * 2 ^ s % 4294967296 : Nat) : Int) ∧ IntKind.u64.wrap ((x : Int) * 2 ^ s) / 4294967296 % 4294967296 = ((x * 2 ^ s / 4294967296 : Nat) : Int) := by
  have e : (x : Int) * 2 ^ s = ((x * 2 ^ s : Nat) : Int) := by rw [Int.natCast_mul, Int.natCast_pow]; rfl
  have e2 : IntKind.u64.wrap ((x : Int) * 2 ^ s) = ((x * 2 ^ s : Nat) : Int) := by
    rw [e, IntKind.wrap_u64]; omega
  rw [e2]
  generalize x * 2 ^ s = y at h h4
  refine ⟨?_, by omega⟩
  rw [← h, show (((y % 4294967296 : Nat)) : Int) = (y : Int) % 4294967296 from by omega]

set_option maxHeartbeats 2000000 in
set_option maxRecDepth 100000 in
theorem movedUp_any (v : Value) (xs : List Int) (n : Nat) (w : World) (hx : Rd w v xs) (hlx : xs.length ≤ 1048576) (hn : n ≤ 1048576) :
    Calls Tryd.prog 77 #[v, .int .i64 n] w fun e w' => ∃ a c, e = .returned (.slice a (lim (val xs * 2 ^ n)).length c) ∧ Own w' w.heap.size (.slice a (lim (val xs * 2 ^ n)).length c) (lim (val xs * 2 ^ n)) ∧ Below w.heap.size w w' := by
  obtain ⟨a, cap, rfl, _, hzx, hnx, hcx⟩ := hx
  clear hnx
  have hT := fun B n' cp a W L (hO : Own W B (.slice a n' cp) L) (he : val L = val xs * 2 ^ n) => he ▸ trimmed_any B n' cp a L W hO
  have hE0 := shl_val (val xs) n
  generalize hQ : lim (val xs * 2 ^ n) = Q at hT ⊢
  clear hQ
  obtain ⟨q, hq⟩ : ∃ q, q = n / 32 := ⟨_, rfl⟩
  obtain ⟨s, hs⟩ : ∃ s, s = n % 32 := ⟨_, rfl⟩
  have hq' : (n : Int) / 32 = (q : Int) := by omega
  have hs' : (n : Int) % 32 = (s : Int) := by omega
  have hs32 : s < 32 := by omega
  have hq32 : q ≤ 1048576 := by omega
  rw [← hq, ← hs] at hE0
  have HE : Hid (4294967296 ^ q * (val xs * 2 ^ s) = val xs * 2 ^ n) := hE0
  clear hE0 hq hs
  obtain ⟨i0, hi, hz0, hz1, hz2⟩ := info_parts Tryd.info48
  go_enter Tryd.func77, Tryd.ntmps77
  go_wp2_with (at_make; refine wpList_make_full _ rfl _ _ 66 rfl w.heap.size 48 i0 (.int .u32 0) 1 Tryd.underlying66 hi hz0 hz1 .i64 .i64 _ _ (q + xs.length + 1) rfl rfl (by go_num) (by go_num) (by rw [hz2]; omega) (by unfold maxLen; omega) (Nat.le_refl _) ?_; intro w1 hown hgrow)
  have hO : Own w1 w.heap.size _ (List.replicate (q + xs.length + 1) 0) := Own.made (by omega) hown
  have hB : Below w.heap.size w w1 := (Below.refl _ _).grown hgrow (Nat.le_refl _) (by intro k h; cases h)
  clear hown hgrow hi hz0 hz1 hz2
  go_loopw [8, 9, 10, 23] (fun _ _ _ i wr => ∃ (k c : Nat) (Z : List Int), k ≤ xs.length ∧ i = .int .i64 k ∧ c < 2 ^ s ∧ Z.length = q + k ∧ Own wr w.heap.size (.slice (some ⟨w.heap.size, 0, none⟩) (q + xs.length + 1) (q + xs.length + 1)) (Z ++ (c : Int) :: List.replicate (xs.length - k) 0) ∧ val Z + 4294967296 ^ (q + k) * c = 4294967296 ^ q * val (xs.take k) * 2 ^ s ∧ Below w.heap.size w wr)
    (fun _ _ _ i _ => xs.length - (intOf i).toNat)
  case atStart =>
    refine ⟨0, 0, List.replicate q 0, Nat.zero_le _, rfl, Nat.two_pow_pos s, by simp, ?_, ?_, hB⟩
    · have e : List.replicate (q + xs.length + 1) (0 : Int) = List.replicate q 0 ++ ((0 : Nat) : Int) :: List.replicate (xs.length - 0) 0 := by
        rw [Nat.add_assoc, ← List.replicate_append_replicate, List.replicate_succ]; rfl
      rw [e] at hO; exact hO
    · have := val_zeros_append q []
      simp [val] at this ⊢
      exact this
  case round =>
    obtain ⟨k, c, Z, hk, rfl, hc1, hZl, hOw, hV, hBr⟩ := hrel
    clear hO hB
    by_cases hlt : k < xs.length
    · obtain ⟨b, off, rfl, hb, hcell⟩ := hcx (by omega)
      have hce : wr.cell? ⟨b, off + k, none⟩ = some (.int .u32 (xs.getD k 0)) := (hBr.cell (p := ⟨b, off + k, none⟩) hb).trans (hcell k hlt)
      have hSx := val_take_succ xs k
      have hXb := hzx.get k
      obtain ⟨X, hX⟩ : ∃ X : Nat, xs.getD k 0 = (X : Int) := ⟨(xs.getD k 0).toNat, by omega⟩
      rw [hX] at hXb hSx hce
      rw [Int.toNat_natCast] at hSx
      obtain ⟨ho1, ho2, ho3, ho4⟩ := or_up c X s hs32 hc1 (by omega)
      have HS : Hid (val (Z ++ [((c + X * 2 ^ s % 4294967296 : Nat) : Int)]) + 4294967296 ^ (q + (k + 1)) * (X * 2 ^ s / 4294967296) = 4294967296 ^ q * val (xs.take (k + 1)) * 2 ^ s) := by
        show _ = _
        have := up_step (D := c + X * 2 ^ s % 4294967296) (E := X * 2 ^ s / 4294967296) (X := X) hV (by omega)
        rw [val_append, hZl, ← Nat.add_assoc, Nat.pow_succ, Nat.mul_comm (4294967296 ^ (q + k)) 4294967296, hSx, Nat.mul_add, ← Nat.mul_assoc, ← Nat.pow_add, ← this]
        simp only [val, Int.toNat_natCast, Nat.mul_zero, Nat.add_zero]
      have hll : (Z ++ (c : Int) :: List.replicate (xs.length - k) 0).length = q + xs.length + 1 := by simp; omega
      have hck : wr.cell? ⟨w.heap.size, q + k, none⟩ = some (.int .u32 c) := by
        rw [hOw.cell (q + k) (by omega)]; simp [List.getD, ← hZl]
      obtain ⟨u1, hck1⟩ : ∃ u1, wr.cell? ⟨w.heap.size, q + k + 1, none⟩ = some u1 := ⟨_, hOw.cell (q + k + 1) (by omega)⟩
      have hf0 := hOw.frozen (q + k)
      have hf1 := hOw.frozen (q + k + 1)
      have hSt := (hOw.store (q + k) (z := ((c + X * 2 ^ s % 4294967296 : Nat) : Int)) (by omega) (by omega)).store (q + k + 1) (z := ((X * 2 ^ s / 4294967296 : Nat) : Int)) (by omega) (by omega)
      have hse := set_two Z c ((c + X * 2 ^ s % 4294967296 : Nat) : Int) ((X * 2 ^ s / 4294967296 : Nat) : Int) (xs.length - (k + 1))
      rw [hZl, show xs.length - (k + 1) + 1 = xs.length - k from by omega] at hse
      rw [hse] at hSt
      have HSt : Hid _ := hSt
      have EW : Hid _ := up_wraps c X s ho1 ho4
      have hi1 : (q : Int) + (k : Int) < (q : Int) + (xs.length : Int) + 1 := by omega
      have hi2 : (q : Int) + (k : Int) + 1 < (q : Int) + (xs.length : Int) + 1 := by omega
      have hi4 : (k : Int) < (xs.length : Int) := by omega
      have hi5 : ((q : Int) + (k : Int)).toNat = q + k := by omega
      have hi6 : ((q : Int) + (k : Int) + 1).toNat = q + k + 1 := by omega
      clear hse hV hSx hOw hcell hcx hT hSt hll ho1
      go_wp2
      rw [EW.out.1, EW.out.2]
      go_roundw
      case rel => exact ⟨k + 1, _, Z ++ [((c + X * 2 ^ s % 4294967296 : Nat) : Int)], by omega, by go_num, ho3, by simp [hZl, Nat.add_assoc], HSt.out, HS.out, (hBr.setCell (Nat.le_refl _) _).setCell (Nat.le_refl _) _⟩
      case measure => simp [intOf]; omega
    · have hkN : k = xs.length := by omega
      have hVE : val (Z ++ (c : Int) :: List.replicate (xs.length - k) 0) = val xs * 2 ^ n := by
        rw [List.take_of_length_le (by omega)] at hV
        rw [← HE.out, ← Nat.mul_assoc, ← hV, hkN, Nat.sub_self, val_append, hZl, hkN]
        simp [val]
      have hK := hT _ _ _ _ _ _ hOw hVE
      clear hVE hV hT hOw hcx
      go_wp2_with fail
      refine hK.mono ?_
      rintro e w2 ⟨a2, c2, rfl, hO2, rfl⟩
      clear hK
      go_wp2
      go_ret
      exact ⟨a2, c2, rfl, hO2, hBr⟩
end Go.Proofs.YtfcoffllelgakaaDoor
