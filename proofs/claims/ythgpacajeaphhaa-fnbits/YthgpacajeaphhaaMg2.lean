import Derived.Test.YthgpacajeaphhaaMg1
import Derived.Laws.CopyOwn
namespace Go.Proofs.Ythgpacajeaphhaa
open Go.RowKit
set_option linter.unusedVariables false
set_option linter.unusedSimpArgs false

/-- The three operators, on numbers and on binary digits. -/
def bop (op : Int) (x y : Nat) : Nat := if op = 1 then x &&& y else if op = 2 then x ||| y else x ^^^ y
def bopB (op : Int) (x y : Bool) : Bool := if op = 1 then x && y else if op = 2 then x || y else x ^^ y
theorem testBit_bop (op : Int) (x y i : Nat) : (bop op x y).testBit i = bopB op (x.testBit i) (y.testBit i) := by
  unfold bop bopB
  split
  · exact Nat.testBit_and _ _ _
  · split
    · exact Nat.testBit_or _ _ _
    · exact Nat.testBit_xor _ _ _
theorem bop_lt (op : Int) {x y k : Nat} (hx : x < 2 ^ k) (hy : y < 2 ^ k) : bop op x y < 2 ^ k := by
  unfold bop
  split
  · exact Nat.and_lt_two_pow _ hy
  · split
    · exact Nat.or_lt_two_pow hx hy
    · exact Nat.xor_lt_two_pow hx hy
/-- Digit by digit: what stands above goes its own way. -/
theorem bop_step (op : Int) (k a b x y : Nat) (ha : a < 2 ^ k) (hb : b < 2 ^ k) : bop op (a + 2 ^ k * x) (b + 2 ^ k * y) = bop op a b + 2 ^ k * bop op x y := by
  have hab := bop_lt op ha hb
  refine Nat.eq_of_testBit_eq fun i => ?_
  rw [testBit_bop, Nat.add_comm a, Nat.add_comm b, Nat.add_comm (bop op a b), Nat.testBit_two_pow_mul_add _ ha, Nat.testBit_two_pow_mul_add _ hb, Nat.testBit_two_pow_mul_add _ hab]
  split
  · rw [testBit_bop]
  · rw [testBit_bop]

/-- The two's complement of a number in m binary digits, and its digits. -/
def tw (p : Bool) (m X : Nat) : Nat := if p = true then 2 ^ m - X else X
def dg (p : Bool) (X i : Nat) : Bool := if p = true then !(X - 1).testBit i else X.testBit i
theorem tw_lt (p : Bool) (m X : Nat) (hX : X < 2 ^ m) (hp : p = true → 0 < X) : tw p m X < 2 ^ m := by
  unfold tw
  split
  · rename_i h; have := hp h; omega
  · exact hX
theorem tw_bit (p : Bool) (m X i : Nat) (hX : X < 2 ^ m) (hp : p = true → 0 < X) (hi : i < m) : (tw p m X).testBit i = dg p X i := by
  unfold tw dg
  split
  · rename_i h
    have := hp h
    have h1 := Nat.testBit_two_pow_sub_succ (x := X - 1) (n := m) (by omega) i
    rw [show X - 1 + 1 = X from by omega] at h1
    rw [h1, decide_eq_true hi, Bool.true_and]
  · rfl
theorem dg_top (p : Bool) (X k i : Nat) (hX : X < 2 ^ k) (hi : k ≤ i) : dg p X i = p := by
  have h1 : 2 ^ k ≤ 2 ^ i := Nat.pow_le_pow_right (by decide) hi
  unfold dg
  cases p
  · simp [Nat.testBit_lt_two_pow (Nat.lt_of_lt_of_le hX h1)]
  · have : X - 1 < 2 ^ i := by omega
    simp [Nat.testBit_lt_two_pow this]

/-- A number laid digit by digit, from the lowest up. -/
def laid (b : Nat → Bool) : Nat → Nat
  | 0 => 0
  | i + 1 => laid b i + 2 ^ i * (b i).toNat
theorem laid_lt (b : Nat → Bool) (i : Nat) : laid b i < 2 ^ i := by
  induction i with
  | zero => simp [laid]
  | succ i ih =>
    unfold laid
    have : (b i).toNat ≤ 1 := by cases b i <;> simp
    have h2 : 2 ^ i * (b i).toNat ≤ 2 ^ i * 1 := Nat.mul_le_mul_left _ this
    rw [Nat.pow_succ]; omega
theorem laid_bit (b : Nat → Bool) (i j : Nat) : (laid b i).testBit j = (decide (j < i) && b j) := by
  induction i with
  | zero => simp [laid]
  | succ i ih =>
    unfold laid
    rw [Nat.add_comm, Nat.testBit_two_pow_mul_add _ (laid_lt b i)]
    by_cases h : j < i
    · rw [if_pos h, ih, decide_eq_true h, decide_eq_true (by omega)]
    · rw [if_neg h, Nat.testBit_bool_toNat]
      by_cases h2 : j = i
      · subst h2; simp
      · rw [decide_eq_false (by omega : ¬ j < i + 1), decide_eq_false (by omega : ¬ j - i = 0)]; simp

/-- What BigBit's number is: K binary digits hold both numbers. -/
def bbV (op : Int) (p q : Bool) (X Y K : Nat) : Nat := bop op (tw p (K + 32) X) (tw q (K + 32) Y)
def bbN (op : Int) (p q : Bool) (X Y K : Nat) : Nat := if bopB op p q = true then 2 ^ (K + 32) - bbV op p q X Y K else bbV op p q X Y K
theorem bbV_lt (op : Int) (p q : Bool) (X Y K : Nat) (hX : X < 2 ^ K) (hY : Y < 2 ^ K) (hp : p = true → 0 < X) (hq : q = true → 0 < Y) : bbV op p q X Y K < 2 ^ (K + 32) := by
  have h1 : 2 ^ K ≤ 2 ^ (K + 32) := Nat.pow_le_pow_right (by decide) (by omega)
  exact bop_lt op (tw_lt p _ X (by omega) hp) (tw_lt q _ Y (by omega) hq)
theorem bbV_bit (op : Int) (p q : Bool) (X Y K i : Nat) (hX : X < 2 ^ K) (hY : Y < 2 ^ K) (hp : p = true → 0 < X) (hq : q = true → 0 < Y) (hi : i < K + 32) : (bbV op p q X Y K).testBit i = bopB op (dg p X i) (dg q Y i) := by
  have h1 : 2 ^ K ≤ 2 ^ (K + 32) := Nat.pow_le_pow_right (by decide) (by omega)
  unfold bbV
  rw [testBit_bop, tw_bit p _ X i (by omega) hp hi, tw_bit q _ Y i (by omega) hq hi]
theorem bbV_high (op : Int) (p q : Bool) (X Y K : Nat) (hX : X < 2 ^ K) (hY : Y < 2 ^ K) (hp : p = true → 0 < X) (hq : q = true → 0 < Y) : bbV op p q X Y K / 2 ^ K = if bopB op p q = true then 4294967295 else 0 := by
  have hlt := bbV_lt op p q X Y K hX hY hp hq
  refine Nat.eq_of_testBit_eq fun i => ?_
  rw [Nat.testBit_div_two_pow]
  by_cases hi : i < 32
  · rw [bbV_bit op p q X Y K _ hX hY hp hq (by omega), dg_top p X K _ hX (by omega), dg_top q Y K _ hY (by omega)]
    split
    · rename_i h
      rw [h, show (4294967295 : Nat) = 2 ^ 32 - 1 from by decide, Nat.testBit_two_pow_sub_one, decide_eq_true hi]
    · rename_i h
      rw [Nat.zero_testBit]; simpa using h
  · have h1 : 2 ^ (K + 32) ≤ 2 ^ (i + K) := Nat.pow_le_pow_right (by decide) (by omega)
    have h2 : (2 : Nat) ^ 32 ≤ 2 ^ i := Nat.pow_le_pow_right (by decide) (by omega)
    rw [Nat.testBit_lt_two_pow (by omega)]
    split
    · rw [Nat.testBit_lt_two_pow (by omega)]
    · rw [Nat.zero_testBit]
/-- The specification's way to it: the digits, turned where the number is below 0, and one more. -/
theorem bbN_spec (op : Int) (p q : Bool) (X Y K : Nat) (hX : X < 2 ^ K) (hY : Y < 2 ^ K) (hp : p = true → 0 < X) (hq : q = true → 0 < Y) :
    laid (fun i => bopB op p q ^^ bopB op (dg p X i) (dg q Y i)) K + (bopB op p q).toNat = bbN op p q X Y K := by
  have hlt := bbV_lt op p q X Y K hX hY hp hq
  unfold bbN
  cases hn : bopB op p q with
  | false =>
    simp only [Bool.false_eq_true, if_false, Bool.toNat_false, Nat.add_zero, Bool.false_xor]
    refine Nat.eq_of_testBit_eq fun i => ?_
    rw [laid_bit]
    by_cases hi : i < K + 32
    · rw [bbV_bit op p q X Y K i hX hY hp hq hi]
      by_cases h : i < K
      · rw [decide_eq_true h, Bool.true_and]
      · rw [decide_eq_false h, Bool.false_and, dg_top p X K _ hX (by omega), dg_top q Y K _ hY (by omega), hn]
    · have h1 : 2 ^ (K + 32) ≤ 2 ^ i := Nat.pow_le_pow_right (by decide) (by omega)
      rw [Nat.testBit_lt_two_pow (by omega : bbV op p q X Y K < 2 ^ i), decide_eq_false (by omega), Bool.false_and]
  | true =>
    simp only [if_true, Bool.toNat_true, Bool.true_xor]
    have h2 : laid (fun i => !bopB op (dg p X i) (dg q Y i)) K = 2 ^ (K + 32) - (bbV op p q X Y K + 1) := by
      refine Nat.eq_of_testBit_eq fun i => ?_
      rw [laid_bit, Nat.testBit_two_pow_sub_succ hlt]
      by_cases hi : i < K + 32
      · rw [bbV_bit op p q X Y K i hX hY hp hq hi, decide_eq_true hi, Bool.true_and]
        by_cases h : i < K
        · rw [decide_eq_true h, Bool.true_and]
        · rw [decide_eq_false h, Bool.false_and, dg_top p X K _ hX (by omega), dg_top q Y K _ hY (by omega), hn]; rfl
      · rw [decide_eq_false hi, decide_eq_false (by omega), Bool.false_and, Bool.false_and]
    rw [h2]; omega
end Go.Proofs.Ythgpacajeaphhaa

namespace Go.Proofs.Ythgpacajeaphhaa
open Go.RowKit
set_option linter.unusedVariables false
set_option linter.unusedSimpArgs false

set_option maxRecDepth 100000 in
theorem combined_any (op : Int) (x y : Nat) (w : World) (ho : op = 1 ∨ op = 2 ∨ op = 3) (hx : x < 4294967296) (hy : y < 4294967296) :
    Calls Try.prog 46 #[.int .i64 op, .int .u32 x, .int .u32 y] w fun e w' => e = .returned (.int .u32 ((bop op x y : Nat) : Int)) ∧ w' = w := by
  have h1 := u32_and_nat x y hx hy
  have h2 := u32_or_nat x y hx hy
  have h3 := u32_xor_nat x y hx hy
  have e1 : bop 1 x y = x &&& y := rfl
  have e2 : bop 2 x y = x ||| y := rfl
  have e3 : bop 3 x y = x ^^^ y := rfl
  rcases ho with rfl | rfl | rfl
  · rw [e1]; generalize (x &&& y) = z at h1 ⊢
    clear e1 e2 e3 h2 h3
    go_enter Try.func46, Try.ntmps46
    go_wp2
    go_ret
    exact ⟨rfl, rfl⟩
  · rw [e2]; generalize (x ||| y) = z at h2 ⊢
    clear e1 e2 e3 h1 h3
    go_enter Try.func46, Try.ntmps46
    go_wp2
    go_ret
    exact ⟨rfl, rfl⟩
  · rw [e3]; generalize (x ^^^ y) = z at h3 ⊢
    clear e1 e2 e3 h1 h2
    go_enter Try.func46, Try.ntmps46
    go_wp2
    go_ret
    exact ⟨rfl, rfl⟩

set_option maxRecDepth 100000 in
theorem bitOp_nat (op : Int) (x y : Nat) (w : World) (ho : op = 1 ∨ op = 2 ∨ op = 3) (hx : x < 4294967296) (hy : y < 4294967296) :
    Calls Try.prog 48 #[.int .i64 op, .int .u32 x, .int .u32 y] w fun e w' => e = .returned (.int .u32 ((bop op x y : Nat) : Int)) ∧ w' = w := by
  have h1 := u32_and_nat x y hx hy
  have h2 := u32_or_nat x y hx hy
  have h3 := u32_xor_nat x y hx hy
  have e1 : bop 1 x y = x &&& y := rfl
  have e2 : bop 2 x y = x ||| y := rfl
  have e3 : bop 3 x y = x ^^^ y := rfl
  rcases ho with rfl | rfl | rfl
  · rw [e1]; generalize (x &&& y) = z at h1 ⊢
    clear e1 e2 e3 h2 h3
    go_enter Try.func48, Try.ntmps48
    go_wp2
    go_ret
    exact ⟨rfl, rfl⟩
  · rw [e2]; generalize (x ||| y) = z at h2 ⊢
    clear e1 e2 e3 h1 h3
    go_enter Try.func48, Try.ntmps48
    go_wp2
    go_ret
    exact ⟨rfl, rfl⟩
  · rw [e3]; generalize (x ^^^ y) = z at h3 ⊢
    clear e1 e2 e3 h1 h2
    go_enter Try.func48, Try.ntmps48
    go_wp2
    go_ret
    exact ⟨rfl, rfl⟩
theorem bop_bool (op : Int) (x y : Bool) : bop op x.toNat y.toNat = (bopB op x y).toNat := by
  unfold bop bopB
  split
  · cases x <;> cases y <;> rfl
  · split <;> cases x <;> cases y <;> rfl
theorem toNat_lt (x : Bool) : x.toNat < 4294967296 := by cases x <;> decide
theorem bitOp_any (op : Int) (x y : Bool) (w : World) (ho : op = 1 ∨ op = 2 ∨ op = 3) :
    Calls Try.prog 48 #[.int .i64 op, .int .u32 (x.toNat : Int), .int .u32 (y.toNat : Int)] w fun e w' => e = .returned (.int .u32 ((bopB op x y).toNat : Int)) ∧ w' = w := by
  rw [← bop_bool]; exact bitOp_nat op _ _ w ho (toNat_lt x) (toNat_lt y)

theorem not_nat (x : Nat) (h : x < 4294967296) : 4294967295 ^^^ x = 4294967295 - x := by
  refine Nat.eq_of_testBit_eq fun i => ?_
  rw [Nat.testBit_xor, show 4294967295 - x = 2 ^ 32 - (x + 1) from by omega, Nat.testBit_two_pow_sub_succ (by omega), show (4294967295 : Nat) = 2 ^ 32 - 1 from by decide, Nat.testBit_two_pow_sub_one]
  by_cases hi : i < 32
  · rw [decide_eq_true hi]; simp
  · have h1 : (2 : Nat) ^ 32 ≤ 2 ^ i := Nat.pow_le_pow_right (by decide) (by omega)
    rw [Nat.testBit_lt_two_pow (by omega : x < 2 ^ i), decide_eq_false hi]; rfl
theorem not_u32 (x : Nat) (h : x < 4294967296) : bits .xor .u32 IntKind.u32.max (x : Int) = 4294967295 - (x : Int) := by
  have h1 := u32_xor_nat 4294967295 x (by omega) h
  rw [not_nat x h] at h1
  rw [show IntKind.u32.max = ((4294967295 : Nat) : Int) from rfl, h1]; omega
theorem neg_step {V A P c x d e : Nat} (h : V + P * c + A = P) (hd : d + 4294967296 * e = 4294967295 - x + c) (hx : x ≤ 4294967295) : V + P * d + P * 4294967296 * e + (A + P * x) = P * 4294967296 := by
  have h1 : P * (d + 4294967296 * e + x) = P * (4294967295 + c) := by rw [hd]; congr 1; omega
  have h2 : P * (d + 4294967296 * e + x) = P * d + P * 4294967296 * e + P * x := by rw [Nat.mul_add, Nat.mul_add, Nat.mul_assoc]
  have h3 : P * (4294967295 + c) + P = P * 4294967296 + P * c := by rw [Nat.mul_add]; omega
  omega

set_option maxHeartbeats 1000000 in
set_option maxRecDepth 100000 in
theorem negate_any (B g cap : Nat) (zs : List Int) (w : World) (hO : Own w B (.slice (some ⟨g, 0, none⟩) zs.length cap) zs) :
    Calls Try.prog 47 #[.slice (some ⟨g, 0, none⟩) zs.length cap] w fun e w' => e = .returned (.tuple #[]) ∧ ∃ (ys : List Int) (c : Nat), ys.length = zs.length ∧ Own w' B (.slice (some ⟨g, 0, none⟩) zs.length cap) ys ∧ c ≤ 1 ∧ val ys + 4294967296 ^ zs.length * c + val zs = 4294967296 ^ zs.length ∧ w.grownBy w' (some g) := by
  have hlz := hO.2.1
  have hzz := hO.2.2
  go_enter Try.func47, Try.ntmps47
  go_wp2
  go_loopw [2, 7] (fun q i wr => ∃ (k c : Nat) (O : List Int), k ≤ zs.length ∧ c ≤ 1 ∧ q = .int .u32 c ∧ i = .int .i64 k ∧ O.length = k ∧ Own wr B (.slice (some ⟨g, 0, none⟩) zs.length cap) (O ++ zs.drop k) ∧ val O + 4294967296 ^ k * c + val (zs.take k) = 4294967296 ^ k ∧ w.grownBy wr (some g))
    (fun _ i _ => zs.length - (intOf i).toNat)
  case atStart => exact ⟨0, 1, [], Nat.zero_le _, by omega, rfl, rfl, rfl, by simpa using hO, by simp [val], World.grownBy.refl _ _⟩
  case round =>
    obtain ⟨k, c, O, hk, hc1, rfl, rfl, hOl, hOr, hV, hBr⟩ := hrel
    clear hO
    by_cases hlt : k < zs.length
    · have hce := hOr.cell k (by simp; omega)
      have hge : (O ++ zs.drop k).getD k 0 = zs.getD k 0 := by
        simp [List.getD, List.getElem?_append_right (by omega : O.length ≤ k), hOl]
      rw [hge] at hce
      have hfz := hOr.frozen k
      have hXb := hzz.get k
      have hSz := val_take_succ zs k
      obtain ⟨x, hx⟩ : ∃ x : Nat, zs.getD k 0 = (x : Int) := ⟨(zs.getD k 0).toNat, by omega⟩
      rw [hx] at hce hXb hSz
      rw [Int.toNat_natCast] at hSz
      have hadd := add32_any (4294967295 - (x : Int)) 0 c wr (by omega) (by omega) (by omega)
      obtain ⟨D, hD⟩ : ∃ D : Nat, (D : Int) = (4294967295 - (x : Int) + 0 + c) % 4294967296 := ⟨((4294967295 - (x : Int) + 0 + c) % 4294967296).toNat, by omega⟩
      obtain ⟨E, hE⟩ : ∃ E : Nat, (E : Int) = (4294967295 - (x : Int) + 0 + c) / 4294967296 := ⟨((4294967295 - (x : Int) + 0 + c) / 4294967296).toNat, by omega⟩
      rw [← hD, ← hE] at hadd
      have hE1 : E ≤ 1 := by omega
      have hD1 : D < 4294967296 := by omega
      have HS := neg_step (d := D) (e := E) hV (by omega) (by omega : x ≤ 4294967295)
      have HV : Hid (val (O ++ [(D : Int)]) + 4294967296 ^ (k + 1) * E + val (zs.take (k + 1)) = 4294967296 ^ (k + 1)) := by
        show _ = _
        rw [hSz, val_append, hOl, Nat.pow_succ]; simp [val]; exact HS
      have hun := not_u32 x (by omega)
      have hsg : IntKind.u32.signed = false := rfl
      have hSt := hOr.store k (z := (D : Int)) (by omega) (by omega)
      have hse : (O ++ zs.drop k).set k (D : Int) = (O ++ [(D : Int)]) ++ zs.drop (k + 1) := by
        rw [List.set_append_right _ _ (by omega), hOl, Nat.sub_self, List.drop_eq_getElem_cons hlt, List.set_cons_zero]
        simp
      rw [hse] at hSt
      have HSt : Hid _ := hSt
      clear hSt hse hV HS hSz hD hE hOr hge
      go_wp2_with (go_at_call 69; refine hadd.mono ?_; rintro e w2 ⟨rfl, rfl⟩)
      go_roundw
      case rel => exact ⟨k + 1, E, O ++ [(D : Int)], by omega, hE1, by go_num, by go_num, by simp [hOl], HSt.out, HV.out, gb_trans hBr (gb_set _ _ _ _)⟩
      case measure => simp [intOf]; omega
    · have hk' : k = zs.length := by omega
      subst hk'
      rw [List.drop_length, List.append_nil] at hOr
      rw [List.take_length] at hV
      have HV : Hid _ := hV
      clear hV
      go_wp2
      go_end0
      exact ⟨rfl, O, c, hOl, hOr, hc1, HV.out, hBr⟩


set_option maxRecDepth 100000 in
theorem two_any (p : Bool) (v : Value) (xs : List Int) (i : Nat) (w : World) (hx : Rd w v xs) (hp : p = true → 0 < val xs) (hl : xs.length ≤ 1048576) (hi : i ≤ 1099511627776) :
    Calls Try.prog 49 #[.agg #[.bool p, v], .int .i64 i] w fun e w' => e = .returned (.int .u32 ((dg p (val xs) i).toNat : Int)) ∧ Below w.heap.size w w' := by
  have bA := Box.new w (.bool p) v 26
  have hW := (Below.refl w.heap.size w).alloc (Nat.le_refl _) (Obj.cells #[.bool p, v] 26)
  have hx0 := hx
  obtain ⟨a, cap, rfl, _, hz, hn0, hc⟩ := hx
  clear hc hn0
  cases p with
  | false =>
    have e : dg false (val xs) i = (val xs).testBit i := rfl
    have hB := fun W h => bitMag_any (.slice a xs.length cap) xs i W h hi
    rw [e, Nat.toNat_testBit]
    generalize val xs / 2 ^ i % 2 = z at hB ⊢
    clear e hp
    go_enter Try.func49, Try.ntmps49
    go_wp2_with fail
    refine (hB _ (hx0.keep hW)).mono ?_
    rintro e w1 ⟨rfl, rfl⟩
    clear hB
    go_wp2
    go_ret
    exact ⟨rfl, hW⟩
  | true =>
    have hv := hp rfl
    have hl1 : 1 ≤ xs.length := by
      rcases Nat.lt_or_ge xs.length 1 with h | h
      · have e0 : xs = [] := List.eq_nil_of_length_eq_zero (by omega)
        rw [e0] at hv; simp [val] at hv
      · exact h
    have e : dg true (val xs) i = !(val xs - 1).testBit i := rfl
    have hM := fun W u h1 h2 => subMag_any (.slice a xs.length cap) u xs [1] W h1 h2 (by omega) (by simp; omega) (by simp [val]; omega)
    rw [show val [1] = 1 from by simp [val]] at hM
    have hB := fun W u h => bitMag_any u (lim (val xs - 1)) i W h hi
    rw [val_lim] at hB
    have e2 : ((dg true (val xs) i).toNat : Int) = 1 - (((val xs - 1) / 2 ^ i % 2 : Nat) : Int) := by
      rw [e, ← Nat.toNat_testBit]
      cases (val xs - 1).testBit i <;> rfl
    rw [e2]
    have hzl : (val xs - 1) / 2 ^ i % 2 ≤ 1 := by omega
    generalize (val xs - 1) / 2 ^ i % 2 = z at hB hzl ⊢
    generalize lim (val xs - 1) = M at hB hM
    clear e e2 hp hv
    go_enter Try.func49, Try.ntmps49
    go_wp2_with fail
    refine (hM _ _ ((hx0.keep hW).alloc _) (Rd.one (w.alloc (Obj.cells #[.bool true, .slice a xs.length cap] 26)) (w.heap.size + 1) (by simp) 49 (by decide) (by decide))).mono ?_
    rintro e w1 ⟨a1, c1, rfl, hO1, hB1⟩
    have hB2 := below_of_alloc hB1
    have hW2 := hW.trans (hB2.mono hW.size)
    clear hM hB1 hB2
    go_wp2_with fail
    refine (hB _ _ hO1.rd).mono ?_
    rintro e w2 ⟨rfl, rfl⟩
    clear hB
    go_wp2
    go_ret
    exact ⟨rfl, hW2⟩

theorem Box.keepB {w w' : World} {B b : Nat} {x y : Value} (h : Box w b x y) (hb : Below B w w') (hlt : b < B) : Box w' b x y :=
  ⟨Nat.lt_of_lt_of_le h.1 hb.size, (hb.cell (p := ⟨b, 0, none⟩) hlt).trans h.2.1, (hb.cell (p := ⟨b, 1, none⟩) hlt).trans h.2.2⟩
set_option maxHeartbeats 1000000 in
set_option maxRecDepth 100000 in
theorem twos_any (p : Bool) (v : Value) (xs : List Int) (n : Nat) (w : World) (hx : Rd w v xs) (hp : p = true → 0 < val xs) (hl : xs.length < n) (hn : n ≤ 1048576) :
    Calls Try.prog 45 #[.agg #[.bool p, v], .int .i64 n] w fun e w' => ∃ (g cap : Nat) (ys : List Int), e = .returned (.slice (some ⟨g, 0, none⟩) n cap) ∧ ys.length = n ∧ val ys = tw p (32 * n) (val xs) ∧ Own w' w.heap.size (.slice (some ⟨g, 0, none⟩) n cap) ys ∧ Below w.heap.size w w' := by
  have bA := Box.new w (.bool p) v 26
  have hW := (Below.refl w.heap.size w).alloc (Nat.le_refl _) (Obj.cells #[.bool p, v] 26)
  have hx0 := hx
  obtain ⟨a, cap, rfl, _, hz, hn0, hc⟩ := hx
  clear hc hn0
  obtain ⟨i0, hi, hz0, hz1, hz2⟩ := info_parts Try.info49
  have hszm : (Try.prog.info? 49).map (·.size) = some 1 := by rw [hi]; simp [hz1]
  have hone : ∀ u ∈ xs.map (Value.int .u32), u.oneCell' = true := by
    intro u hu
    obtain ⟨z, _, rfl⟩ := List.mem_map.mp hu
    rfl
  have hnl : (xs.map (Value.int .u32)).length = Nat.min xs.length n := by rw [List.length_map]; exact (Nat.min_eq_left (by omega)).symm
  have hsp := map_splice xs n (by omega)
  have hZl : (xs ++ List.replicate (n - xs.length) (0 : Int)).length = n := by simp; omega
  have hZv : val (xs ++ List.replicate (n - xs.length) 0) = val xs := by rw [val_append, val_zeros]; simp
  have hZb : Limbs (xs ++ List.replicate (n - xs.length) 0) := hz.append (Limbs.zeros _)
  have hcl : (xs.map (Value.int .u32)).length = xs.length := by simp
  have hfit : 0 + (xs.map (Value.int .u32)).length ≤ ((List.replicate n (0 : Int)).map (Value.int .u32)).length := by simp; omega
  generalize xs ++ List.replicate (n - xs.length) 0 = Z at hsp hZl hZv hZb
  obtain ⟨XS, hXS⟩ : ∃ XS, XS = xs.map (Value.int .u32) := ⟨_, rfl⟩
  obtain ⟨ZS, hZS⟩ : ∃ ZS, ZS = (List.replicate n (0 : Int)).map (Value.int .u32) := ⟨_, rfl⟩
  have hsrc := fun W (h : Rd W (.slice a xs.length cap) xs) => h.src
  have hrow : ∀ {W : World} {B g : Nat}, Own W B (.slice (some ⟨g, 0, none⟩) n n) (List.replicate n 0) → W.heap[g]? = some (.cells ZS.toArray 49 (0, 0)) := fun h => by rw [hZS]; exact h.row.1
  rw [← hXS] at hsp hcl hfit hone hnl hsrc
  rw [← hZS] at hsp hfit
  have HSP : Hid _ := hsp
  clear hsp hXS hZS
  have hneg := fun W B g h => negate_any B g n Z W h
  rw [hZl] at hneg
  have hp2 : 4294967296 ^ n = 2 ^ (32 * n) := R_pow n
  have hvl : val xs < 2 ^ (32 * n) := by rw [← hp2]; exact Nat.lt_of_lt_of_le (val_lt hz) (Nat.pow_le_pow_right (by decide) (by omega))
  cases p with
  | false =>
    go_enter Try.func45, Try.ntmps45
    go_wp2_with (first | (at_make; refine wpList_make_full _ rfl _ _ 47 rfl w.heap.size 49 i0 (.int .u32 0) 1 Try.underlying47 hi hz0 hz1 .i64 .i64 _ _ n rfl rfl rfl rfl (by rw [hz2]; omega) (by unfold maxLen; omega) (by simp) ?_; intro w1 hown hgrow; have hB1 := (Below.refl (w.alloc (Obj.cells #[.bool false, .slice a xs.length cap] 26)).heap.size _).grown hgrow (Nat.le_refl _) (by intro k h; cases h); have hO1 := Own.made (by omega) hown; have hr1 := hrow hO1; simp only [World.size_alloc] at hr1; have bA1 := bA.keep hB1; have hW1 := hW.trans (hB1.mono hW.size); have hx1 := hx0.keep hW1; have hs1 := hB1.size; simp only [World.size_alloc] at hs1; clear hown hgrow hO1 hB1; obtain ⟨-, k0, k1⟩ := id bA1) | (refine wpList_copy_splice rfl (.tmp 8) (.tmp 10) 47 24 rfl 49 Try.underlying47 hszm _ _ n n xs.length cap rfl rfl (w.heap.size + 1) 0 ZS 49 hr1 XS hnl (fun h => ⟨rfl, hsrc _ hx1 h⟩) hfit hone (w.heap.size + 1) w1 (Below.refl _ _) (Nat.le_refl _) ?_; intro w2 HG2 hB2; clear hr1 hx1 k0 k1; have bA2 := bA1.keepB hB2 (by omega); have hW2 := hW1.trans (hB2.mono (by omega)); obtain ⟨-, k0, k1⟩ := id bA2))
    have hO2 : Own w2 w.heap.size (.slice (some ⟨w.heap.size + 1, 0, none⟩) n n) Z := by
      have h := HG2.out
      rw [HSP.out] at h
      have := Own.ofRow (B := w.heap.size) h (by omega) (by omega) hZb
      rw [hZl] at this; exact this
    go_wp2
    go_ret
    exact ⟨_, _, Z, rfl, hZl, hZv, hO2, hW2⟩
  | true =>
    have hv0 : 0 < val xs := hp rfl
    clear hp
    go_enter Try.func45, Try.ntmps45
    go_wp2_with (first | (at_make; refine wpList_make_full _ rfl _ _ 47 rfl w.heap.size 49 i0 (.int .u32 0) 1 Try.underlying47 hi hz0 hz1 .i64 .i64 _ _ n rfl rfl rfl rfl (by rw [hz2]; omega) (by unfold maxLen; omega) (by simp) ?_; intro w1 hown hgrow; have hB1 := (Below.refl (w.alloc (Obj.cells #[.bool true, .slice a xs.length cap] 26)).heap.size _).grown hgrow (Nat.le_refl _) (by intro k h; cases h); have hO1 := Own.made (by omega) hown; have hr1 := hrow hO1; simp only [World.size_alloc] at hr1; have bA1 := bA.keep hB1; have hW1 := hW.trans (hB1.mono hW.size); have hx1 := hx0.keep hW1; have hs1 := hB1.size; simp only [World.size_alloc] at hs1; clear hown hgrow hO1 hB1; obtain ⟨-, k0, k1⟩ := id bA1) | (refine wpList_copy_splice rfl (.tmp 8) (.tmp 10) 47 24 rfl 49 Try.underlying47 hszm _ _ n n xs.length cap rfl rfl (w.heap.size + 1) 0 ZS 49 hr1 XS hnl (fun h => ⟨rfl, hsrc _ hx1 h⟩) hfit hone (w.heap.size + 1) w1 (Below.refl _ _) (Nat.le_refl _) ?_; intro w2 HG2 hB2; clear hr1 hx1 k0 k1; have bA2 := bA1.keepB hB2 (by omega); have hW2 := hW1.trans (hB2.mono (by omega)); obtain ⟨-, k0, k1⟩ := id bA2))
    have hO2 : Own w2 w.heap.size (.slice (some ⟨w.heap.size + 1, 0, none⟩) n n) Z := by
      have h := HG2.out
      rw [HSP.out] at h
      have := Own.ofRow (B := w.heap.size) h (by omega) (by omega) hZb
      rw [hZl] at this; exact this
    clear hx0 hrow hsrc hfit hone
    refine (hneg _ _ _ hO2).mono ?_
    rintro e w3 ⟨rfl, Y, c, hYl, hY, hc1, hYv, hg3⟩
    clear hneg
    have hval : val Y = tw true (32 * n) (val xs) := by
      have h0 := hv0
      rw [hZv, hp2] at hYv
      have : c = 0 ∨ c = 1 := by omega
      unfold tw
      rw [if_pos rfl]
      rcases this with rfl | rfl
      · omega
      · omega
    have hW3 := hW2.trans (gb_to hg3 (B := w.heap.size) (by intro k h; cases h; omega) (by have := hW2.size; omega))
    have HV : Hid _ := hval
    clear hval hYv hp2 hvl
    go_wp2
    go_ret
    exact ⟨_, _, Y, rfl, hYl, HV.out, hY, hW3⟩
end Go.Proofs.Ythgpacajeaphhaa
