import Derived.Lib.Strings
import Derived.Test.YtahcpgldpbejiaaGreatDoorZBase
import Derived.Test.YtahcpgldpbejiaaGreatDoorBzU
import Derived.Laws.AppendOwnNone
import Derived.Laws.MathBits
namespace Go.Proofs.YtahcpgldpbejiaaGreatDoor.Z
set_option linter.unusedVariables false
set_option linter.unusedSimpArgs false

/-- The digits of n in base b, the lowest first. -/
def le (b n : Nat) : List Nat := if h : b < 2 ∨ n = 0 then [] else n % b :: le b (n / b)
termination_by n
decreasing_by exact Nat.div_lt_self (by omega) (by omega)
theorem le_zero (b : Nat) : le b 0 = [] := by rw [le, dif_pos (.inr rfl)]
theorem le_pos {b n : Nat} (hb : 2 ≤ b) (hn : n ≠ 0) : le b n = n % b :: le b (n / b) := by rw [le, dif_neg (by omega)]
/-- The lowest w digits. -/
def pd (b : Nat) : Nat → Nat → List Nat
  | 0, _ => []
  | w + 1, n => n % b :: pd b w (n / b)
theorem pd_zero (b w : Nat) : pd b w 0 = List.replicate w 0 := by
  induction w with
  | zero => rfl
  | succ w ih => rw [pd, Nat.zero_mod, Nat.zero_div, ih, List.replicate_succ]
theorem pd_length (b w n : Nat) : (pd b w n).length = w := by
  induction w generalizing n with
  | zero => rfl
  | succ w ih => rw [pd, List.length_cons, ih]
theorem pd_le {b : Nat} (hb : 2 ≤ b) (w n : Nat) (h : n / b ^ w ≠ 0) : pd b w n ++ le b (n / b ^ w) = le b n := by
  induction w generalizing n with
  | zero => rw [pd, Nat.pow_zero, Nat.div_one, List.nil_append]
  | succ w ih =>
    have e : n / b ^ (w + 1) = n / b / b ^ w := by rw [Nat.pow_succ, Nat.mul_comm, Nat.div_div_eq_div_mul]
    rw [e] at h ⊢
    have hn : n ≠ 0 := fun e => h (by rw [e, Nat.zero_div, Nat.zero_div])
    rw [pd, le_pos hb hn, List.cons_append, ih _ h]
theorem pd_end {b : Nat} (hb : 2 ≤ b) (w n : Nat) (h : n / b ^ w = 0) : ∃ j, pd b w n = le b n ++ List.replicate j 0 := by
  induction w generalizing n with
  | zero =>
    rw [Nat.pow_zero, Nat.div_one] at h
    exact ⟨0, by rw [h, le_zero]; rfl⟩
  | succ w ih =>
    by_cases hn : n = 0
    · exact ⟨w + 1, by rw [hn, pd_zero, le_zero, List.nil_append]⟩
    · have e : n / b ^ (w + 1) = n / b / b ^ w := by rw [Nat.pow_succ, Nat.mul_comm, Nat.div_div_eq_div_mul]
      rw [e] at h
      obtain ⟨j, hj⟩ := ih _ h
      exact ⟨j, by rw [pd, hj, le_pos hb hn, List.cons_append]⟩
theorem pd_mod {b : Nat} (w n : Nat) : pd b w (n % b ^ w) = pd b w n := by
  induction w generalizing n with
  | zero => rfl
  | succ w ih =>
    rw [pd, pd, Nat.pow_succ, Nat.mul_comm (b ^ w) b, Nat.mod_mul_right_div_self, ih]
    rw [Nat.mod_mod_of_dvd _ (Nat.dvd_mul_right b (b ^ w))]
/-- One step of the chunks: the digits that are written, and those that are left. -/
def Chunk (b n m : Nat) (out : List Nat) : Prop := ∃ k, out ++ le b m = le b n ++ List.replicate k 0 ∧ (m ≠ 0 → k = 0)
theorem Chunk.start (b n : Nat) : Chunk b n n [] := ⟨0, by simp, fun _ => rfl⟩
theorem Chunk.step {b n m w : Nat} {out : List Nat} (hb : 2 ≤ b) (hm : m ≠ 0) (h : Chunk b n m out) : Chunk b n (m / b ^ w) (out ++ pd b w (m % b ^ w)) := by
  obtain ⟨k, hk, h0⟩ := h
  rw [h0 hm] at hk
  simp only [List.replicate_zero, List.append_nil] at hk
  rw [pd_mod]
  by_cases hq : m / b ^ w = 0
  · obtain ⟨j, hj⟩ := pd_end hb w m hq
    refine ⟨j, ?_, fun h => absurd hq h⟩
    rw [hq, le_zero, List.append_nil, hj, ← List.append_assoc, hk]
  · refine ⟨0, ?_, fun _ => rfl⟩
    rw [List.append_assoc, pd_le hb w m hq, hk]; simp
theorem Chunk.done {b n : Nat} {out : List Nat} (h : Chunk b n 0 out) : ∃ k, out = le b n ++ List.replicate k 0 := by
  obtain ⟨k, hk, _⟩ := h
  rw [le_zero, List.append_nil] at hk
  exact ⟨k, hk⟩
theorem le_last {b : Nat} (hb : 2 ≤ b) (n : Nat) (hn : n ≠ 0) : ∃ l d, le b n = l ++ [d] ∧ d ≠ 0 := by
  induction n using Nat.strongRecOn with
  | _ n ih =>
    rw [le_pos hb hn]
    by_cases hq : n / b = 0
    · refine ⟨[], n % b, by rw [hq, le_zero]; rfl, ?_⟩
      have := Nat.div_add_mod n b
      rw [hq] at this
      omega
    · obtain ⟨l, d, e, hd⟩ := ih (n / b) (Nat.div_lt_self (by omega) (by omega)) hq
      exact ⟨n % b :: l, d, by rw [e]; rfl, hd⟩
theorem le_lt {b : Nat} (hb : 2 ≤ b) (n : Nat) : ∀ d ∈ le b n, d < b := by
  induction n using Nat.strongRecOn with
  | _ n ih =>
    by_cases hn : n = 0
    · rw [hn, le_zero]; simp
    · rw [le_pos hb hn]
      intro d hd
      rcases List.mem_cons.1 hd with rfl | hd
      · exact Nat.mod_lt _ (by omega)
      · exact ih _ (Nat.div_lt_self (by omega) (by omega)) d hd
theorem le_len {b : Nat} (hb : 2 ≤ b) (n k : Nat) (h : n < 2 ^ k) : (le b n).length ≤ k := by
  induction k generalizing n with
  | zero =>
    have : n = 0 := by rw [Nat.pow_zero] at h; omega
    rw [this, le_zero]; simp
  | succ k ih =>
    by_cases hn : n = 0
    · rw [hn, le_zero]; simp
    · rw [le_pos hb hn, List.length_cons]
      have h1 : n / b < 2 ^ k := by
        rw [Nat.div_lt_iff_lt_mul (by omega)]
        rw [Nat.pow_succ] at h
        have : 2 ^ k * 2 ≤ 2 ^ k * b := Nat.mul_le_mul_left _ hb
        omega
      have := ih _ h1
      omega
/-- A digit's sign. -/
def ch (d : Nat) : UInt8 := if d < 10 then (48 + d).toUInt8 else (87 + d).toUInt8
/-- A number's digits as they are written. -/
def txt (b n : Nat) : List UInt8 := if n = 0 then [48] else ((le b n).map ch).reverse
theorem ch_zero : ch 0 = 48 := by decide
theorem ch_ne (d : Nat) (h : d < 36) (h0 : d ≠ 0) : ch d ≠ 48 := by
  have : ∀ d, d < 36 → d ≠ 0 → ch d ≠ 48 := by decide
  exact this d h h0
end Go.Proofs.YtahcpgldpbejiaaGreatDoor.Z

namespace Go.Proofs.YtahcpgldpbejiaaGreatDoor.Z
open Go.RowKit
set_option linter.unusedVariables false
set_option linter.unusedSimpArgs false

/-- 'append(xs, ys...)': and no other block has turned. -/
theorem U8.wpList_append_but {w : World} {ops : Array Oper} {rest : List Oper} {o : Oper} {a : Act} {Q : Exit → Act → World → Prop} (hgd : o.guard = none) (s x : Operand) (t : TypeId)
    (ho : o.op = .call { callee := .builtin .append, args := #[s, x], argTypes := #[t, t] }) (ht : Tryz.prog.underlying t = some (.slice 5))
    (B : Nat) (v u : Value) (xs ys : List Int) (hs : a.eval s = v) (hx : a.eval x = u) (hown : U8.Own w B v xs) (hr : U8.Rd w u ys) (hlen : xs.length + ys.length ≤ 16777216) (hB : B ≤ w.heap.size)
    (h : ∀ a' c' w', U8.Own w' B (.slice a' (xs ++ ys).length c') (xs ++ ys) → Below B w w' → w.grownBy w' v.ownBlock → wpList Tryz.prog ops Q rest (a.put o.dst (.slice a' (xs ++ ys).length c')) w') :
    wpList Tryz.prog ops Q (o :: rest) a w := by
  obtain ⟨i0, hi, hz0, hz1, hz2⟩ := info_parts U8.Tryz.info5
  obtain ⟨ao, cap, rfl, hl, hz, hn0, hc⟩ := hr
  cases ao with
  | none =>
    have h0 : ys = [] := by
      cases ys with
      | nil => rfl
      | cons y r => obtain ⟨b, off, h1, _⟩ := hc (by simp); cases h1
    subst h0
    have hc0 := hn0.2 rfl
    subst hc0
    obtain ⟨a', c', rfl⟩ := hown.form
    refine wpList_append_own_none hgd s x t ho B 5 i0 1 ht hi _ _ _ hs hown.1 hx ?_
    have := h a' c' w (by simpa using hown) (Below.refl _ _) (World.grownBy.refl _ _)
    simpa using this
  | some ad =>
    refine wpList_append_own w hgd s x t ho B 5 i0 (.int .u8 0) 1 1 ht hi hz0 hz1 hz2 rfl (by decide) v _ _ hs hown.1 ad ys.length cap (ys.map (Value.int .u8)) hx (by simp) ?_ ?_ (by unfold maxLen; omega) (by omega) hB ?_
    · intro j z hj
      have hj' : j < ys.length := by
        rcases Nat.lt_or_ge j ys.length with h | h
        · exact h
        · rw [List.getElem?_eq_none (by simpa using h)] at hj; cases hj
      obtain ⟨b, off, h1, _, hcell⟩ := hc (by omega)
      simp at h1
      subst h1
      have e : (⟨b, off, none⟩ : Addr).add j = ⟨b, off + j, none⟩ := by unfold Addr.add; split <;> simp_all
      rw [e, hcell j hj']
      simp [hj', List.getD] at hj ⊢
      exact hj
    · intro z hz'
      simp at hz'
      obtain ⟨y, _, rfl⟩ := hz'
      rfl
    · intro v' w' h1 h2 _
      have hO : U8.Own w' B v' (xs ++ ys) := ⟨by simpa using h1, by simpa using hlen, hown.2.2.append hz⟩
      obtain ⟨a', c', rfl⟩ := hO.form
      exact h a' c' w' hO ((Below.refl _ _).grown h2 hB (fun k hk => (hown.1.lt k hk).1)) h2
/-- Rows of bytes and rows of limbs share no block. -/
theorem u8_apart {w : World} {B B' : Nat} {v v' : Value} {zs zs' : List Int} (h : U8.Own w B v zs) (h' : Own w B' v' zs') : v'.ownBlock = none ∨ v'.ownBlock ≠ v.ownBlock := by
  obtain ⟨⟨_, h2⟩, _, _⟩ := h
  obtain ⟨⟨_, k2⟩, _, _⟩ := h'
  rcases k2 with ⟨rfl, _⟩ | ⟨g', cap', cur', rfl, hg', hh', _⟩
  · left; rfl
  · right
    rcases h2 with ⟨rfl, _⟩ | ⟨g, cap, cur, rfl, hg, hh, _⟩
    · intro e; simp [Value.ownBlock] at e
    · intro e
      simp [Value.ownBlock] at e
      subst e
      rw [hh] at hh'
      simp at hh'
end Go.Proofs.YtahcpgldpbejiaaGreatDoor.Z

namespace Go.Proofs.YtahcpgldpbejiaaGreatDoor.Z
open Go.RowKit
set_option linter.unusedVariables false
set_option linter.unusedSimpArgs false

theorem szs_any (a : Option Addr) (len cap : Nat) (left : Int) (w : World) (hl : len ≤ 9223372036854775807) (h0 : 0 ≤ left) (h1 : left ≤ 1048576) :
    Calls Tryz.prog 28 #[.slice a len cap, .int .i64 left] w fun e w' => e = .returned (.int .i64 (if left < len then -1 else left - len)) ∧ w' = w := by
  by_cases h : left < len
  · go_enter Tryz.func28, Tryz.ntmps28
    go_wp2
    go_ret
    exact ⟨by simp [h], rfl⟩
  · go_enter Tryz.func28, Tryz.ntmps28
    go_wp2
    go_ret
    exact ⟨by simp [h], rfl⟩

theorem szBig_any (neg : Bool) (a : Option Addr) (len cap : Nat) (left : Int) (w : World) (hl : len ≤ 9223372036854775807) (h0 : 0 ≤ left) (h1 : left ≤ 1048576) :
    Calls Tryz.prog 8 #[.agg #[.bool neg, .slice a len cap], .int .i64 left] w fun e w' => e = .returned (.int .i64 (if left < len then -1 else left - len)) ∧ Below w.heap.size w w' := by
  by_cases h : left < len
  · go_enter Tryz.func8, Tryz.ntmps8
    go_wp2_with (go_at_call 28; refine (szs_any _ _ _ _ _ hl h0 h1).mono ?_; rintro e w' ⟨rfl, rfl⟩; simp only [if_pos h])
    go_ret
    exact ⟨by simp [h], (Below.refl _ _).alloc (Nat.le_refl _) _⟩
  · go_enter Tryz.func8, Tryz.ntmps8
    go_wp2_with (go_at_call 28; refine (szs_any _ _ _ _ _ hl h0 h1).mono ?_; rintro e w' ⟨rfl, rfl⟩; simp only [if_neg h])
    go_ret
    exact ⟨by simp [h], (Below.refl _ _).alloc (Nat.le_refl _) _⟩

theorem toS_any (v : Value) (zs : List Int) (w : World) (hr : Rd w v zs) :
    Calls Tryz.prog 32 #[v] w fun e w' => ∃ a c, e = .returned (.slice a zs.length c) ∧ Own w' w.heap.size (.slice a zs.length c) zs ∧ Below w.heap.size w w' := by
  obtain ⟨a, cap, rfl, hl, hz, hn0, hc⟩ := hr
  obtain ⟨i0, hi, hz0, hz1, hz2⟩ := info_parts Tryz.info72
  go_enter Tryz.func32, Tryz.ntmps32
  go_wp2_with (at_make; refine wpList_make_full _ rfl _ _ 25 rfl w.heap.size 72 i0 (.int .u32 0) 1 Tryz.underlying25 hi hz0 hz1 .i64 .i64 _ _ zs.length rfl rfl rfl rfl (by rw [hz2]; omega) (by unfold maxLen; omega) (Nat.le_refl _) ?_; intro w1 hown hgrow)
  have hO : Own w1 w.heap.size _ (List.replicate zs.length 0) := Own.made hl hown
  have hB : Below w.heap.size w w1 := (Below.refl _ _).grown hgrow (Nat.le_refl _) (by intro k h; cases h)
  clear hown hgrow
  go_loopw [4] (fun i wr => ∃ k : Nat, k ≤ zs.length ∧ i = .int .i64 k ∧ Own wr w.heap.size (.slice (some ⟨w.heap.size, 0, none⟩) zs.length zs.length) (zs.take k ++ List.replicate (zs.length - k) 0) ∧ Below w.heap.size w wr)
    (fun i _ => zs.length - (intOf i).toNat)
  case atStart => exact ⟨0, Nat.zero_le _, rfl, by simpa using hO, hB⟩
  case round =>
    obtain ⟨k, hk, rfl, hOr, hBr⟩ := hrel
    clear hO hB
    by_cases hlt : k < zs.length
    · obtain ⟨b, off, rfl, hb, hcell⟩ := hc (by omega)
      have hce : wr.cell? ⟨b, off + k, none⟩ = some (.int .u32 (zs.getD k 0)) := (hBr.cell (p := ⟨b, off + k, none⟩) hb).trans (hcell k hlt)
      obtain ⟨u, hu⟩ : ∃ u, wr.cell? ⟨w.heap.size, k, none⟩ = some u := ⟨_, hOr.cell k (by simp; omega)⟩
      have hfz := hOr.frozen k
      have hzk := hz.get k
      go_wp2
      go_roundw
      case rel =>
        refine ⟨k + 1, by omega, by go_num, ?_, hBr.setCell (Nat.le_refl _) _⟩
        have := hOr.store k hzk.1 hzk.2
        rw [set_take_replicate zs _ k rfl hlt] at this
        simpa [List.getD, hlt] using this
      case measure => simp [intOf]; omega
    · go_wp2
      go_ret
      have hk' : k = zs.length := by omega
      subst hk'
      exact ⟨_, _, rfl, by simpa using hOr, hBr⟩

theorem toBig_any (neg : Bool) (v : Value) (zs : List Int) (w : World) (hr : Rd w v zs) :
    Calls Tryz.prog 10 #[.agg #[.bool neg, v]] w fun e w' => ∃ a c, e = .returned (.agg #[.bool neg, .slice a zs.length c]) ∧ Own w' w.heap.size (.slice a zs.length c) zs ∧ Below w.heap.size w w' := by
  have hr' := hr
  obtain ⟨a, cap, rfl, hl, hz, hn0, hc⟩ := hr
  go_enter Tryz.func10, Tryz.ntmps10
  go_wp2_with (go_at_call 32; refine (toS_any _ zs _ (((hr'.alloc _).alloc _).alloc _)).mono ?_; rintro e w1 ⟨a1, c1, rfl, hO, hB⟩; obtain ⟨hc1, hf1⟩ := bcell hB; have hz1 : w.heap.size + 2 < w1.heap.size := (by have := hB.size; simp at this; omega))
  refine bodyPost_ret (v := .agg #[.bool neg, .slice a1 zs.length c1]) (by simp [results, Tryz.results10, go_sem, hc1, hz1]) rfl ⟨a1, c1, rfl, ?_, ?_⟩
  · exact (((hO.setBelow (by simp) _).setBelow (by simp) _).setBelow (by simp) _).mono (by simp; omega)
  · exact (((below_of_alloc (below_of_alloc (below_of_alloc hB))).setCell (by simp; omega) _).setCell (by simp) _).setCell (by simp) _

theorem eqS_any (v u : Value) (xs ys : List Int) (w : World) (hx : Rd w v xs) (hy : Rd w u ys) :
    Calls Tryz.prog 34 #[v, u] w fun e w' => e = .returned (.bool (decide (xs = ys))) ∧ Below w.heap.size w w' := by
  obtain ⟨a, cap, rfl, hlx, hzx, hnx, hcx⟩ := hx
  obtain ⟨a', cap', rfl, hly, hzy, hny, hcy⟩ := hy
  by_cases hlen : xs.length = ys.length
  · go_enter Tryz.func34, Tryz.ntmps34
    go_wp2
    go_loopw [5] (fun i wr => ∃ k : Nat, k ≤ xs.length ∧ i = .int .i64 k ∧ xs.take k = ys.take k ∧ Below w.heap.size w wr)
      (fun i _ => xs.length - (intOf i).toNat)
    case atStart => exact ⟨0, Nat.zero_le _, rfl, by simp, Below.refl _ _⟩
    case round =>
      obtain ⟨k, hk, rfl, hEq, hBr⟩ := hrel
      by_cases hlt : k < xs.length
      · obtain ⟨b, off, rfl, hb, hcell⟩ := hcx (by omega)
        obtain ⟨b', off', rfl, hb', hcell'⟩ := hcy (by omega)
        have hce : wr.cell? ⟨b, off + k, none⟩ = some (.int .u32 (xs.getD k 0)) := (hBr.cell (p := ⟨b, off + k, none⟩) hb).trans (hcell k hlt)
        have hce' : wr.cell? ⟨b', off' + k, none⟩ = some (.int .u32 (ys.getD k 0)) := (hBr.cell (p := ⟨b', off' + k, none⟩) hb').trans (hcell' k (by omega))
        have hlt' : k < ys.length := by omega
        have hA := hEq
        have HL : Hid (xs.length = ys.length) := hlen
        clear hcell hcell' hcx hcy hEq hlen
        go_wp2
        go_region
        all_goals go_wp2
        · go_ret
          have hne : (xs[k] != ys[k]) = true := by assumption
          refine ⟨?_, hBr.drew⟩
          have : xs ≠ ys := fun h => by subst h; simp at hne
          simp [this]
        · have he : (xs[k] != ys[k]) = false := by assumption
          go_roundw
          case rel =>
            refine ⟨k + 1, by omega, by go_num, ?_, hBr.drew⟩
            rw [List.take_succ_eq_append_getElem hlt, List.take_succ_eq_append_getElem hlt', hA]
            simp at he; rw [he]
          case measure => simp [intOf]; omega
      · go_wp2
        go_ret
        refine ⟨?_, hBr⟩
        rw [List.take_of_length_le (by omega), List.take_of_length_le (by omega)] at hEq
        simp [hEq]
  · have hne : ((xs.length : Int) == (ys.length : Int)) = false := by simp; omega
    go_enter Tryz.func34, Tryz.ntmps34
    go_wp2
    go_ret
    have : xs ≠ ys := fun h => hlen (by rw [h])
    exact ⟨by simp [this], Below.refl _ _⟩

theorem eqBig_any (n m : Bool) (v u : Value) (xs ys : List Int) (w : World) (hx : Rd w v xs) (hy : Rd w u ys) :
    Calls Tryz.prog 12 #[.agg #[.bool n, v], .agg #[.bool m, u]] w fun e w' => e = .returned (.bool (decide (n = m ∧ xs = ys))) ∧ Below w.heap.size w w' := by
  have hx' := hx
  have hy' := hy
  obtain ⟨a, cap, rfl, hlx, hzx, hnx, hcx⟩ := hx
  obtain ⟨a', cap', rfl, hly, hzy, hny, hcy⟩ := hy
  by_cases hn : n = m
  · subst hn
    by_cases he : xs = ys
    · have HE : Hid (xs = ys) := he
      have hq : ∀ W, Rd W (.slice a xs.length cap) xs → Rd W (.slice a' ys.length cap') ys → Calls Tryz.prog 34 #[.slice a xs.length cap, .slice a' ys.length cap'] W fun e w' => e = .returned (.bool true) ∧ Below W.heap.size W w' := fun W h1 h2 => (eqS_any _ _ xs ys W h1 h2).mono fun e w' h => by rw [decide_eq_true he] at h; exact h
      clear he
      go_enter Tryz.func12, Tryz.ntmps12
      go_wp2_with (go_at_call 34; refine (hq _ ((hx'.alloc _).alloc _) ((hy'.alloc _).alloc _)).mono ?_; rintro e w1 ⟨rfl, hB⟩)
      go_ret
      exact ⟨by simp [show _ from HE.out], below_of_alloc (below_of_alloc hB)⟩
    · have HE : Hid (¬ xs = ys) := he
      have hq : ∀ W, Rd W (.slice a xs.length cap) xs → Rd W (.slice a' ys.length cap') ys → Calls Tryz.prog 34 #[.slice a xs.length cap, .slice a' ys.length cap'] W fun e w' => e = .returned (.bool false) ∧ Below W.heap.size W w' := fun W h1 h2 => (eqS_any _ _ xs ys W h1 h2).mono fun e w' h => by rw [decide_eq_false he] at h; exact h
      clear he
      go_enter Tryz.func12, Tryz.ntmps12
      go_wp2_with (go_at_call 34; refine (hq _ ((hx'.alloc _).alloc _) ((hy'.alloc _).alloc _)).mono ?_; rintro e w1 ⟨rfl, hB⟩)
      go_ret
      exact ⟨by simp [show _ from HE.out], below_of_alloc (below_of_alloc hB)⟩
  · have hne : (n == m) = false := by cases n <;> cases m <;> simp_all
    go_enter Tryz.func12, Tryz.ntmps12
    go_wp2_with fail
    go_ret
    exact ⟨by rw [decide_eq_false (fun h => hn h.1)]; rfl, (((Below.refl _ _).alloc (Nat.le_refl _) _).alloc (by simp) _)⟩

theorem eqBig_same (n : Bool) (v u : Value) (xs : List Int) (w : World) (hx : Rd w v xs) (hy : Rd w u xs) :
    Calls Tryz.prog 12 #[.agg #[.bool n, v], .agg #[.bool n, u]] w fun e w' => e = .returned (.bool true) ∧ Below w.heap.size w w' :=
  (eqBig_any n n v u xs xs w hx hy).mono fun e w' h => by rw [decide_eq_true ⟨rfl, rfl⟩] at h; exact h

/-- k0, k0 + 1, .. : n numbers. -/
def marks (k0 : Int) (n : Nat) : List Int := (List.range n).map fun (i : Nat) => k0 + (i : Int)
theorem marks_length (k0 : Int) (n : Nat) : (marks k0 n).length = n := by simp [marks]
theorem marks_getD (k0 : Int) (n k : Nat) (h : k < n) : (marks k0 n).getD k 0 = k0 + k := by simp [marks, List.getD, h]
theorem marks_set (k0 : Int) (zs : List Int) (k : Nat) (h : k < zs.length) : (marks k0 k ++ zs.drop k).set k (k0 + k) = marks k0 (k + 1) ++ zs.drop (k + 1) := by
  have e : zs.drop k = zs[k] :: zs.drop (k + 1) := List.drop_eq_getElem_cons h
  rw [e, List.set_append_right _ _ (by simp [marks_length]), marks_length, Nat.sub_self, List.set_cons_zero]
  simp only [marks, List.range_succ, List.map_append, List.append_assoc, List.map_cons, List.map_nil, List.singleton_append]
theorem Limbs.marks {k0 : Int} {n : Nat} (h0 : 0 ≤ k0) (h1 : k0 + n ≤ 4294967296) : Limbs (marks k0 n) := fun z hz => by
  simp [Go.Proofs.YtahcpgldpbejiaaGreatDoor.Z.marks] at hz
  obtain ⟨i, hi, rfl⟩ := hz
  omega

end Go.Proofs.YtahcpgldpbejiaaGreatDoor.Z

namespace Go.Proofs.YtahcpgldpbejiaaGreatDoor.Z
set_option linter.unusedVariables false
set_option linter.unusedSimpArgs false

/-- The number that limbs stand for, the lowest first. -/
def val : List Int → Nat
  | [] => 0
  | z :: r => z.toNat + 4294967296 * val r

/-- The limbs of a number, none of them a zero on top. -/
def lim (n : Nat) : List Int := if h : n = 0 then [] else ((n % 4294967296 : Nat) : Int) :: lim (n / 4294967296)

theorem lim_zero : lim 0 = [] := by unfold lim; simp
theorem lim_pos {n : Nat} (h : ¬ n = 0) : lim n = ((n % 4294967296 : Nat) : Int) :: lim (n / 4294967296) := by rw [lim]; simp [h]

theorem val_lim (n : Nat) : val (lim n) = n := by
  induction n using Nat.strongRecOn with
  | _ n ih =>
    by_cases h : n = 0
    · subst h; rw [lim_zero]; rfl
    · rw [lim_pos h]
      simp only [val]
      rw [ih (n / 4294967296) (by omega)]
      omega

theorem lim_limbs (n : Nat) : Limbs (lim n) := by
  induction n using Nat.strongRecOn with
  | _ n ih =>
    by_cases h : n = 0
    · subst h; rw [lim_zero]; exact Limbs.nil
    · rw [lim_pos h]
      intro z hz
      rcases List.mem_cons.mp hz with rfl | hz
      · omega
      · exact ih _ (by omega) z hz

theorem lim_eq_nil {n : Nat} : lim n = [] ↔ n = 0 := by
  constructor
  · intro h; by_cases e : n = 0
    · exact e
    · rw [lim_pos e] at h; cases h
  · rintro rfl; exact lim_zero

/-- No zero on top. -/
def Norm (zs : List Int) : Prop := zs.length = 0 ∨ zs.getD (zs.length - 1) 0 ≠ 0

theorem Norm.tail {z : Int} {r : List Int} (h : Norm (z :: r)) : Norm r := by
  rcases h with h | h
  · simp at h
  · cases r with
    | nil => exact .inl rfl
    | cons y s => right; simpa [List.getD] using h

theorem lim_val {zs : List Int} (hz : Limbs zs) (hn : Norm zs) : lim (val zs) = zs := by
  induction zs with
  | nil => simp [val, lim_zero]
  | cons z r ih =>
    have hz' : Limbs r := fun y hy => hz y (List.mem_cons_of_mem _ hy)
    have h1 := hz z (List.mem_cons_self)
    have e := ih hz' hn.tail
    have hne : ¬ val (z :: r) = 0 := by
      intro h0
      simp only [val] at h0
      have hr : val r = 0 := by omega
      rw [hr, lim_zero] at e
      subst e
      rcases hn with h | h
      · simp at h
      · simp [List.getD] at h; omega
    rw [lim_pos hne]
    simp only [val]
    have e1 : (z.toNat + 4294967296 * val r) % 4294967296 = z.toNat := by omega
    have e2 : (z.toNat + 4294967296 * val r) / 4294967296 = val r := by omega
    rw [e1, e2, e]
    congr 1
    omega

theorem lim_norm (n : Nat) : Norm (lim n) := by
  induction n using Nat.strongRecOn with
  | _ n ih =>
    by_cases h : n = 0
    · subst h; rw [lim_zero]; exact .inl rfl
    · rw [lim_pos h]
      right
      by_cases h2 : n / 4294967296 = 0
      · rw [h2, lim_zero]; simp [List.getD]; omega
      · have i := ih (n / 4294967296) (by omega)
        rcases i with i | i
        · have := lim_eq_nil.mp (List.length_eq_zero_iff.mp i); omega
        · have hl : (lim (n / 4294967296)).length ≠ 0 := fun e => h2 (lim_eq_nil.mp (List.length_eq_zero_iff.mp e))
          obtain ⟨m, hm⟩ : ∃ m, (lim (n / 4294967296)).length = m + 1 := ⟨_, (Nat.succ_pred_eq_of_ne_zero hl).symm⟩
          rw [List.length_cons, hm]
          rw [hm] at i
          simpa [List.getD] using i

theorem val_zero_of {zs : List Int} (h : ∀ j, zs.getD j 0 = 0) : val zs = 0 := by
  induction zs with
  | nil => rfl
  | cons z r ih =>
    have h0 : z = 0 := by simpa [List.getD] using h 0
    have := ih (fun j => by simpa [List.getD] using h (j + 1))
    simp [val, this, h0]

theorem val_take {zs : List Int} (k : Nat) (h : ∀ j, k ≤ j → zs.getD j 0 = 0) : val (zs.take k) = val zs := by
  induction zs generalizing k with
  | nil => simp
  | cons z r ih =>
    cases k with
    | zero => simp [val]; have := val_zero_of (zs := z :: r) (fun j => h j (Nat.zero_le _)); simp [val] at this; omega
    | succ k =>
      simp only [List.take_succ_cons, val]
      rw [ih k (fun j hj => by simpa [List.getD] using h (j + 1) (by omega))]

theorem take_lim {zs : List Int} (hz : Limbs zs) (k : Nat) (hk : k ≤ zs.length) (h : ∀ j, k ≤ j → zs.getD j 0 = 0) (h1 : k = 0 ∨ zs.getD (k - 1) 0 ≠ 0) : zs.take k = lim (val zs) := by
  rw [← val_take k h, lim_val (hz.take k)]
  have hl : (zs.take k).length = k := by simp; omega
  rcases h1 with h1 | h1
  · left; omega
  · by_cases h0 : k = 0
    · left; omega
    · right
      rw [hl]
      have : (zs.take k).getD (k - 1) 0 = zs.getD (k - 1) 0 := by simp only [List.getD, List.getElem?_take]; rw [if_pos (by omega)]
      rw [this]; exact h1

theorem val_append (xs ys : List Int) : val (xs ++ ys) = val xs + 4294967296 ^ xs.length * val ys := by
  induction xs with
  | nil => simp [val]
  | cons x r ih =>
    simp only [List.cons_append, val, ih, List.length_cons, Nat.pow_succ]
    rw [Nat.mul_add, Nat.add_assoc, ← Nat.mul_assoc, Nat.mul_comm (4294967296 ^ r.length) 4294967296]

theorem val_lt {zs : List Int} (h : Limbs zs) : val zs < 4294967296 ^ zs.length := by
  induction zs with
  | nil => simp [val]
  | cons z r ih =>
    have h1 := h z (List.mem_cons_self)
    have i := ih (fun y hy => h y (List.mem_cons_of_mem _ hy))
    simp only [val, List.length_cons, Nat.pow_succ]
    have : z.toNat < 4294967296 := by omega
    calc z.toNat + 4294967296 * val r < 4294967296 + 4294967296 * val r := by omega
      _ = 4294967296 * (val r + 1) := by rw [Nat.mul_add, Nat.mul_one, Nat.add_comm]
      _ ≤ 4294967296 * 4294967296 ^ r.length := Nat.mul_le_mul_left _ i
      _ = 4294967296 ^ r.length * 4294967296 := Nat.mul_comm _ _

theorem le_val {zs : List Int} (h : Limbs zs) (hn : Norm zs) (h0 : 0 < zs.length) : 4294967296 ^ (zs.length - 1) ≤ val zs := by
  induction zs with
  | nil => simp at h0
  | cons z r ih =>
    have h1 := h z (List.mem_cons_self)
    cases r with
    | nil =>
      simp only [val, List.length_cons, List.length_nil]
      rcases hn with hn | hn
      · simp at hn
      · simp [List.getD] at hn; simp; omega
    | cons y s =>
      have i := ih (fun x hx => h x (List.mem_cons_of_mem _ hx)) hn.tail (by simp)
      simp only [val, List.length_cons, Nat.add_sub_cancel] at i ⊢
      rw [Nat.pow_succ, Nat.mul_comm]
      have := Nat.mul_le_mul_left 4294967296 i
      omega

/-- How many limbs a number has. -/
theorem lim_length_le {n k : Nat} (h : n < 4294967296 ^ k) : (lim n).length ≤ k := by
  rcases Nat.lt_or_ge k (lim n).length with hlt | hge
  · have h1 := le_val (lim_limbs n) (lim_norm n) (by omega)
    rw [val_lim] at h1
    have : 4294967296 ^ k ≤ 4294967296 ^ ((lim n).length - 1) := Nat.pow_le_pow_right (by omega) (by omega)
    omega
  · exact hge

theorem lim_length_gt {n k : Nat} (h : 4294967296 ^ k ≤ n) : k < (lim n).length := by
  rcases Nat.lt_or_ge k (lim n).length with hlt | hge
  · exact hlt
  · have h1 := val_lt (lim_limbs n)
    rw [val_lim] at h1
    have : 4294967296 ^ (lim n).length ≤ 4294967296 ^ k := Nat.pow_le_pow_right (by omega) hge
    omega

theorem lim_inj {n m : Nat} : lim n = lim m ↔ n = m := ⟨fun h => by rw [← val_lim n, h, val_lim], fun h => by rw [h]⟩

end Go.Proofs.YtahcpgldpbejiaaGreatDoor.Z

namespace Go.Proofs.YtahcpgldpbejiaaGreatDoor.Z
open Go.RowKit
set_option linter.unusedVariables false
set_option linter.unusedSimpArgs false


set_option maxRecDepth 100000 in
theorem trimS_any (v : Value) (zs : List Int) (w : World) (hr : Rd w v zs) :
    Calls Tryz.prog 56 #[v] w fun e w' => ∃ a c, e = .returned (.slice a (lim (val zs)).length c) ∧ Own w' w.heap.size (.slice a (lim (val zs)).length c) (lim (val zs)) ∧ Below w.heap.size w w' := by
  have hr' := hr
  obtain ⟨a, cap, rfl, hl, hz, hn0, hc⟩ := hr
  obtain ⟨L, hL⟩ : ∃ L, L = lim (val zs) := ⟨_, rfl⟩
  rw [← hL]
  have HL : Hid (L = lim (val zs)) := hL
  clear hL
  go_enter Tryz.func56, Tryz.ntmps56
  go_wp2
  go_loop [3] (fun n => ∃ k : Nat, k ≤ zs.length ∧ n = .int .i64 k ∧ ∀ j, k ≤ j → zs.getD j 0 = 0) (fun n => (intOf n).toNat)
  case atStart => exact ⟨zs.length, Nat.le_refl _, rfl, fun j hj => by simp [List.getD, List.getElem?_eq_none hj]⟩
  case round =>
    obtain ⟨k, hk, rfl, hzero⟩ := hrel
    by_cases hk0 : k = 0
    · have HT : Hid (zs.take k = L) := (take_lim hz k hk hzero (.inl hk0)).trans HL.out.symm
      clear hzero hc
      subst hk0
      go_wp2_with (at_builtin; refine wpList_append_rd rfl _ _ 25 rfl Tryz.underlying25 w.heap.size _ _ [] (zs.take 0) rfl rfl (Own.empty w) ((hr'.upto 0 (Nat.zero_le _)).alloc _) (by simp) (by simp) ?_; intro a1 c1 w1 hO hB; rw [List.nil_append, HT.out] at hO ⊢)
      go_ret
      exact ⟨a1, c1, rfl, hO, ((Below.refl _ _).alloc (Nat.le_refl _) _).trans hB⟩
    · obtain ⟨b, off, rfl, hb, hcell⟩ := hc (by omega)
      have hce : w.cell? ⟨b, off + (k - 1), none⟩ = some (.int .u32 (zs.getD (k - 1) 0)) := hcell (k - 1) (by omega)
      by_cases hlast : zs.getD (k - 1) 0 = 0
      · rw [hlast] at hce
        have HZ : Hid (∀ j, k - 1 ≤ j → zs.getD j 0 = 0) := fun j hj => by
          by_cases e : j = k - 1
          · subst e; exact hlast
          · exact hzero j (by omega)
        clear hzero hc hcell hlast
        go_wp2
        go_round
        case rel => exact ⟨k - 1, by omega, by go_num, HZ.out⟩
        case measure => simp [intOf]; omega
      · have HT : Hid (zs.take k = L) := (take_lim hz k hk hzero (.inr hlast)).trans HL.out.symm
        have hb0 : (zs.getD (k - 1) 0 == 0) = false := beq_eq_false_iff_ne.mpr hlast
        generalize hq : zs.getD (k - 1) 0 = q at hce hb0
        have hcap : k ≤ cap := Nat.le_trans hk hn0.1
        clear hq hzero hlast hc hcell
        go_wp2_with (at_builtin; refine wpList_append_rd rfl _ _ 25 rfl Tryz.underlying25 w.heap.size _ _ [] (zs.take k) rfl rfl (Own.empty w) ((hr'.upto k hk).alloc _) (by simp; omega) (by simp) ?_; intro a1 c1 w1 hO hB; rw [List.nil_append, HT.out] at hO ⊢)
        go_ret
        exact ⟨a1, c1, rfl, hO, ((Below.refl _ _).alloc (Nat.le_refl _) _).trans hB⟩

theorem Own.cut {w : World} {B n cap : Nat} {a : Option Addr} {zs : List Int} (h : Own w B (.slice a n cap) zs) (k : Nat) (hk : k ≤ zs.length) (h0 : ¬ k = 0) : Own w B (.slice a k cap) (zs.take k) := by
  obtain ⟨⟨h1, h2⟩, hl, hz⟩ := h
  have hlen : (zs.take k).length = k := by simp; omega
  refine ⟨⟨by simp, ?_⟩, by omega, hz.take k⟩
  rcases h2 with ⟨hv, hn⟩ | ⟨g, c, cur, hv, hB, hh, hc, hm, hs, ht⟩
  · omega
  · simp at hv
    obtain ⟨rfl, rfl, rfl⟩ := hv
    refine .inr ⟨g, cap, cur, by rw [hlen], hB, hh, by omega, hm, hs, ?_⟩
    rw [hlen, List.map_take, ← ht]
    simp [List.take_take]; omega

set_option maxRecDepth 100000 in
theorem trimmed_gen (B n cap : Nat) (A0 : Option Addr) (zs : List Int) (w : World) (hO : Own w B (.slice A0 n cap) zs) :
    Calls Tryz.prog 69 #[.slice A0 n cap] w fun e w' => ∃ a c, e = .returned (.slice a (lim (val zs)).length c) ∧ (∀ W B, Own W B (.slice A0 n cap) zs → Own W B (.slice a (lim (val zs)).length c) (lim (val zs))) ∧ w' = w := by
  have hr := hO.rd
  obtain ⟨a1, cap1, e, hl, hz, hn0, hc⟩ := hr
  simp at e
  obtain ⟨rfl, rfl, rfl⟩ := e
  obtain ⟨L, hL⟩ : ∃ L, L = lim (val zs) := ⟨_, rfl⟩
  rw [← hL]
  have HL : Hid (L = lim (val zs)) := hL
  clear hL
  go_enter Tryz.func69, Tryz.ntmps69
  go_wp2
  go_loop [3] (fun n => ∃ k : Nat, k ≤ zs.length ∧ n = .int .i64 k ∧ ∀ j, k ≤ j → zs.getD j 0 = 0) (fun n => (intOf n).toNat)
  case atStart => exact ⟨zs.length, Nat.le_refl _, rfl, fun j hj => by simp [List.getD, List.getElem?_eq_none hj]⟩
  case round =>
    obtain ⟨k, hk, rfl, hzero⟩ := hrel
    by_cases hk0 : k = 0
    · have HT : Hid (zs.take k = L) := (take_lim hz k hk hzero (.inl hk0)).trans HL.out.symm
      clear hzero hc
      subst hk0
      go_wp2
      go_ret
      have e : L = [] := by rw [← HT.out]; rfl
      subst e
      exact ⟨none, 0, rfl, fun _ _ _ => Own.nil _ _, rfl⟩
    · obtain ⟨b, off, rfl, hb, hcell⟩ := hc (by omega)
      have hce : w.cell? ⟨b, off + (k - 1), none⟩ = some (.int .u32 (zs.getD (k - 1) 0)) := hcell (k - 1) (by omega)
      by_cases hlast : zs.getD (k - 1) 0 = 0
      · rw [hlast] at hce
        have HZ : Hid (∀ j, k - 1 ≤ j → zs.getD j 0 = 0) := fun j hj => by
          by_cases e : j = k - 1
          · subst e; exact hlast
          · exact hzero j (by omega)
        clear hzero hc hcell hlast
        go_wp2
        go_round
        case rel => exact ⟨k - 1, by omega, by go_num, HZ.out⟩
        case measure => simp [intOf]; omega
      · have HT : Hid (zs.take k = L) := (take_lim hz k hk hzero (.inr hlast)).trans HL.out.symm
        have hb0 : (zs.getD (k - 1) 0 == 0) = false := beq_eq_false_iff_ne.mpr hlast
        have hk1 : ((k : Int) == 0) = false := beq_len0 hk0
        have hcap : k ≤ cap := by
          rcases hO.shape with ⟨hv, _⟩ | ⟨g, c, hv, _, _, h⟩
          · cases hv
          · simp at hv; omega
        generalize hq : zs.getD (k - 1) 0 = q at hce hb0
        have hcut := fun W B (h : Own W B (.slice (some ⟨b, off, none⟩) zs.length cap) zs) => h.cut k hk hk0
        clear hq hzero hlast hc hcell
        go_wp2
        go_ret
        have hlen : L.length = k := by rw [← HT.out]; simp; omega
        rw [HT.out] at hcut
        refine ⟨_, cap, ?_, by rw [hlen]; exact hcut, rfl⟩
        rw [hlen]; rfl

theorem trimmed_any (B n cap : Nat) (a : Option Addr) (zs : List Int) (w : World) (hO : Own w B (.slice a n cap) zs) :
    Calls Tryz.prog 69 #[.slice a n cap] w fun e w' => ∃ a c, e = .returned (.slice a (lim (val zs)).length c) ∧ Own w B (.slice a (lim (val zs)).length c) (lim (val zs)) ∧ w' = w :=
  (trimmed_gen B n cap a zs w hO).mono fun e w' ⟨a1, c1, h1, h2, h3⟩ => ⟨a1, c1, h1, h2 w B hO, h3⟩
end Go.Proofs.YtahcpgldpbejiaaGreatDoor.Z

namespace Go.Proofs.YtahcpgldpbejiaaGreatDoor.Z
open Go.RowKit
set_option linter.unusedVariables false
set_option linter.unusedSimpArgs false

theorem val_take_succ (zs : List Int) (k : Nat) : val (zs.take (k + 1)) = val (zs.take k) + 4294967296 ^ k * (zs.getD k 0).toNat := by
  by_cases hk : k < zs.length
  · rw [take_succ_getD zs k hk, val_append]
    have : (zs.take k).length = k := by simp; omega
    rw [this]; simp [val]
  · rw [List.take_of_length_le (by omega), List.take_of_length_le (by omega)]
    have : zs.getD k 0 = 0 := by simp [List.getD, List.getElem?_eq_none (by omega : zs.length ≤ k)]
    rw [this]; simp

/-- One step of a sum, limb by limb. -/
theorem add_step {V A B P c x y d e : Nat} (h : V + P * c = A + B) (hd : d + 4294967296 * e = c + x + y) : V + P * d + 4294967296 * P * e = A + P * x + (B + P * y) := by
  have h1 : P * (d + 4294967296 * e) = P * (c + x + y) := by rw [hd]
  have h2 : P * (d + 4294967296 * e) = P * d + 4294967296 * P * e := by rw [Nat.mul_add, ← Nat.mul_assoc, Nat.mul_comm P 4294967296]
  have h3 : P * (c + x + y) = P * c + P * x + P * y := by rw [Nat.mul_add, Nat.mul_add]
  omega

theorem low32' {u : Int} (h0 : 0 ≤ u) (h1 : u ≤ 18446744073709551615) : bits .and .u64 u 4294967295 = u % 4294967296 := and_low32 u h0 (by omega)

end Go.Proofs.YtahcpgldpbejiaaGreatDoor.Z
