import Derived.Test.YtnpjlmnhailipaaToD
namespace Go.Proofs.Ytnpjlmnhailipaa
open Go.RowKit Go.Maps
set_option linter.unusedVariables false
set_option linter.unusedSimpArgs false

/-- An operation on a dict. -/
structure Op where
  c : Int
  h : Int
  k : Int
  v : Int
  deriving DecidableEq
def Op.ok (e : Op) : Prop := (-9223372036854775808 ≤ e.c ∧ e.c < 9223372036854775808) ∧ (0 ≤ e.h ∧ e.h < 18446744073709551616) ∧ (-9223372036854775808 ≤ e.k ∧ e.k < 9223372036854775808) ∧ (-9223372036854775808 ≤ e.v ∧ e.v < 9223372036854775808)
def Op.cs (e : Op) : List Value := [.int .i64 e.c, .int .u64 e.h, .int .i64 e.k, .int .i64 e.v]
def Op.val (e : Op) : Value := .agg #[.int .i64 e.c, .int .u64 e.h, .int .i64 e.k, .int .i64 e.v]
def shO : Sh Op := ⟨4, by decide, Op.cs, Op.ok, fun _ => rfl, fun a u hu => by simp [Op.cs] at hu; rcases hu with rfl | rfl | rfl | rfl <;> rfl⟩
abbrev RdO := RdG shO
abbrev OwnO (T : TypeId) := OwnG shO T
theorem Try.info59 : (Try.prog.info? 59).map (fun i => (i.zero, i.size, i.bytes)) = some (some (.agg #[.int .i64 0, .int .u64 0, .int .i64 0, .int .i64 0]), 4, 32) := by kernel_rfl
theorem RdO.at {w : World} {b off : Nat} {xs : List Op} (hc : ∀ k (hk : k < xs.length) j, j < shO.n → w.cell? ⟨b, off + k * shO.n + j, none⟩ = (shO.cs xs[k])[j]?) (k : Nat) (hk : k < xs.length) :
    w.cell? ⟨b, off + k * 4, none⟩ = some (.int .i64 xs[k].c) ∧ w.cell? ⟨b, off + k * 4 + 1, none⟩ = some (.int .u64 xs[k].h) ∧ w.cell? ⟨b, off + k * 4 + 2, none⟩ = some (.int .i64 xs[k].k) ∧ w.cell? ⟨b, off + k * 4 + 3, none⟩ = some (.int .i64 xs[k].v) :=
  ⟨hc k hk 0 (by decide), hc k hk 1 (by decide), hc k hk 2 (by decide), hc k hk 3 (by decide)⟩
theorem OwnO.store4 {T : TypeId} {w : World} {B g n cap : Nat} {xs : List Op} (h : OwnO T w B (.slice (some ⟨g, 0, none⟩) n cap) xs) (k : Nat) (hk : k < xs.length) (e : Op) (he : shO.ok e) :
    OwnO T ((((w.setCell ⟨g, k * 4, none⟩ (.int .i64 e.c)).setCell ⟨g, k * 4 + 1, none⟩ (.int .u64 e.h)).setCell ⟨g, k * 4 + 2, none⟩ (.int .i64 e.k)).setCell ⟨g, k * 4 + 3, none⟩ (.int .i64 e.v)) B (.slice (some ⟨g, 0, none⟩) n cap) (xs.set k e) := by
  have hx := h.2.2 xs[k] (List.getElem_mem hk)
  have h1 := h.put k hk 0 (by decide) (.int .i64 e.c) ⟨e.c, xs[k].h, xs[k].k, xs[k].v⟩ ⟨he.1, hx.2⟩ rfl
  have h2 := h1.put k (by simpa using hk) 1 (by decide) (.int .u64 e.h) ⟨e.c, e.h, xs[k].k, xs[k].v⟩ ⟨he.1, he.2.1, hx.2.2⟩ (by simp [shO, Op.cs])
  have h3 := h2.put k (by simpa using hk) 2 (by decide) (.int .i64 e.k) ⟨e.c, e.h, e.k, xs[k].v⟩ ⟨he.1, he.2.1, he.2.2.1, hx.2.2.2⟩ (by simp [shO, Op.cs])
  have h4 := h3.put k (by simpa using hk) 3 (by decide) (.int .i64 e.v) e he (by simp [shO, Op.cs])
  simp only [List.set_set, Nat.add_zero] at h4
  exact h4

set_option maxRecDepth 100000 in
theorem eqO_any (x y : Op) (w : World) : Calls Try.prog 60 #[x.val, y.val] w fun e w' => e = .returned (.bool (decide (x = y))) ∧ Below w.heap.size w w' := by
  obtain ⟨c, h, k, v⟩ := x
  obtain ⟨c', h', k', v'⟩ := y
  have bW : Below w.heap.size w ((w.alloc (Obj.cells #[.int .i64 c, .int .u64 h, .int .i64 k, .int .i64 v] 59)).alloc (Obj.cells #[.int .i64 c', .int .u64 h', .int .i64 k', .int .i64 v'] 59)) := ((Below.refl _ w).alloc (Nat.le_refl _) _).alloc (by simp) _
  simp only [Op.val, Op.mk.injEq]
  by_cases e0 : c = c'
  · by_cases e1 : h = h'
    · by_cases e2 : k = k'
      · by_cases e3 : v = v'
        · subst e0 e1 e2 e3
          go_enter Try.func60, Try.ntmps60
          go_wp2
          go_ret; exact ⟨by simp, bW⟩
        · subst e0 e1 e2
          go_enter Try.func60, Try.ntmps60
          go_wp2
          go_ret; exact ⟨by simp [e3], bW⟩
      · subst e0 e1
        go_enter Try.func60, Try.ntmps60
        go_wp2
        go_ret; exact ⟨by simp [e2], bW⟩
    · subst e0
      go_enter Try.func60, Try.ntmps60
      go_wp2
      go_ret; exact ⟨by simp [e1], bW⟩
  · go_enter Try.func60, Try.ntmps60
    go_wp2
    go_ret; exact ⟨by simp [e0], bW⟩

set_option maxRecDepth 100000 in
theorem eqOS_any (v u : Value) (xs ys : List Op) (w : World) (hx : RdO w v xs) (hy : RdO w u ys) :
    Calls Try.prog 31 #[v, u] w fun e w' => e = .returned (.bool (decide (xs = ys))) ∧ Below w.heap.size w w' := by
  obtain ⟨a, cap, rfl, hlx, hzx, hnx, hcx⟩ := hx
  obtain ⟨a', cap', rfl, hly, hzy, hny, hcy⟩ := hy
  by_cases hlen : xs.length = ys.length
  · go_enter Try.func31, Try.ntmps31
    go_wp2
    go_loopw [5] (fun i wr => ∃ k : Nat, k ≤ xs.length ∧ i = .int .i64 k ∧ xs.take k = ys.take k ∧ Below w.heap.size w wr)
      (fun i _ => xs.length - (intOf i).toNat)
    case atStart => exact ⟨0, Nat.zero_le _, rfl, by simp, Below.refl _ _⟩
    case round =>
      obtain ⟨k, hk, rfl, hEq, hBr⟩ := hrel
      by_cases hlt : k < xs.length
      · obtain ⟨b, off, rfl, hb, hcell⟩ := hcx (by omega)
        obtain ⟨b', off', rfl, hb', hcell'⟩ := hcy (by omega)
        obtain ⟨c0, c1, c2, c3⟩ := RdO.at (fun k hk j hj => (hBr.cell (p := ⟨b, _, none⟩) hb).trans (hcell k hk j hj)) k hlt
        have hlt' : k < ys.length := by omega
        obtain ⟨d0, d1, d2, d3⟩ := RdO.at (fun k hk j hj => (hBr.cell (p := ⟨b', _, none⟩) hb').trans (hcell' k hk j hj)) k hlt'
        have hA := hEq
        have HL : Hid (xs.length = ys.length) := hlen
        clear hcell hcell' hcx hcy hEq hlen
        generalize hX : xs[k] = X at *
        generalize hY : ys[k] = Y at *
        have hE := fun W => eqO_any X Y W
        simp only [Op.val] at hE
        go_wp2
        go_region_with (go_at_call 60; refine (hE _).mono ?_; rintro e w2 ⟨rfl, hB⟩)
        all_goals
          by_cases hXY : X = Y
          · rw [decide_eq_true hXY]
            go_wp2
            go_roundw
            case rel =>
              refine ⟨k + 1, by omega, by go_num, ?_, hBr.drew.trans (hB.mono hBr.size)⟩
              rw [List.take_succ_eq_append_getElem hlt, List.take_succ_eq_append_getElem hlt', hA, hX, hY, hXY]
            case measure => simp [intOf]; omega
          · rw [decide_eq_false hXY]
            go_wp2
            go_ret
            refine ⟨?_, hBr.drew.trans (hB.mono hBr.size)⟩
            have : xs ≠ ys := fun h => hXY (by subst h; rw [← hX, ← hY])
            simp [this]
      · go_wp2
        go_ret
        refine ⟨?_, hBr⟩
        rw [List.take_of_length_le (by omega), List.take_of_length_le (by omega)] at hEq
        simp [hEq]
  · have hne : ((xs.length : Int) == (ys.length : Int)) = false := by simp; omega
    go_enter Try.func31, Try.ntmps31
    go_wp2
    go_ret
    have : xs ≠ ys := fun h => hlen (by rw [h])
    exact ⟨by simp [this], Below.refl _ _⟩

def markO (k0 : Int) (i : Nat) : Op := ⟨k0 + 4 * i, k0 + 4 * i + 1, k0 + 4 * i + 2, k0 + 4 * i + 3⟩
def marksO (k0 : Int) (n : Nat) : List Op := (List.range n).map (markO k0)
theorem marksO_length (k0 : Int) (n : Nat) : (marksO k0 n).length = n := by simp [marksO]
theorem markO_ok {k0 : Int} {i : Nat} (h0 : 0 ≤ k0) (h1 : k0 + 4 * i + 4 ≤ 4294967296) : shO.ok (markO k0 i) := by
  refine ⟨⟨?_, ?_⟩, ⟨?_, ?_⟩, ⟨?_, ?_⟩, ⟨?_, ?_⟩⟩ <;> simp only [markO] <;> omega
theorem marksO_set (k0 : Int) (xs : List Op) (k : Nat) (h : k < xs.length) : (marksO k0 k ++ xs.drop k).set k (markO k0 k) = marksO k0 (k + 1) ++ xs.drop (k + 1) := by
  have e : xs.drop k = xs[k] :: xs.drop (k + 1) := List.drop_eq_getElem_cons h
  rw [e, List.set_append_right _ _ (by simp [marksO_length]), marksO_length, Nat.sub_self, List.set_cons_zero]
  simp only [marksO, List.range_succ, List.map_append, List.append_assoc, List.map_cons, List.map_nil, List.singleton_append]

set_option maxRecDepth 100000 in
theorem markOS_any (T : TypeId) (B n cap : Nat) (a : Option Addr) (xs : List Op) (k0 : Int) (w : World) (hO : OwnO T w B (.slice a n cap) xs) (h0 : 0 ≤ k0) (h1 : k0 ≤ 33554432) (hT : T = 59) :
    Calls Try.prog 32 #[.slice a n cap, .int .i64 k0] w fun e w' => e = .returned (.int .i64 (k0 + 4 * xs.length)) ∧ OwnO T w' B (.slice a n cap) (marksO k0 xs.length) ∧ w.grownBy w' (Value.slice a n cap).ownBlock := by
  have hlz := hO.2.1
  rcases hO.shape with ⟨hv, rfl⟩ | ⟨g, cap', hv, hBg, hg, hcap⟩
  · simp at hv
    obtain ⟨rfl, rfl, rfl⟩ := hv
    go_enter Try.func32, Try.ntmps32
    go_wp2
    refine wp_loop_rounds 1 ?_
    rw [rounds_succ]
    go_wp2
    go_ret
    exact ⟨by simp, hO, World.grownBy.refl _ _⟩
  · simp at hv
    obtain ⟨rfl, rfl, rfl⟩ := hv
    go_enter Try.func32, Try.ntmps32
    go_wp2
    go_loopw [1, 5] (fun q i wr => ∃ k : Nat, k ≤ xs.length ∧ q = .int .i64 (k0 + 4 * k) ∧ i = .int .i64 k ∧ OwnO T wr B (.slice (some ⟨g, 0, none⟩) xs.length cap) (marksO k0 k ++ xs.drop k) ∧ w.grownBy wr (some g))
      (fun _ i _ => xs.length - (intOf i).toNat)
    case atStart => exact ⟨0, Nat.zero_le _, by simp, rfl, by simpa [marksO] using hO, World.grownBy.refl _ _⟩
    case round =>
      obtain ⟨k, hk, rfl, rfl, hOr, hBr⟩ := hrel
      by_cases hlt : k < xs.length
      · have hll : k < (marksO k0 k ++ xs.drop k).length := by simp [marksO_length]; omega
        generalize hL : marksO k0 k ++ xs.drop k = L at hOr hll
        obtain ⟨c0, c1, c2, c3⟩ := RdO.at (off := 0) (fun k hk j hj => by rw [Nat.zero_add]; exact hOr.cell k hk j hj) k hll
        simp only [Nat.zero_add] at c0 c1 c2 c3
        have f0 := hOr.frozen (k * 4)
        have f1 := hOr.frozen (k * 4 + 1)
        have f2 := hOr.frozen (k * 4 + 2)
        have f3 := hOr.frozen (k * 4 + 3)
        have HL : Hid (marksO k0 k ++ xs.drop k = L) := hL
        clear hL
        go_wp2
        go_roundw
        case rel =>
          refine ⟨k + 1, by omega, by go_num, by go_num, ?_, gb_trans (gb_trans (gb_trans (gb_trans hBr (gb_set _ _ _ _)) (gb_set _ _ _ _)) (gb_set _ _ _ _)) (gb_set _ _ _ _)⟩
          have := OwnO.store4 hOr k hll (markO k0 k) (markO_ok h0 (by omega))
          rw [← HL.out, marksO_set k0 xs k hlt] at this
          have e2 : k0 + 4 * (k : Int) + 1 + 1 = k0 + 4 * (k : Int) + 2 := by omega
          have e3 : k0 + 4 * (k : Int) + 2 + 1 = k0 + 4 * (k : Int) + 3 := by omega
          simp only [markO] at this
          simpa only [e2, e3] using this
        case measure => simp [intOf]; omega
      · go_wp2
        go_ret
        have hk' : k = xs.length := by omega
        subst hk'
        exact ⟨rfl, by simpa using hOr, hBr⟩

set_option maxRecDepth 100000 in
theorem toO_any (x : Op) (w : World) : Calls Try.prog 58 #[x.val] w fun e w' => e = .returned x.val ∧ Below w.heap.size w w' := by
  obtain ⟨c, h, k, v⟩ := x
  simp only [Op.val]
  go_enter Try.func58, Try.ntmps58
  go_wp2
  refine bodyPost_ret (v := .agg #[.int .i64 c, .int .u64 h, .int .i64 k, .int .i64 v]) (by simp [results, Try.results58, go_sem]) rfl ⟨rfl, ?_⟩
  first
    | exact (((Below.refl _ w).alloc (Nat.le_refl _) _).alloc (by simp) _).alloc (by simp; omega) _
    | exact ((Below.refl _ w).alloc (Nat.le_refl _) _).alloc (by simp) _

def op0 : Op := ⟨0, 0, 0, 0⟩
theorem set_take_op (xs : List Op) (k : Nat) (hk : k < xs.length) : (xs.take k ++ List.replicate (xs.length - k) op0).set k xs[k] = xs.take (k + 1) ++ List.replicate (xs.length - (k + 1)) op0 := by
  rw [List.set_append_right _ _ (by simp; omega), List.take_succ_eq_append_getElem hk]
  have e : k - (xs.take k).length = 0 := by simp; omega
  rw [e, show xs.length - k = (xs.length - (k + 1)) + 1 by omega, List.replicate_succ, List.set_cons_zero, List.append_assoc]; rfl

set_option maxRecDepth 100000 in
set_option maxHeartbeats 1000000 in
theorem toOS_any (v : Value) (xs : List Op) (w : World) (hr : RdO w v xs) :
    Calls Try.prog 28 #[v] w fun e w' => ∃ a c, e = .returned (.slice a xs.length c) ∧ OwnO 59 w' w.heap.size (.slice a xs.length c) xs ∧ Below w.heap.size w w' := by
  obtain ⟨a, cap, rfl, hl, hz, hn0, hc⟩ := hr
  obtain ⟨i0, hi, hz0, hz1, hz2⟩ := info_parts Try.info59
  go_enter Try.func28, Try.ntmps28
  go_wp2_with (at_make; refine wpList_make_full _ rfl _ _ 48 rfl w.heap.size 59 i0 _ 4 Try.underlying48 hi hz0 hz1 .i64 .i64 _ _ xs.length rfl rfl rfl rfl (by rw [hz2]; omega) (by unfold maxLen; omega) (Nat.le_refl _) ?_; intro w1 hown hgrow)
  have hO : OwnO 59 w1 w.heap.size (.slice (some ⟨w.heap.size, 0, none⟩) xs.length xs.length) (List.replicate xs.length op0) := by
    have hf : ∀ n, (List.replicate n op0).flatMap shO.cs = (madeCells (Value.cells (.agg #[.int .i64 0, .int .u64 0, .int .i64 0, .int .i64 0])) (n * 4)).toList := by
      intro n
      have hlen : ((List.replicate n op0).flatMap shO.cs).length = n * 4 := by rw [flat_length, List.length_replicate]; rfl
      apply List.ext_getElem?
      intro i
      by_cases hi : i < n * 4
      · have hk : i / 4 < n := by omega
        have h1 := flat_get shO (List.replicate n op0) (i / 4) (by simpa using hk) (i % 4) (by show i % 4 < 4; omega)
        rw [show i / 4 * shO.n + i % 4 = i by show i / 4 * 4 + i % 4 = i; omega, List.getElem_replicate] at h1
        rw [h1]
        have h2 : (madeCells (Value.cells (.agg #[.int .i64 0, .int .u64 0, .int .i64 0, .int .i64 0])) (n * 4)).toList[i]? = some ((Value.cells (.agg #[.int .i64 0, .int .u64 0, .int .i64 0, .int .i64 0]))[i % 4]!) := by
          simp [madeCells, hi, Value.cells]
        rw [h2]
        have h4 : i % 4 < 4 := by omega
        generalize i % 4 = j at h4
        have : j = 0 ∨ j = 1 ∨ j = 2 ∨ j = 3 := by omega
        rcases this with rfl | rfl | rfl | rfl <;> rfl
      · rw [List.getElem?_eq_none (by omega), List.getElem?_eq_none (by rw [Array.length_toList, size_madeCells]; omega)]
    refine ⟨?_, by simpa using hl, fun e he => ?_⟩
    · show w1.ownsRow w.heap.size 59 4 _ (List.replicate xs.length op0).length _
      rw [hf, List.length_replicate]; exact hown
    · simp at he; rw [he.2]; exact ⟨⟨by decide, by decide⟩, ⟨by decide, by decide⟩, ⟨by decide, by decide⟩, ⟨by decide, by decide⟩⟩
  have hB : Below w.heap.size w w1 := (Below.refl _ _).grown hgrow (Nat.le_refl _) (by intro k h; cases h)
  clear hown hgrow
  go_loopw [4] (fun i wr => ∃ k : Nat, k ≤ xs.length ∧ i = .int .i64 k ∧ OwnO 59 wr w.heap.size (.slice (some ⟨w.heap.size, 0, none⟩) xs.length xs.length) (xs.take k ++ List.replicate (xs.length - k) op0) ∧ Below w.heap.size w wr)
    (fun i _ => xs.length - (intOf i).toNat)
  case atStart => exact ⟨0, Nat.zero_le _, rfl, by simpa using hO, hB⟩
  case round =>
    obtain ⟨k, hk, rfl, hOr, hBr⟩ := hrel
    clear hO hB
    by_cases hlt : k < xs.length
    · obtain ⟨b, off, rfl, hb, hcell⟩ := hc (by omega)
      obtain ⟨d0, d1, d2, d3⟩ := RdO.at (fun k hk j hj => (hBr.cell (p := ⟨b, _, none⟩) hb).trans (hcell k hk j hj)) k hlt
      have hok := hz xs[k] (List.getElem_mem hlt)
      have hst := set_take_op xs k hlt
      have Hst : Hid _ := hst
      have hTo := fun W => toO_any xs[k] W
      have hll : k < (xs.take k ++ List.replicate (xs.length - k) op0).length := by simp; omega
      generalize (xs.take k ++ List.replicate (xs.length - k) op0) = L at *
      obtain ⟨c0, c1, c2, c3⟩ := RdO.at (off := 0) (fun k hk j hj => by rw [Nat.zero_add]; exact hOr.cell k hk j hj) k hll
      simp only [Nat.zero_add] at c0 c1 c2 c3
      have f0 := hOr.frozen (k * 4)
      have f1 := hOr.frozen (k * 4 + 1)
      have f2 := hOr.frozen (k * 4 + 2)
      have f3 := hOr.frozen (k * 4 + 3)
      generalize xs[k] = E at *
      simp only [Op.val] at hTo
      clear hcell hc hst
      go_wp2_with (go_at_call 58; refine (hTo _).mono ?_; rintro e w2 ⟨rfl, hB2⟩; have hO2 := hOr.keep hB2; clear c0 c1 c2 c3 f0 f1 f2 f3; obtain ⟨c0, c1, c2, c3⟩ := RdO.at (off := 0) (fun k hk j hj => by rw [Nat.zero_add]; exact hO2.cell k hk j hj) k hll; simp only [Nat.zero_add] at c0 c1 c2 c3; have f0 := hO2.frozen (k * 4); have f1 := hO2.frozen (k * 4 + 1); have f2 := hO2.frozen (k * 4 + 2); have f3 := hO2.frozen (k * 4 + 3))
      go_roundw
      case rel =>
        have hBw := hBr.trans (hB2.mono hBr.size)
        have hsz := hBw.size
        refine ⟨k + 1, by omega, by go_num, ?_, below_set (below_set (below_set (below_set hBw hsz (Nat.le_refl _) _) (by simpa [World.setCell] using hsz) (Nat.le_refl _) _) (by simpa [World.setCell] using hsz) (Nat.le_refl _) _) (by simpa [World.setCell] using hsz) (Nat.le_refl _) _⟩
        have := OwnO.store4 hO2 k hll E hok
        rw [Hst.out] at this
        exact this
      case measure => simp [intOf]; omega
    · go_wp2
      go_ret
      have hk' : k = xs.length := by omega
      subst hk'
      exact ⟨_, _, rfl, by simpa using hOr, hBr⟩

theorem szOS_any (a : Option Addr) (n c : Nat) (left : Int) (w : World) (h : n ≤ 9223372036854775807) (h0 : 0 ≤ left) (h1 : left ≤ 1048576) :
    Calls Try.prog 26 #[.slice a n c, .int .i64 left] w fun e w' => e = .returned (.int .i64 (if left < n then -1 else left - n)) ∧ w' = w := by
  by_cases hl : left < (n : Int)
  · rw [if_pos hl]
    go_enter Try.func26, Try.ntmps26
    go_wp2
    go_ret
    exact ⟨rfl, rfl⟩
  · rw [if_neg hl]
    go_enter Try.func26, Try.ntmps26
    go_wp2
    go_ret
    exact ⟨rfl, rfl⟩

end Go.Proofs.Ytnpjlmnhailipaa
