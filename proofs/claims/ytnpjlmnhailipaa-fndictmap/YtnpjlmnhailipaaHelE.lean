import Derived.Test.YtnpjlmnhailipaaBaseG
import Derived.Test.YtnpjlmnhailipaaHelpZ
namespace Go.Proofs.Ytnpjlmnhailipaa
open Go.RowKit
set_option linter.unusedVariables false
set_option linter.unusedSimpArgs false

set_option maxRecDepth 100000 in
theorem eqE_any (x y : En) (w : World) : Calls Try.prog 68 #[x.val, y.val] w fun e w' => e = .returned (.bool (decide (x = y))) ∧ Below w.heap.size w w' := by
  obtain ⟨h, k, v, g⟩ := x
  obtain ⟨h', k', v', g'⟩ := y
  have bW : Below w.heap.size w ((w.alloc (Obj.cells #[.int .u64 h, .int .i64 k, .int .i64 v, .bool g] 63)).alloc (Obj.cells #[.int .u64 h', .int .i64 k', .int .i64 v', .bool g'] 63)) := ((Below.refl _ w).alloc (Nat.le_refl _) _).alloc (by simp) _
  simp only [En.val, En.mk.injEq]
  by_cases e1 : h = h'
  · by_cases e2 : k = k'
    · by_cases e3 : v = v'
      · subst e1 e2 e3
        go_enter Try.func68, Try.ntmps68
        cases g <;> cases g' <;> go_wp2
        all_goals (go_ret; exact ⟨by simp, bW⟩)
      · subst e1 e2
        go_enter Try.func68, Try.ntmps68
        go_wp2
        go_ret; exact ⟨by simp [e3], bW⟩
    · subst e1
      go_enter Try.func68, Try.ntmps68
      go_wp2
      go_ret; exact ⟨by simp [e2], bW⟩
  · go_enter Try.func68, Try.ntmps68
    go_wp2
    go_ret; exact ⟨by simp [e1], bW⟩

theorem RdE.at {w : World} {b off : Nat} {xs : List En} (hc : ∀ k (hk : k < xs.length) j, j < shE.n → w.cell? ⟨b, off + k * shE.n + j, none⟩ = (shE.cs xs[k])[j]?) (k : Nat) (hk : k < xs.length) :
    w.cell? ⟨b, off + k * 4, none⟩ = some (.int .u64 xs[k].h) ∧ w.cell? ⟨b, off + k * 4 + 1, none⟩ = some (.int .i64 xs[k].k) ∧ w.cell? ⟨b, off + k * 4 + 2, none⟩ = some (.int .i64 xs[k].v) ∧ w.cell? ⟨b, off + k * 4 + 3, none⟩ = some (.bool xs[k].g) :=
  ⟨hc k hk 0 (by decide), hc k hk 1 (by decide), hc k hk 2 (by decide), hc k hk 3 (by decide)⟩

set_option maxRecDepth 100000 in
theorem eqES_any (v u : Value) (xs ys : List En) (w : World) (hx : RdE w v xs) (hy : RdE w u ys) :
    Calls Try.prog 42 #[v, u] w fun e w' => e = .returned (.bool (decide (xs = ys))) ∧ Below w.heap.size w w' := by
  obtain ⟨a, cap, rfl, hlx, hzx, hnx, hcx⟩ := hx
  obtain ⟨a', cap', rfl, hly, hzy, hny, hcy⟩ := hy
  by_cases hlen : xs.length = ys.length
  · go_enter Try.func42, Try.ntmps42
    go_wp2
    go_loopw [5] (fun i wr => ∃ k : Nat, k ≤ xs.length ∧ i = .int .i64 k ∧ xs.take k = ys.take k ∧ Below w.heap.size w wr)
      (fun i _ => xs.length - (intOf i).toNat)
    case atStart => exact ⟨0, Nat.zero_le _, rfl, by simp, Below.refl _ _⟩
    case round =>
      obtain ⟨k, hk, rfl, hEq, hBr⟩ := hrel
      by_cases hlt : k < xs.length
      · obtain ⟨b, off, rfl, hb, hcell⟩ := hcx (by omega)
        obtain ⟨b', off', rfl, hb', hcell'⟩ := hcy (by omega)
        obtain ⟨c0, c1, c2, c3⟩ := RdE.at (fun k hk j hj => (hBr.cell (p := ⟨b, _, none⟩) hb).trans (hcell k hk j hj)) k hlt
        have hlt' : k < ys.length := by omega
        obtain ⟨d0, d1, d2, d3⟩ := RdE.at (fun k hk j hj => (hBr.cell (p := ⟨b', _, none⟩) hb').trans (hcell' k hk j hj)) k hlt'
        have hA := hEq
        have HL : Hid (xs.length = ys.length) := hlen
        clear hcell hcell' hcx hcy hEq hlen
        generalize hX : xs[k] = X at *
        generalize hY : ys[k] = Y at *
        have hE := fun W => eqE_any X Y W
        simp only [En.val] at hE
        go_wp2
        go_region_with (go_at_call 68; refine (hE _).mono ?_; rintro e w2 ⟨rfl, hB⟩)
        all_goals
          by_cases hXY : X = Y
          · rw [decide_eq_true hXY]
            go_wp2
            go_roundw
            case rel =>
              refine ⟨k + 1, by omega, by go_num, ?_, hBr.drew.trans (hB.mono hBr.size)⟩
              rw [List.take_succ_eq_append_getElem hlt, List.take_succ_eq_append_getElem hlt', hA, hX, hY, hXY]
            case measure => simp [intOf]; omega
          · rw [decide_eq_false hXY]
            go_wp2
            go_ret
            refine ⟨?_, hBr.drew.trans (hB.mono hBr.size)⟩
            have : xs ≠ ys := fun h => hXY (by subst h; rw [← hX, ← hY])
            simp [this]
      · go_wp2
        go_ret
        refine ⟨?_, hBr⟩
        rw [List.take_of_length_le (by omega), List.take_of_length_le (by omega)] at hEq
        simp [hEq]
  · have hne : ((xs.length : Int) == (ys.length : Int)) = false := by simp; omega
    go_enter Try.func42, Try.ntmps42
    go_wp2
    go_ret
    have : xs ≠ ys := fun h => hlen (by rw [h])
    exact ⟨by simp [this], Below.refl _ _⟩

/-- The marks of n entries. -/
def markE (k0 : Int) (i : Nat) : En := ⟨k0 + 4 * i, k0 + 4 * i + 1, k0 + 4 * i + 2, (k0 + 4 * i + 3) % 3 == 0⟩
def marksE (k0 : Int) (n : Nat) : List En := (List.range n).map (markE k0)
theorem marksE_length (k0 : Int) (n : Nat) : (marksE k0 n).length = n := by simp [marksE]
theorem marksE_get (k0 : Int) (n k : Nat) (h : k < n) : (marksE k0 n)[k]'(by rw [marksE_length]; exact h) = markE k0 k := by simp [marksE]
theorem markE_ok {k0 : Int} {i : Nat} (h0 : 0 ≤ k0) (h1 : k0 + 4 * i + 4 ≤ 4294967296) : shE.ok (markE k0 i) := by
  refine ⟨⟨?_, ?_⟩, ⟨?_, ?_⟩, ⟨?_, ?_⟩⟩ <;> simp only [markE] <;> omega
theorem marksE_set (k0 : Int) (xs : List En) (k : Nat) (h : k < xs.length) : (marksE k0 k ++ xs.drop k).set k (markE k0 k) = marksE k0 (k + 1) ++ xs.drop (k + 1) := by
  have e : xs.drop k = xs[k] :: xs.drop (k + 1) := List.drop_eq_getElem_cons h
  rw [e, List.set_append_right _ _ (by simp [marksE_length]), marksE_length, Nat.sub_self, List.set_cons_zero]
  simp only [marksE, List.range_succ, List.map_append, List.append_assoc, List.map_cons, List.map_nil, List.singleton_append]

theorem OwnE.store4 {T : TypeId} {w : World} {B g n cap : Nat} {xs : List En} (h : OwnE T w B (.slice (some ⟨g, 0, none⟩) n cap) xs) (k : Nat) (hk : k < xs.length) (e : En) (he : shE.ok e) :
    OwnE T ((((w.setCell ⟨g, k * 4, none⟩ (.int .u64 e.h)).setCell ⟨g, k * 4 + 1, none⟩ (.int .i64 e.k)).setCell ⟨g, k * 4 + 2, none⟩ (.int .i64 e.v)).setCell ⟨g, k * 4 + 3, none⟩ (.bool e.g)) B (.slice (some ⟨g, 0, none⟩) n cap) (xs.set k e) := by
  have hx := h.2.2 xs[k] (List.getElem_mem hk)
  have h1 := h.put k hk 0 (by decide) (.int .u64 e.h) ⟨e.h, xs[k].k, xs[k].v, xs[k].g⟩ ⟨he.1, hx.2⟩ rfl
  have h2 := h1.put k (by simpa using hk) 1 (by decide) (.int .i64 e.k) ⟨e.h, e.k, xs[k].v, xs[k].g⟩ ⟨he.1, he.2.1, hx.2.2⟩ (by simp [shE, En.cs])
  have h3 := h2.put k (by simpa using hk) 2 (by decide) (.int .i64 e.v) ⟨e.h, e.k, e.v, xs[k].g⟩ he (by simp [shE, En.cs])
  have h4 := h3.put k (by simpa using hk) 3 (by decide) (.bool e.g) e he (by simp [shE, En.cs])
  simp only [List.set_set, Nat.add_zero] at h4
  exact h4

set_option maxRecDepth 100000 in
theorem markES_any (T : TypeId) (B n cap : Nat) (a : Option Addr) (xs : List En) (k0 : Int) (w : World) (hO : OwnE T w B (.slice a n cap) xs) (h0 : 0 ≤ k0) (h1 : k0 ≤ 33554432) (hT : T = 63) :
    Calls Try.prog 43 #[.slice a n cap, .int .i64 k0] w fun e w' => e = .returned (.int .i64 (k0 + 4 * xs.length)) ∧ OwnE T w' B (.slice a n cap) (marksE k0 xs.length) ∧ w.grownBy w' (Value.slice a n cap).ownBlock := by
  have hlz := hO.2.1
  rcases hO.shape with ⟨hv, rfl⟩ | ⟨g, cap', hv, hBg, hg, hcap⟩
  · simp at hv
    obtain ⟨rfl, rfl, rfl⟩ := hv
    go_enter Try.func43, Try.ntmps43
    go_wp2
    refine wp_loop_rounds 1 ?_
    rw [rounds_succ]
    go_wp2
    go_ret
    exact ⟨by simp, hO, World.grownBy.refl _ _⟩
  · simp at hv
    obtain ⟨rfl, rfl, rfl⟩ := hv
    go_enter Try.func43, Try.ntmps43
    go_wp2
    go_loopw [1, 5] (fun q i wr => ∃ k : Nat, k ≤ xs.length ∧ q = .int .i64 (k0 + 4 * k) ∧ i = .int .i64 k ∧ OwnE T wr B (.slice (some ⟨g, 0, none⟩) xs.length cap) (marksE k0 k ++ xs.drop k) ∧ w.grownBy wr (some g))
      (fun _ i _ => xs.length - (intOf i).toNat)
    case atStart => exact ⟨0, Nat.zero_le _, by simp, rfl, by simpa [marksE] using hO, World.grownBy.refl _ _⟩
    case round =>
      obtain ⟨k, hk, rfl, rfl, hOr, hBr⟩ := hrel
      by_cases hlt : k < xs.length
      · have hll : k < (marksE k0 k ++ xs.drop k).length := by simp [marksE_length]; omega
        generalize hL : marksE k0 k ++ xs.drop k = L at hOr hll
        obtain ⟨c0, c1, c2, c3⟩ := RdE.at (off := 0) (fun k hk j hj => by rw [Nat.zero_add]; exact hOr.cell k hk j hj) k hll
        simp only [Nat.zero_add] at c0 c1 c2 c3
        have f0 := hOr.frozen (k * 4)
        have f1 := hOr.frozen (k * 4 + 1)
        have f2 := hOr.frozen (k * 4 + 2)
        have f3 := hOr.frozen (k * 4 + 3)
        have HL : Hid (marksE k0 k ++ xs.drop k = L) := hL
        clear hL
        go_wp2
        go_roundw
        case rel =>
          refine ⟨k + 1, by omega, by go_num, by go_num, ?_, gb_trans (gb_trans (gb_trans (gb_trans hBr (gb_set _ _ _ _)) (gb_set _ _ _ _)) (gb_set _ _ _ _)) (gb_set _ _ _ _)⟩
          have := hOr.store4 k hll (markE k0 k) (markE_ok h0 (by omega))
          rw [← HL.out, marksE_set k0 xs k hlt] at this
          have e2 : k0 + 4 * (k : Int) + 1 + 1 = k0 + 4 * (k : Int) + 2 := by omega
          have e3 : k0 + 4 * (k : Int) + 2 + 1 = k0 + 4 * (k : Int) + 3 := by omega
          simp only [markE] at this
          simpa only [e2, e3] using this
        case measure => simp [intOf]; omega
      · go_wp2
        go_ret
        have hk' : k = xs.length := by omega
        subst hk'
        exact ⟨rfl, by simpa using hOr, hBr⟩

set_option maxRecDepth 100000 in
theorem heldES_any (v : Value) (xs : List En) (k0 : Int) (n : Nat) (w : World) (hr : RdE w v xs) (h0 : 0 ≤ k0) (h1 : k0 ≤ 33554432) (he : xs = marksE k0 n) :
    Calls Try.prog 44 #[v, .int .i64 k0] w fun e w' => e = .returned (.int .i64 (k0 + 4 * n)) ∧ Below w.heap.size w w' := by
  obtain ⟨a, cap, rfl, hl, hz, hn0, hc⟩ := hr
  have hn : xs.length = n := by rw [he, marksE_length]
  have hg : ∀ k (h : k < xs.length), xs[k] = markE k0 k := fun k h => by subst he; exact marksE_get k0 n k (by simpa [marksE_length] using h)
  rw [hn] at hl ⊢
  clear he
  go_enter Try.func44, Try.ntmps44
  go_wp2
  go_loopw [1, 5] (fun q i wr => ∃ k : Nat, k ≤ n ∧ q = .int .i64 (k0 + 4 * k) ∧ i = .int .i64 k ∧ Below w.heap.size w wr)
    (fun _ i _ => n - (intOf i).toNat)
  case atStart => exact ⟨0, Nat.zero_le _, by simp, rfl, Below.refl _ _⟩
  case round =>
    obtain ⟨k, hk, rfl, rfl, hBr⟩ := hrel
    by_cases hlt : k < n
    · obtain ⟨b, off, rfl, hb, hcell⟩ := hc (by omega)
      obtain ⟨c0, c1, c2, c3⟩ := RdE.at (fun k hk j hj => (hBr.cell (p := ⟨b, _, none⟩) hb).trans (hcell k hk j hj)) k (by omega)
      rw [hg k (by omega)] at c0 c1 c2 c3
      simp only [markE] at c0 c1 c2 c3
      have e2 : k0 + 4 * (k : Int) + 1 + 1 = k0 + 4 * (k : Int) + 2 := by omega
      have e3 : k0 + 4 * (k : Int) + 2 + 1 = k0 + 4 * (k : Int) + 3 := by omega
      clear hg hcell hc
      go_wp2
      go_roundw
      case rel => exact ⟨k + 1, by omega, by go_num, by go_num, hBr⟩
      case measure => simp [intOf]; omega
    · go_wp2
      go_ret
      have hk' : k = n := by omega
      subst hk'
      exact ⟨rfl, hBr⟩
end Go.Proofs.Ytnpjlmnhailipaa
