import Derived.Test.YtlnekedehalbdaaPsE
namespace Go.Proofs.Ytlnekedehalbdaa
open Go.RowKit
set_option linter.unusedVariables false
set_option linter.unusedSimpArgs false

theorem Try.info4 : (Try.prog.info? 4).map (fun i => (i.zero, i.size, i.bytes)) = some (some (.bool false), 1, 1) := by kernel_rfl
set_option maxRecDepth 100000 in
theorem eqB_any (v u : Value) (xs : List Bool) (w : World) (hx : RdG shB w v xs) (hy : RdG shB w u xs) :
    Calls Try.prog 16 #[v, u] w fun e w' => e = .returned (.bool true) ∧ Below w.heap.size w w' := by
  obtain ⟨a, cap, rfl, hlx, hzx, hnx, hcx⟩ := hx
  obtain ⟨a', cap', rfl, hly, hzy, hny, hcy⟩ := hy
  go_enter Try.func16, Try.ntmps16
  go_wp2
  go_loopw [5] (fun i wr => ∃ k : Nat, k ≤ xs.length ∧ i = .int .i64 k ∧ Below w.heap.size w wr) (fun i _ => xs.length - (intOf i).toNat)
  case atStart => exact ⟨0, Nat.zero_le _, rfl, Below.refl _ _⟩
  case round =>
    obtain ⟨k, hk, rfl, hB⟩ := hrel
    by_cases hlt : k < xs.length
    · have hlti : (k : Int) < (xs.length : Int) := by omega
      obtain ⟨b, off, rfl, hb, hcell⟩ := hcx (by omega)
      obtain ⟨b', off', rfl, hb', hcell'⟩ := hcy (by omega)
      have d0 := (hB.cell (p := ⟨b, off + k * shB.n + 0, none⟩) hb).trans (hcell k hlt 0 (by decide))
      have d1 := (hB.cell (p := ⟨b', off' + k * shB.n + 0, none⟩) hb').trans (hcell' k hlt 0 (by decide))
      simp only [show shB.n = 1 from rfl, Nat.mul_one, Nat.add_zero, shB, List.getElem?_cons_zero] at d0 d1
      generalize xs[k] = X at *
      clear hcell hcell' hcx hcy
      have hXX : (X == X) = true := by simp
      go_wp2_with fail
      go_region_held3 (fun W => W.cell? ⟨b, off + k, none⟩ = some (.bool X) ∧ W.cell? ⟨b', off' + k, none⟩ = some (.bool X)) (go_keep) (fail)
      all_goals
        go_wp2
        go_roundw
        case rel => exact ⟨k + 1, by omega, by go_num, hB.drew⟩
        case measure => simp [intOf]; omega
    · obtain rfl : k = xs.length := by omega
      go_wp2
      go_ret
      exact ⟨rfl, hB⟩

def bmk (k : Int) : Bool := k % 3 == 0
def bmarks (k0 : Int) (n : Nat) : List Bool := (List.range n).map fun (i : Nat) => bmk (k0 + (i : Int))
theorem bmarks_len (k0 : Int) (n : Nat) : (bmarks k0 n).length = n := by simp [bmarks]
theorem bmarks_set (k0 : Int) (zs : List Bool) (k : Nat) (h : k < zs.length) : (bmarks k0 k ++ zs.drop k).set k (bmk (k0 + k)) = bmarks k0 (k + 1) ++ zs.drop (k + 1) := by
  have e : zs.drop k = zs[k] :: zs.drop (k + 1) := List.drop_eq_getElem_cons h
  rw [e, List.set_append_right _ _ (by simp [bmarks_len]), bmarks_len, Nat.sub_self, List.set_cons_zero]
  simp only [bmarks, List.range_succ, List.map_append, List.append_assoc, List.map_cons, List.map_nil, List.singleton_append]

set_option maxRecDepth 100000 in
theorem markB_any (B n cap : Nat) (a : Option Addr) (zs : List Bool) (k0 : Int) (w : World) (hO : OwnG shB 4 w B (.slice a n cap) zs) (h0 : 0 ≤ k0) (h1 : k0 ≤ 33554432) :
    Calls Try.prog 17 #[.slice a n cap, .int .i64 k0] w fun e w' => e = .returned (.int .i64 (k0 + zs.length)) ∧ OwnG shB 4 w' B (.slice a n cap) (bmarks k0 zs.length) ∧ w.grownBy w' (Value.slice a n cap).ownBlock := by
  have hlz := hO.2.1
  rcases hO.shape with ⟨hv, rfl⟩ | ⟨g, cap', hv, hBg, hg, hcap⟩
  · simp at hv
    obtain ⟨rfl, rfl, rfl⟩ := hv
    go_enter Try.func17, Try.ntmps17
    go_wp2
    refine wp_loop_rounds 1 ?_
    rw [rounds_succ]
    go_wp2
    go_ret
    exact ⟨by simp, by simpa [bmarks] using hO, World.grownBy.refl _ _⟩
  · simp at hv
    obtain ⟨rfl, rfl, rfl⟩ := hv
    go_enter Try.func17, Try.ntmps17
    go_wp2
    go_loopw [1, 5] (fun q i wr => ∃ k : Nat, k ≤ zs.length ∧ q = .int .i64 (k0 + k) ∧ i = .int .i64 k ∧ OwnG shB 4 wr B (.slice (some ⟨g, 0, none⟩) zs.length cap) (bmarks k0 k ++ zs.drop k) ∧ w.grownBy wr (some g))
      (fun _ i _ => zs.length - (intOf i).toNat)
    case atStart => exact ⟨0, Nat.zero_le _, by simp, rfl, by simpa [bmarks] using hO, World.grownBy.refl _ _⟩
    case round =>
      obtain ⟨k, hk, rfl, rfl, hOr, hBr⟩ := hrel
      by_cases hlt : k < zs.length
      · have hml : (bmarks k0 k ++ zs.drop k).length = zs.length := by simp [bmarks_len]; omega
        have hlti : (k : Int) < (zs.length : Int) := by omega
        have hcc := hOr.cell k (by omega) 0 (by decide)
        simp only [show shB.n = 1 from rfl, Nat.mul_one, Nat.add_zero, shB, List.getElem?_cons_zero] at hcc
        have hfz := hOr.frozen k
        have HS : Hid _ := bmarks_set k0 zs k hlt
        have hput := hOr.put k (by omega) 0 (by decide) (.bool (bmk (k0 + k))) (bmk (k0 + k)) trivial (by simp [shB])
        simp only [show shB.n = 1 from rfl, Nat.mul_one, Nat.add_zero] at hput
        rw [HS.out] at hput
        have htm : ((k0 + (k : Int)) % 3 == 0) = bmk (k0 + k) := rfl
        have htm2 : IntKind.i64.wrap (Int.tmod (k0 + k) 3) = Int.tmod (k0 + k) 3 := by
          rw [IntKind.wrap_i64]
          have := Int.tmod_lt_of_pos (k0 + (k : Int)) (show (0 : Int) < 3 by omega)
          have := Int.tmod_nonneg 3 (show (0 : Int) ≤ k0 + (k : Int) by omega)
          omega
        generalize hbk : bmk (k0 + k) = bk at htm hput
        generalize (bmarks k0 k ++ zs.drop k)[k] = old at *
        clear hbk HS
        go_wp2
        go_roundw
        case rel => exact ⟨k + 1, by omega, by go_num, by go_num, by first | exact hput | (rw [htm]; exact hput), gb_trans hBr (gb_set _ _ _ _)⟩
        case measure => simp [intOf]; omega
      · go_wp2
        go_ret
        have hk' : k = zs.length := by omega
        subst hk'
        exact ⟨rfl, by simpa using hOr, hBr⟩


theorem set_take_b (xs : List Bool) (k : Nat) (hk : k < xs.length) : (xs.take k ++ List.replicate (xs.length - k) false).set k xs[k] = xs.take (k + 1) ++ List.replicate (xs.length - (k + 1)) false := by
  rw [List.set_append_right _ _ (by simp; omega), List.take_succ_eq_append_getElem hk]
  have e : k - (xs.take k).length = 0 := by simp; omega
  rw [e, show xs.length - k = (xs.length - (k + 1)) + 1 by omega, List.replicate_succ, List.set_cons_zero, List.append_assoc]; rfl
theorem flat_b (xs : List Bool) : xs.flatMap shB.cs = xs.map Value.bool := by
  induction xs with
  | nil => rfl
  | cons x r ih => simp only [List.flatMap_cons, List.map_cons, ih]; rfl
set_option maxRecDepth 100000 in
set_option maxHeartbeats 1000000 in
theorem toB_any (v : Value) (xs : List Bool) (w : World) (hr : RdG shB w v xs) :
    Calls Try.prog 13 #[v] w fun e w' => ∃ a c, e = .returned (.slice a xs.length c) ∧ OwnG shB 4 w' w.heap.size (.slice a xs.length c) xs ∧ Below w.heap.size w w' := by
  obtain ⟨a, cap, rfl, hl, hz, hn0, hc⟩ := hr
  obtain ⟨i0, hi, hz0, hz1, hz2⟩ := info_parts Try.info4
  go_enter Try.func13, Try.ntmps13
  go_wp2_with (at_make; refine wpList_make_full _ rfl _ _ 29 rfl w.heap.size 4 i0 (.bool false) 1 Try.underlying29 hi hz0 hz1 .i64 .i64 _ _ xs.length rfl rfl rfl rfl (by rw [hz2]; omega) (by unfold maxLen; omega) (Nat.le_refl _) ?_; intro w1 hown hgrow)
  have hO : OwnG shB 4 w1 w.heap.size (.slice (some ⟨w.heap.size, 0, none⟩) xs.length xs.length) (List.replicate xs.length false) := by
    refine ⟨?_, by simpa using hl, fun _ _ => trivial⟩
    have e : (madeCells (Value.cells (.bool false)) (xs.length * 1)).toList = (List.replicate xs.length false).flatMap shB.cs := by
      have : Value.cells (.bool false) = #[.bool false] := rfl
      rw [this, toList_madeCells_one, flat_b]; simp
    rw [e] at hown
    show w1.ownsRow w.heap.size 4 1 _ (List.replicate xs.length false).length _
    rw [List.length_replicate]
    exact hown
  have hB : Below w.heap.size w w1 := (Below.refl _ _).grown hgrow (Nat.le_refl _) (by intro k h; cases h)
  clear hown hgrow
  go_loopw [4] (fun i wr => ∃ k : Nat, k ≤ xs.length ∧ i = .int .i64 k ∧ OwnG shB 4 wr w.heap.size (.slice (some ⟨w.heap.size, 0, none⟩) xs.length xs.length) (xs.take k ++ List.replicate (xs.length - k) false) ∧ Below w.heap.size w wr)
    (fun i _ => xs.length - (intOf i).toNat)
  case atStart => exact ⟨0, Nat.zero_le _, rfl, by simpa using hO, hB⟩
  case round =>
    obtain ⟨k, hk, rfl, hOr, hBr⟩ := hrel
    clear hO hB
    by_cases hlt : k < xs.length
    · obtain ⟨b, off, rfl, hb, hcell⟩ := hc (by omega)
      have d0 := (hBr.cell (p := ⟨b, off + k * shB.n + 0, none⟩) hb).trans (hcell k hlt 0 (by decide))
      simp only [show shB.n = 1 from rfl, Nat.mul_one, Nat.add_zero, shB, List.getElem?_cons_zero] at d0
      have hml : (xs.take k ++ List.replicate (xs.length - k) false).length = xs.length := by simp; omega
      have hcc := hOr.cell k (by omega) 0 (by decide)
      simp only [show shB.n = 1 from rfl, Nat.mul_one, Nat.add_zero, shB, List.getElem?_cons_zero] at hcc
      have hfz := hOr.frozen k
      have hput := hOr.put k (by omega) 0 (by decide) (.bool xs[k]) xs[k] trivial (by simp [shB])
      simp only [show shB.n = 1 from rfl, Nat.mul_one, Nat.add_zero] at hput
      rw [set_take_b xs k hlt] at hput
      generalize (xs.take k ++ List.replicate (xs.length - k) false)[k] = old at *
      generalize xs[k] = X at *
      clear hcell hc hml
      go_wp2
      go_roundw
      case rel => exact ⟨k + 1, by omega, by go_num, hput, hBr.setCell (Nat.le_refl _) _⟩
      case measure => simp [intOf]; omega
    · go_wp2
      go_ret
      have hk' : k = xs.length := by omega
      subst hk'
      exact ⟨_, _, rfl, by simpa using hOr, hBr⟩

theorem RdQ.at {w : World} {b off : Nat} {xs : List (Int × Int)} (hc : ∀ k (hk : k < xs.length) j, j < shQ.n → w.cell? ⟨b, off + k * shQ.n + j, none⟩ = (shQ.cs xs[k])[j]?) (k : Nat) (hk : k < xs.length) :
    w.cell? ⟨b, off + k * 2, none⟩ = some (.int .i64 xs[k].1) ∧ w.cell? ⟨b, off + k * 2 + 1, none⟩ = some (.int .i64 xs[k].2) :=
  ⟨hc k hk 0 (by decide), hc k hk 1 (by decide)⟩
theorem OwnQ.store2 {w : World} {B g n cap : Nat} {xs : List (Int × Int)} (h : OwnG shQ 43 w B (.slice (some ⟨g, 0, none⟩) n cap) xs) (k : Nat) (hk : k < xs.length) (e : Int × Int) (he : shQ.ok e) :
    OwnG shQ 43 ((w.setCell ⟨g, k * 2, none⟩ (.int .i64 e.1)).setCell ⟨g, k * 2 + 1, none⟩ (.int .i64 e.2)) B (.slice (some ⟨g, 0, none⟩) n cap) (xs.set k e) := by
  have hx := h.2.2 xs[k] (List.getElem_mem hk)
  have h1 := h.put k hk 0 (by decide) (.int .i64 e.1) ⟨e.1, xs[k].2⟩ ⟨he.1, hx.2⟩ rfl
  have h2 := h1.put k (by simpa using hk) 1 (by decide) (.int .i64 e.2) e he (by simp [shQ])
  simp only [List.set_set, Nat.add_zero] at h2
  exact h2
set_option maxRecDepth 100000 in
theorem eqQ_any (x : Int × Int) (w : World) : Calls Try.prog 28 #[.agg #[.int .i64 x.1, .int .i64 x.2], .agg #[.int .i64 x.1, .int .i64 x.2]] w fun e w' => e = .returned (.bool true) ∧ Below w.heap.size w w' := by
  obtain ⟨c, h⟩ := x
  have bW : Below w.heap.size w ((w.alloc (Obj.cells #[.int .i64 c, .int .i64 h] 43)).alloc (Obj.cells #[.int .i64 c, .int .i64 h] 43)) := ((Below.refl _ w).alloc (Nat.le_refl _) _).alloc (by simp) _
  simp only
  go_enter Try.func28, Try.ntmps28
  go_wp2
  go_ret; exact ⟨by simp, bW⟩
set_option maxRecDepth 100000 in
theorem eqQS_any (v u : Value) (xs : List (Int × Int)) (w : World) (hx : RdG shQ w v xs) (hy : RdG shQ w u xs) :
    Calls Try.prog 15 #[v, u] w fun e w' => e = .returned (.bool true) ∧ Below w.heap.size w w' := by
  obtain ⟨a, cap, rfl, hlx, hzx, hnx, hcx⟩ := hx
  obtain ⟨a', cap', rfl, hly, hzy, hny, hcy⟩ := hy
  go_enter Try.func15, Try.ntmps15
  go_wp2
  go_loopw [5] (fun i wr => ∃ k : Nat, k ≤ xs.length ∧ i = .int .i64 k ∧ Below w.heap.size w wr)
    (fun i _ => xs.length - (intOf i).toNat)
  case atStart => exact ⟨0, Nat.zero_le _, rfl, Below.refl _ _⟩
  case round =>
    obtain ⟨k, hk, rfl, hBr⟩ := hrel
    by_cases hlt : k < xs.length
    · obtain ⟨b, off, rfl, hb, hcell⟩ := hcx (by omega)
      obtain ⟨b', off', rfl, hb', hcell'⟩ := hcy (by omega)
      obtain ⟨c0, c1⟩ := RdQ.at (fun k hk j hj => (hBr.cell (p := ⟨b, _, none⟩) hb).trans (hcell k hk j hj)) k hlt
      obtain ⟨d0, d1⟩ := RdQ.at (fun k hk j hj => (hBr.cell (p := ⟨b', _, none⟩) hb').trans (hcell' k hk j hj)) k hlt
      clear hcell hcell' hcx hcy
      have hlti : (k : Int) < (xs.length : Int) := by omega
      generalize xs[k] = X at *
      have hE := fun W => eqQ_any X W
      go_wp2
      go_region_with (go_at_call 28; refine (hE _).mono ?_; rintro e w2 ⟨rfl, hB⟩)
      all_goals
        go_wp2
        go_roundw
        case rel => exact ⟨k + 1, by omega, by go_num, hBr.drew.trans (hB.mono hBr.size)⟩
        case measure => simp [intOf]; omega
    · obtain rfl : k = xs.length := by omega
      go_wp2
      go_ret
      exact ⟨rfl, hBr⟩

def markQ (k0 : Int) (i : Nat) : Int × Int := (k0 + 2 * i, k0 + 2 * i + 1)
def marksQ (k0 : Int) (n : Nat) : List (Int × Int) := (List.range n).map (markQ k0)
theorem marksQ_length (k0 : Int) (n : Nat) : (marksQ k0 n).length = n := by simp [marksQ]
theorem markQ_ok {k0 : Int} {i : Nat} (h0 : 0 ≤ k0) (h1 : k0 + 2 * i + 2 ≤ 4294967296) : shQ.ok (markQ k0 i) := by
  refine ⟨⟨?_, ?_⟩, ⟨?_, ?_⟩⟩ <;> simp only [markQ] <;> omega
theorem marksQ_set (k0 : Int) (xs : List (Int × Int)) (k : Nat) (h : k < xs.length) : (marksQ k0 k ++ xs.drop k).set k (markQ k0 k) = marksQ k0 (k + 1) ++ xs.drop (k + 1) := by
  have e : xs.drop k = xs[k] :: xs.drop (k + 1) := List.drop_eq_getElem_cons h
  rw [e, List.set_append_right _ _ (by simp [marksQ_length]), marksQ_length, Nat.sub_self, List.set_cons_zero]
  simp only [marksQ, List.range_succ, List.map_append, List.append_assoc, List.map_cons, List.map_nil, List.singleton_append]

set_option maxRecDepth 100000 in
theorem markQS_any (B n cap : Nat) (a : Option Addr) (xs : List (Int × Int)) (k0 : Int) (w : World) (hO : OwnG shQ 43 w B (.slice a n cap) xs) (h0 : 0 ≤ k0) (h1 : k0 ≤ 33554432) :
    Calls Try.prog 18 #[.slice a n cap, .int .i64 k0] w fun e w' => e = .returned (.int .i64 (k0 + 2 * xs.length)) ∧ OwnG shQ 43 w' B (.slice a n cap) (marksQ k0 xs.length) ∧ w.grownBy w' (Value.slice a n cap).ownBlock := by
  have hlz := hO.2.1
  rcases hO.shape with ⟨hv, rfl⟩ | ⟨g, cap', hv, hBg, hg, hcap⟩
  · simp at hv
    obtain ⟨rfl, rfl, rfl⟩ := hv
    go_enter Try.func18, Try.ntmps18
    go_wp2
    refine wp_loop_rounds 1 ?_
    rw [rounds_succ]
    go_wp2
    go_ret
    exact ⟨by simp, hO, World.grownBy.refl _ _⟩
  · simp at hv
    obtain ⟨rfl, rfl, rfl⟩ := hv
    go_enter Try.func18, Try.ntmps18
    go_wp2
    go_loopw [1, 5] (fun q i wr => ∃ k : Nat, k ≤ xs.length ∧ q = .int .i64 (k0 + 2 * k) ∧ i = .int .i64 k ∧ OwnG shQ 43 wr B (.slice (some ⟨g, 0, none⟩) xs.length cap) (marksQ k0 k ++ xs.drop k) ∧ w.grownBy wr (some g))
      (fun _ i _ => xs.length - (intOf i).toNat)
    case atStart => exact ⟨0, Nat.zero_le _, by simp, rfl, by simpa [marksQ] using hO, World.grownBy.refl _ _⟩
    case round =>
      obtain ⟨k, hk, rfl, rfl, hOr, hBr⟩ := hrel
      by_cases hlt : k < xs.length
      · have hll : k < (marksQ k0 k ++ xs.drop k).length := by simp [marksQ_length]; omega
        generalize hL : marksQ k0 k ++ xs.drop k = L at hOr hll
        obtain ⟨c0, c1⟩ := RdQ.at (off := 0) (fun k hk j hj => by rw [Nat.zero_add]; exact hOr.cell k hk j hj) k hll
        simp only [Nat.zero_add] at c0 c1
        have f0 := hOr.frozen (k * 2)
        have f1 := hOr.frozen (k * 2 + 1)
        have HL : Hid (marksQ k0 k ++ xs.drop k = L) := hL
        clear hL
        go_wp2
        go_roundw
        case rel =>
          refine ⟨k + 1, by omega, by go_num, by go_num, ?_, gb_trans (gb_trans hBr (gb_set _ _ _ _)) (gb_set _ _ _ _)⟩
          have := OwnQ.store2 hOr k hll (markQ k0 k) (markQ_ok h0 (by omega))
          rw [← HL.out, marksQ_set k0 xs k hlt] at this
          simpa only [markQ] using this
        case measure => simp [intOf]; omega
      · go_wp2
        go_ret
        have hk' : k = xs.length := by omega
        subst hk'
        exact ⟨rfl, by simpa using hOr, hBr⟩
set_option maxRecDepth 100000 in
theorem heldQ_any (v : Value) (k0 : Int) (n : Nat) (w : World) (hr : RdG shQ w v (marksQ k0 n)) (h0 : 0 ≤ k0) (h1 : k0 ≤ 33554432) :
    Calls Try.prog 19 #[v, .int .i64 k0] w fun e w' => e = .returned (.int .i64 (k0 + 2 * n)) ∧ Below w.heap.size w w' := by
  obtain ⟨a, cap, rfl, hl, hz, hn0, hc⟩ := hr
  rw [marksQ_length] at hl hn0 ⊢
  have hc' : 0 < n → ∃ b off, a = some ⟨b, off, none⟩ ∧ b < w.heap.size ∧ ∀ k, k < n → w.cell? ⟨b, off + k * 2, none⟩ = some (.int .i64 (k0 + 2 * k)) ∧ w.cell? ⟨b, off + k * 2 + 1, none⟩ = some (.int .i64 (k0 + 2 * k + 1)) := fun h => by
    obtain ⟨b, off, e, hb, hcell⟩ := hc (by rw [marksQ_length]; exact h)
    refine ⟨b, off, e, hb, fun k hk => ?_⟩
    have := RdQ.at hcell k (by rw [marksQ_length]; exact hk)
    simpa [marksQ, markQ] using this
  clear hc hz
  go_enter Try.func19, Try.ntmps19
  go_wp2
  go_loopw [1, 5] (fun q i wr => ∃ k : Nat, k ≤ n ∧ q = .int .i64 (k0 + 2 * k) ∧ i = .int .i64 k ∧ Below w.heap.size w wr)
    (fun _ i _ => n - (intOf i).toNat)
  case atStart => exact ⟨0, Nat.zero_le _, by simp, rfl, Below.refl _ _⟩
  case round =>
    obtain ⟨k, hk, rfl, rfl, hBr⟩ := hrel
    by_cases hlt : k < n
    · have hlti : (k : Int) < (n : Int) := by omega
      obtain ⟨b, off, rfl, hb, hcell⟩ := hc' (by omega)
      have d0 := (hBr.cell (p := ⟨b, off + k * 2, none⟩) hb).trans (hcell k hlt).1
      have d1 := (hBr.cell (p := ⟨b, off + k * 2 + 1, none⟩) hb).trans (hcell k hlt).2
      clear hcell hc'
      go_wp2
      go_roundw
      case rel => exact ⟨k + 1, by omega, by go_num, by go_num, by first | exact hBr | exact hBr.drew | exact hBr.drew.drew⟩
      case measure => simp [intOf]; omega
    · go_wp2
      go_ret
      have hk' : k = n := by omega
      subst hk'
      exact ⟨rfl, hBr⟩
end Go.Proofs.Ytlnekedehalbdaa
