import Derived.Test.YtjnalkeopehlbaaGrO
namespace Go.Proofs.Ytjnalkeopehlbaa
open Go.RowKit Go.Maps
set_option linter.unusedVariables false
set_option linter.unusedSimpArgs false

theorem below_setGe {B g : Nat} {w w1 : World} (h : Below B w w1) (hB : B ≤ w1.heap.size) (hg : B ≤ g) {o : Nat} (u : Value) : Below B w (w1.setCell ⟨g, o, none⟩ u) := h.setCell hg u
structure Ge where
  kd : Int
  th : Int
  deriving DecidableEq
def Ge.ok (e : Ge) : Prop := (-9223372036854775808 ≤ e.kd ∧ e.kd < 9223372036854775808) ∧ (-9223372036854775808 ≤ e.th ∧ e.th < 9223372036854775808)
def Ge.cs (e : Ge) : List Value := [.int .i64 e.kd, .int .i64 e.th]
def Ge.val (e : Ge) : Value := .agg #[.int .i64 e.kd, .int .i64 e.th]
def shGe : Sh Ge := ⟨2, by decide, Ge.cs, Ge.ok, fun _ => rfl, fun a u hu => by simp [Ge.cs] at hu; rcases hu with rfl | rfl <;> rfl⟩
abbrev RdGe := RdG shGe
abbrev OwnGe (T : TypeId) := OwnG shGe T
theorem Try.info49 : (Try.prog.info? 49).map (fun i => (i.zero, i.size, i.bytes)) = some (some (.agg #[.int .i64 0, .int .i64 0]), 2, 16) := by kernel_rfl
theorem RdGe.at {w : World} {b off : Nat} {xs : List Ge} (hc : ∀ k (hk : k < xs.length) j, j < shGe.n → w.cell? ⟨b, off + k * shGe.n + j, none⟩ = (shGe.cs xs[k])[j]?) (k : Nat) (hk : k < xs.length) :
    w.cell? ⟨b, off + k * 2, none⟩ = some (.int .i64 xs[k].kd) ∧ w.cell? ⟨b, off + k * 2 + 1, none⟩ = some (.int .i64 xs[k].th) :=
  ⟨hc k hk 0 (by decide), hc k hk 1 (by decide)⟩
theorem OwnGe.stores {T : TypeId} {w : World} {B g n cap : Nat} {xs : List Ge} (h : OwnGe T w B (.slice (some ⟨g, 0, none⟩) n cap) xs) (k : Nat) (hk : k < xs.length) (e : Ge) (he : shGe.ok e) :
    OwnGe T ((w.setCell ⟨g, k * 2, none⟩ (.int .i64 e.kd)).setCell ⟨g, k * 2 + 1, none⟩ (.int .i64 e.th)) B (.slice (some ⟨g, 0, none⟩) n cap) (xs.set k e) := by
  have hx := h.2.2 xs[k] (List.getElem_mem hk)
  have h1 := h.put k hk 0 (by decide) (.int .i64 e.kd) ⟨e.kd, xs[k].th⟩ ⟨he.1, hx.2⟩ rfl
  have h2 := h1.put k (by simpa using hk) 1 (by decide) (.int .i64 e.th) e he (by simp [shGe, Ge.cs])
  simp only [List.set_set, Nat.add_zero] at h2
  exact h2

set_option maxRecDepth 100000 in
theorem eqGe_any (x y : Ge) (w : World) : Calls Try.prog 35 #[x.val, y.val] w fun e w' => e = .returned (.bool (decide (x = y))) ∧ Below w.heap.size w w' := by
  obtain ⟨kd, th⟩ := x
  obtain ⟨kd', th'⟩ := y
  have bW : Below w.heap.size w ((w.alloc (Obj.cells #[.int .i64 kd, .int .i64 th] 49)).alloc (Obj.cells #[.int .i64 kd', .int .i64 th'] 49)) := ((Below.refl _ w).alloc (Nat.le_refl _) _).alloc (by simp) _
  simp only [Ge.val, Ge.mk.injEq]
  by_cases e0 : kd = kd'
  · by_cases e1 : th = th'
    · subst e0 e1
      go_enter Try.func35, Try.ntmps35
      go_wp2
      go_ret; exact ⟨by simp, bW⟩
    · subst e0
      go_enter Try.func35, Try.ntmps35
      go_wp2
      go_ret; exact ⟨by simp [e1], bW⟩
  · go_enter Try.func35, Try.ntmps35
    go_wp2
    go_ret; exact ⟨by simp [e0], bW⟩

set_option maxRecDepth 100000 in
theorem eqGeS_any (v u : Value) (xs ys : List Ge) (w : World) (hx : RdGe w v xs) (hy : RdGe w u ys) :
    Calls Try.prog 19 #[v, u] w fun e w' => e = .returned (.bool (decide (xs = ys))) ∧ Below w.heap.size w w' := by
  obtain ⟨a, cap, rfl, hlx, hzx, hnx, hcx⟩ := hx
  obtain ⟨a', cap', rfl, hly, hzy, hny, hcy⟩ := hy
  by_cases hlen : xs.length = ys.length
  · go_enter Try.func19, Try.ntmps19
    go_wp2
    go_loopw [5] (fun i wr => ∃ k : Nat, k ≤ xs.length ∧ i = .int .i64 k ∧ xs.take k = ys.take k ∧ Below w.heap.size w wr)
      (fun i _ => xs.length - (intOf i).toNat)
    case atStart => exact ⟨0, Nat.zero_le _, rfl, by simp, Below.refl _ _⟩
    case round =>
      obtain ⟨k, hk, rfl, hEq, hBr⟩ := hrel
      by_cases hlt : k < xs.length
      · obtain ⟨b, off, rfl, hb, hcell⟩ := hcx (by omega)
        obtain ⟨b', off', rfl, hb', hcell'⟩ := hcy (by omega)
        obtain ⟨c0, c1⟩ := RdGe.at (fun k hk j hj => (hBr.cell (p := ⟨b, _, none⟩) hb).trans (hcell k hk j hj)) k hlt
        have hlt' : k < ys.length := by omega
        obtain ⟨d0, d1⟩ := RdGe.at (fun k hk j hj => (hBr.cell (p := ⟨b', _, none⟩) hb').trans (hcell' k hk j hj)) k hlt'
        have hA := hEq
        have HL : Hid (xs.length = ys.length) := hlen
        clear hcell hcell' hcx hcy hEq hlen
        generalize hX : xs[k] = X at *
        generalize hY : ys[k] = Y at *
        have hE := fun W => eqGe_any X Y W
        simp only [Ge.val] at hE
        go_wp2
        go_region_with (go_at_call 35; refine (hE _).mono ?_; rintro e w2 ⟨rfl, hB⟩)
        all_goals
          by_cases hXY : X = Y
          · rw [decide_eq_true hXY]
            go_wp2
            go_roundw
            case rel =>
              refine ⟨k + 1, by omega, by go_num, ?_, hBr.drew.trans (hB.mono hBr.size)⟩
              rw [List.take_succ_eq_append_getElem hlt, List.take_succ_eq_append_getElem hlt', hA, hX, hY, hXY]
            case measure => simp [intOf]; omega
          · rw [decide_eq_false hXY]
            go_wp2
            go_ret
            refine ⟨?_, hBr.drew.trans (hB.mono hBr.size)⟩
            have : xs ≠ ys := fun h => hXY (by subst h; rw [← hX, ← hY])
            simp [this]
      · go_wp2
        go_ret
        refine ⟨?_, hBr⟩
        rw [List.take_of_length_le (by omega), List.take_of_length_le (by omega)] at hEq
        simp [hEq]
  · have hne : ((xs.length : Int) == (ys.length : Int)) = false := by simp; omega
    go_enter Try.func19, Try.ntmps19
    go_wp2
    go_ret
    have : xs ≠ ys := fun h => hlen (by rw [h])
    exact ⟨by simp [this], Below.refl _ _⟩

def mkGe (k0 : Int) (i : Nat) : Ge := ⟨k0 + 2 * i, k0 + 2 * i + 1⟩
def mksGe (k0 : Int) (n : Nat) : List Ge := (List.range n).map (mkGe k0)
theorem mksGe_length (k0 : Int) (n : Nat) : (mksGe k0 n).length = n := by simp [mksGe]
theorem mkGe_ok {k0 : Int} {i : Nat} (h0 : 0 ≤ k0) (h1 : k0 + 2 * i + 2 ≤ 4294967296) : shGe.ok (mkGe k0 i) := by
  refine ⟨⟨?_, ?_⟩, ⟨?_, ?_⟩⟩ <;> simp only [mkGe] <;> omega
theorem mksGe_set (k0 : Int) (xs : List Ge) (k : Nat) (h : k < xs.length) : (mksGe k0 k ++ xs.drop k).set k (mkGe k0 k) = mksGe k0 (k + 1) ++ xs.drop (k + 1) := by
  have e : xs.drop k = xs[k] :: xs.drop (k + 1) := List.drop_eq_getElem_cons h
  rw [e, List.set_append_right _ _ (by simp [mksGe_length]), mksGe_length, Nat.sub_self, List.set_cons_zero]
  simp only [mksGe, List.range_succ, List.map_append, List.append_assoc, List.map_cons, List.map_nil, List.singleton_append]

set_option maxRecDepth 100000 in
theorem markGeS_any (T : TypeId) (B n cap : Nat) (a : Option Addr) (xs : List Ge) (k0 : Int) (w : World) (hO : OwnGe T w B (.slice a n cap) xs) (h0 : 0 ≤ k0) (h1 : k0 ≤ 33554432) (hT : T = 49) :
    Calls Try.prog 20 #[.slice a n cap, .int .i64 k0] w fun e w' => e = .returned (.int .i64 (k0 + 2 * xs.length)) ∧ OwnGe T w' B (.slice a n cap) (mksGe k0 xs.length) ∧ w.grownBy w' (Value.slice a n cap).ownBlock := by
  have hlz := hO.2.1
  rcases hO.shape with ⟨hv, rfl⟩ | ⟨g, cap', hv, hBg, hg, hcap⟩
  · simp at hv
    obtain ⟨rfl, rfl, rfl⟩ := hv
    go_enter Try.func20, Try.ntmps20
    go_wp2
    refine wp_loop_rounds 1 ?_
    rw [rounds_succ]
    go_wp2
    go_ret
    exact ⟨by simp, hO, World.grownBy.refl _ _⟩
  · simp at hv
    obtain ⟨rfl, rfl, rfl⟩ := hv
    go_enter Try.func20, Try.ntmps20
    go_wp2
    go_loopw [1, 5] (fun q i wr => ∃ k : Nat, k ≤ xs.length ∧ q = .int .i64 (k0 + 2 * k) ∧ i = .int .i64 k ∧ OwnGe T wr B (.slice (some ⟨g, 0, none⟩) xs.length cap) (mksGe k0 k ++ xs.drop k) ∧ w.grownBy wr (some g))
      (fun _ i _ => xs.length - (intOf i).toNat)
    case atStart => exact ⟨0, Nat.zero_le _, by simp, rfl, by simpa [mksGe] using hO, World.grownBy.refl _ _⟩
    case round =>
      obtain ⟨k, hk, rfl, rfl, hOr, hBr⟩ := hrel
      by_cases hlt : k < xs.length
      · have hll : k < (mksGe k0 k ++ xs.drop k).length := by simp [mksGe_length]; omega
        generalize hL : mksGe k0 k ++ xs.drop k = L at hOr hll
        obtain ⟨c0, c1⟩ := RdGe.at (off := 0) (fun k hk j hj => by rw [Nat.zero_add]; exact hOr.cell k hk j hj) k hll
        simp only [Nat.zero_add] at c0 c1
        have f0 := hOr.frozen (k * 2)
        have f1 := hOr.frozen (k * 2 + 1)
        have HL : Hid (mksGe k0 k ++ xs.drop k = L) := hL
        clear hL
        go_wp2
        go_roundw
        case rel =>
          refine ⟨k + 1, by omega, by go_num, by go_num, ?_, gb_trans (gb_trans hBr (gb_set _ _ _ _)) (gb_set _ _ _ _)⟩
          have := OwnGe.stores hOr k hll (mkGe k0 k) (mkGe_ok h0 (by omega))
          rw [← HL.out, mksGe_set k0 xs k hlt] at this
          simp only [mkGe] at this
          exact this
        case measure => simp [intOf]; omega
      · go_wp2
        go_ret
        have hk' : k = xs.length := by omega
        subst hk'
        exact ⟨rfl, by simpa using hOr, hBr⟩

end Go.Proofs.Ytjnalkeopehlbaa
