import Derived.Test.YtjnalkeopehlbaaBaseG
namespace Go.Proofs.Ytjnalkeopehlbaa
open Go.RowKit Go.Maps
set_option linter.unusedVariables false
set_option linter.unusedSimpArgs false

theorem below_setGo {B g : Nat} {w w1 : World} (h : Below B w w1) (hB : B ≤ w1.heap.size) (hg : B ≤ g) {o : Nat} (u : Value) : Below B w (w1.setCell ⟨g, o, none⟩ u) := h.setCell hg u
structure Gp where
  c : Int
  a : Int
  b : Int
  deriving DecidableEq
def Gp.ok (e : Gp) : Prop := (-9223372036854775808 ≤ e.c ∧ e.c < 9223372036854775808) ∧ (-9223372036854775808 ≤ e.a ∧ e.a < 9223372036854775808) ∧ (-9223372036854775808 ≤ e.b ∧ e.b < 9223372036854775808)
def Gp.cs (e : Gp) : List Value := [.int .i64 e.c, .int .i64 e.a, .int .i64 e.b]
def Gp.val (e : Gp) : Value := .agg #[.int .i64 e.c, .int .i64 e.a, .int .i64 e.b]
def shGo : Sh Gp := ⟨3, by decide, Gp.cs, Gp.ok, fun _ => rfl, fun a u hu => by simp [Gp.cs] at hu; rcases hu with rfl | rfl | rfl <;> rfl⟩
abbrev RdGo := RdG shGo
abbrev OwnGo (T : TypeId) := OwnG shGo T
theorem Try.info45 : (Try.prog.info? 45).map (fun i => (i.zero, i.size, i.bytes)) = some (some (.agg #[.int .i64 0, .int .i64 0, .int .i64 0]), 3, 24) := by kernel_rfl
theorem RdGo.at {w : World} {b off : Nat} {xs : List Gp} (hc : ∀ k (hk : k < xs.length) j, j < shGo.n → w.cell? ⟨b, off + k * shGo.n + j, none⟩ = (shGo.cs xs[k])[j]?) (k : Nat) (hk : k < xs.length) :
    w.cell? ⟨b, off + k * 3, none⟩ = some (.int .i64 xs[k].c) ∧ w.cell? ⟨b, off + k * 3 + 1, none⟩ = some (.int .i64 xs[k].a) ∧ w.cell? ⟨b, off + k * 3 + 2, none⟩ = some (.int .i64 xs[k].b) :=
  ⟨hc k hk 0 (by decide), hc k hk 1 (by decide), hc k hk 2 (by decide)⟩
theorem OwnGo.stores {T : TypeId} {w : World} {B g n cap : Nat} {xs : List Gp} (h : OwnGo T w B (.slice (some ⟨g, 0, none⟩) n cap) xs) (k : Nat) (hk : k < xs.length) (e : Gp) (he : shGo.ok e) :
    OwnGo T (((w.setCell ⟨g, k * 3, none⟩ (.int .i64 e.c)).setCell ⟨g, k * 3 + 1, none⟩ (.int .i64 e.a)).setCell ⟨g, k * 3 + 2, none⟩ (.int .i64 e.b)) B (.slice (some ⟨g, 0, none⟩) n cap) (xs.set k e) := by
  have hx := h.2.2 xs[k] (List.getElem_mem hk)
  have h1 := h.put k hk 0 (by decide) (.int .i64 e.c) ⟨e.c, xs[k].a, xs[k].b⟩ ⟨he.1, hx.2.1, hx.2.2⟩ rfl
  have h2 := h1.put k (by simpa using hk) 1 (by decide) (.int .i64 e.a) ⟨e.c, e.a, xs[k].b⟩ ⟨he.1, he.2.1, hx.2.2⟩ (by simp [shGo, Gp.cs])
  have h3 := h2.put k (by simpa using hk) 2 (by decide) (.int .i64 e.b) e he (by simp [shGo, Gp.cs])
  simp only [List.set_set, Nat.add_zero] at h3
  exact h3

set_option maxRecDepth 100000 in
theorem eqGo_any (x y : Gp) (w : World) : Calls Try.prog 32 #[x.val, y.val] w fun e w' => e = .returned (.bool (decide (x = y))) ∧ Below w.heap.size w w' := by
  obtain ⟨c, a, b⟩ := x
  obtain ⟨c', a', b'⟩ := y
  have bW : Below w.heap.size w ((w.alloc (Obj.cells #[.int .i64 c, .int .i64 a, .int .i64 b] 45)).alloc (Obj.cells #[.int .i64 c', .int .i64 a', .int .i64 b'] 45)) := ((Below.refl _ w).alloc (Nat.le_refl _) _).alloc (by simp) _
  simp only [Gp.val, Gp.mk.injEq]
  by_cases e0 : c = c'
  · by_cases e1 : a = a'
    · by_cases e2 : b = b'
      · subst e0 e1 e2
        go_enter Try.func32, Try.ntmps32
        go_wp2
        go_ret; exact ⟨by simp, bW⟩
      · subst e0 e1
        go_enter Try.func32, Try.ntmps32
        go_wp2
        go_ret; exact ⟨by simp [e2], bW⟩
    · subst e0
      go_enter Try.func32, Try.ntmps32
      go_wp2
      go_ret; exact ⟨by simp [e1], bW⟩
  · go_enter Try.func32, Try.ntmps32
    go_wp2
    go_ret; exact ⟨by simp [e0], bW⟩

set_option maxRecDepth 100000 in
theorem eqGoS_any (v u : Value) (xs ys : List Gp) (w : World) (hx : RdGo w v xs) (hy : RdGo w u ys) :
    Calls Try.prog 13 #[v, u] w fun e w' => e = .returned (.bool (decide (xs = ys))) ∧ Below w.heap.size w w' := by
  obtain ⟨a, cap, rfl, hlx, hzx, hnx, hcx⟩ := hx
  obtain ⟨a', cap', rfl, hly, hzy, hny, hcy⟩ := hy
  by_cases hlen : xs.length = ys.length
  · go_enter Try.func13, Try.ntmps13
    go_wp2
    go_loopw [5] (fun i wr => ∃ k : Nat, k ≤ xs.length ∧ i = .int .i64 k ∧ xs.take k = ys.take k ∧ Below w.heap.size w wr)
      (fun i _ => xs.length - (intOf i).toNat)
    case atStart => exact ⟨0, Nat.zero_le _, rfl, by simp, Below.refl _ _⟩
    case round =>
      obtain ⟨k, hk, rfl, hEq, hBr⟩ := hrel
      by_cases hlt : k < xs.length
      · obtain ⟨b, off, rfl, hb, hcell⟩ := hcx (by omega)
        obtain ⟨b', off', rfl, hb', hcell'⟩ := hcy (by omega)
        obtain ⟨c0, c1, c2⟩ := RdGo.at (fun k hk j hj => (hBr.cell (p := ⟨b, _, none⟩) hb).trans (hcell k hk j hj)) k hlt
        have hlt' : k < ys.length := by omega
        obtain ⟨d0, d1, d2⟩ := RdGo.at (fun k hk j hj => (hBr.cell (p := ⟨b', _, none⟩) hb').trans (hcell' k hk j hj)) k hlt'
        have hA := hEq
        have HL : Hid (xs.length = ys.length) := hlen
        clear hcell hcell' hcx hcy hEq hlen
        generalize hX : xs[k] = X at *
        generalize hY : ys[k] = Y at *
        have hE := fun W => eqGo_any X Y W
        simp only [Gp.val] at hE
        go_wp2
        go_region_with (go_at_call 32; refine (hE _).mono ?_; rintro e w2 ⟨rfl, hB⟩)
        all_goals
          by_cases hXY : X = Y
          · rw [decide_eq_true hXY]
            go_wp2
            go_roundw
            case rel =>
              refine ⟨k + 1, by omega, by go_num, ?_, hBr.drew.trans (hB.mono hBr.size)⟩
              rw [List.take_succ_eq_append_getElem hlt, List.take_succ_eq_append_getElem hlt', hA, hX, hY, hXY]
            case measure => simp [intOf]; omega
          · rw [decide_eq_false hXY]
            go_wp2
            go_ret
            refine ⟨?_, hBr.drew.trans (hB.mono hBr.size)⟩
            have : xs ≠ ys := fun h => hXY (by subst h; rw [← hX, ← hY])
            simp [this]
      · go_wp2
        go_ret
        refine ⟨?_, hBr⟩
        rw [List.take_of_length_le (by omega), List.take_of_length_le (by omega)] at hEq
        simp [hEq]
  · have hne : ((xs.length : Int) == (ys.length : Int)) = false := by simp; omega
    go_enter Try.func13, Try.ntmps13
    go_wp2
    go_ret
    have : xs ≠ ys := fun h => hlen (by rw [h])
    exact ⟨by simp [this], Below.refl _ _⟩

def mkGo (k0 : Int) (i : Nat) : Gp := ⟨k0 + 3 * i, k0 + 3 * i + 1, k0 + 3 * i + 2⟩
def mksGo (k0 : Int) (n : Nat) : List Gp := (List.range n).map (mkGo k0)
theorem mksGo_length (k0 : Int) (n : Nat) : (mksGo k0 n).length = n := by simp [mksGo]
theorem mkGo_ok {k0 : Int} {i : Nat} (h0 : 0 ≤ k0) (h1 : k0 + 3 * i + 3 ≤ 4294967296) : shGo.ok (mkGo k0 i) := by
  refine ⟨⟨?_, ?_⟩, ⟨?_, ?_⟩, ⟨?_, ?_⟩⟩ <;> simp only [mkGo] <;> omega
theorem mksGo_set (k0 : Int) (xs : List Gp) (k : Nat) (h : k < xs.length) : (mksGo k0 k ++ xs.drop k).set k (mkGo k0 k) = mksGo k0 (k + 1) ++ xs.drop (k + 1) := by
  have e : xs.drop k = xs[k] :: xs.drop (k + 1) := List.drop_eq_getElem_cons h
  rw [e, List.set_append_right _ _ (by simp [mksGo_length]), mksGo_length, Nat.sub_self, List.set_cons_zero]
  simp only [mksGo, List.range_succ, List.map_append, List.append_assoc, List.map_cons, List.map_nil, List.singleton_append]

set_option maxRecDepth 100000 in
theorem markGoS_any (T : TypeId) (B n cap : Nat) (a : Option Addr) (xs : List Gp) (k0 : Int) (w : World) (hO : OwnGo T w B (.slice a n cap) xs) (h0 : 0 ≤ k0) (h1 : k0 ≤ 33554432) (hT : T = 45) :
    Calls Try.prog 14 #[.slice a n cap, .int .i64 k0] w fun e w' => e = .returned (.int .i64 (k0 + 3 * xs.length)) ∧ OwnGo T w' B (.slice a n cap) (mksGo k0 xs.length) ∧ w.grownBy w' (Value.slice a n cap).ownBlock := by
  have hlz := hO.2.1
  rcases hO.shape with ⟨hv, rfl⟩ | ⟨g, cap', hv, hBg, hg, hcap⟩
  · simp at hv
    obtain ⟨rfl, rfl, rfl⟩ := hv
    go_enter Try.func14, Try.ntmps14
    go_wp2
    refine wp_loop_rounds 1 ?_
    rw [rounds_succ]
    go_wp2
    go_ret
    exact ⟨by simp, hO, World.grownBy.refl _ _⟩
  · simp at hv
    obtain ⟨rfl, rfl, rfl⟩ := hv
    go_enter Try.func14, Try.ntmps14
    go_wp2
    go_loopw [1, 5] (fun q i wr => ∃ k : Nat, k ≤ xs.length ∧ q = .int .i64 (k0 + 3 * k) ∧ i = .int .i64 k ∧ OwnGo T wr B (.slice (some ⟨g, 0, none⟩) xs.length cap) (mksGo k0 k ++ xs.drop k) ∧ w.grownBy wr (some g))
      (fun _ i _ => xs.length - (intOf i).toNat)
    case atStart => exact ⟨0, Nat.zero_le _, by simp, rfl, by simpa [mksGo] using hO, World.grownBy.refl _ _⟩
    case round =>
      obtain ⟨k, hk, rfl, rfl, hOr, hBr⟩ := hrel
      by_cases hlt : k < xs.length
      · have hll : k < (mksGo k0 k ++ xs.drop k).length := by simp [mksGo_length]; omega
        generalize hL : mksGo k0 k ++ xs.drop k = L at hOr hll
        obtain ⟨c0, c1, c2⟩ := RdGo.at (off := 0) (fun k hk j hj => by rw [Nat.zero_add]; exact hOr.cell k hk j hj) k hll
        simp only [Nat.zero_add] at c0 c1 c2
        have f0 := hOr.frozen (k * 3)
        have f1 := hOr.frozen (k * 3 + 1)
        have f2 := hOr.frozen (k * 3 + 2)
        have HL : Hid (mksGo k0 k ++ xs.drop k = L) := hL
        clear hL
        go_wp2
        go_roundw
        case rel =>
          refine ⟨k + 1, by omega, by go_num, by go_num, ?_, gb_trans (gb_trans (gb_trans hBr (gb_set _ _ _ _)) (gb_set _ _ _ _)) (gb_set _ _ _ _)⟩
          have := OwnGo.stores hOr k hll (mkGo k0 k) (mkGo_ok h0 (by omega))
          rw [← HL.out, mksGo_set k0 xs k hlt] at this
          have e2 : k0 + 3 * (k : Int) + 1 + 1 = k0 + 3 * (k : Int) + 2 := by omega
          simp only [mkGo] at this
          simpa only [e2] using this
        case measure => simp [intOf]; omega
      · go_wp2
        go_ret
        have hk' : k = xs.length := by omega
        subst hk'
        exact ⟨rfl, by simpa using hOr, hBr⟩

set_option maxRecDepth 100000 in
theorem toGo_any (x : Gp) (w : World) : Calls Try.prog 27 #[x.val] w fun e w' => e = .returned x.val ∧ Below w.heap.size w w' := by
  obtain ⟨c, a, b⟩ := x
  simp only [Gp.val]
  go_enter Try.func27, Try.ntmps27
  go_wp2
  refine bodyPost_ret (v := .agg #[.int .i64 c, .int .i64 a, .int .i64 b]) (by simp [results, Try.results27, go_sem]) rfl ⟨rfl, ?_⟩
  first
    | exact (((Below.refl _ w).alloc (Nat.le_refl _) _).alloc (by simp) _).alloc (by simp; omega) _
    | exact ((Below.refl _ w).alloc (Nat.le_refl _) _).alloc (by simp) _

def zrGo : Gp := ⟨0, 0, 0⟩
theorem set_take_Go (xs : List Gp) (k : Nat) (hk : k < xs.length) : (xs.take k ++ List.replicate (xs.length - k) zrGo).set k xs[k] = xs.take (k + 1) ++ List.replicate (xs.length - (k + 1)) zrGo := by
  rw [List.set_append_right _ _ (by simp; omega), List.take_succ_eq_append_getElem hk]
  have e : k - (xs.take k).length = 0 := by simp; omega
  rw [e, show xs.length - k = (xs.length - (k + 1)) + 1 by omega, List.replicate_succ, List.set_cons_zero, List.append_assoc]; rfl

set_option maxRecDepth 100000 in
set_option maxHeartbeats 1000000 in
theorem toGoS_any (v : Value) (xs : List Gp) (w : World) (hr : RdGo w v xs) :
    Calls Try.prog 9 #[v] w fun e w' => ∃ a c, e = .returned (.slice a xs.length c) ∧ OwnGo 45 w' w.heap.size (.slice a xs.length c) xs ∧ Below w.heap.size w w' := by
  obtain ⟨a, cap, rfl, hl, hz, hn0, hc⟩ := hr
  obtain ⟨i0, hi, hz0, hz1, hz2⟩ := info_parts Try.info45
  go_enter Try.func9, Try.ntmps9
  go_wp2_with (at_make; refine wpList_make_full _ rfl _ _ 26 rfl w.heap.size 45 i0 _ 3 Try.underlying26 hi hz0 hz1 .i64 .i64 _ _ xs.length rfl rfl rfl rfl (by rw [hz2]; omega) (by unfold maxLen; omega) (Nat.le_refl _) ?_; intro w1 hown hgrow)
  have hO : OwnGo 45 w1 w.heap.size (.slice (some ⟨w.heap.size, 0, none⟩) xs.length xs.length) (List.replicate xs.length zrGo) := by
    have hf : ∀ n, (List.replicate n zrGo).flatMap shGo.cs = (madeCells (Value.cells (.agg #[.int .i64 0, .int .i64 0, .int .i64 0])) (n * 3)).toList := by
      intro n
      have hlen : ((List.replicate n zrGo).flatMap shGo.cs).length = n * 3 := by rw [flat_length, List.length_replicate]; rfl
      apply List.ext_getElem?
      intro i
      by_cases hi : i < n * 3
      · have hk : i / 3 < n := by omega
        have h1 := flat_get shGo (List.replicate n zrGo) (i / 3) (by simpa using hk) (i % 3) (by show i % 3 < 3; omega)
        rw [show i / 3 * shGo.n + i % 3 = i by show i / 3 * 3 + i % 3 = i; omega, List.getElem_replicate] at h1
        rw [h1]
        have h2 : (madeCells (Value.cells (.agg #[.int .i64 0, .int .i64 0, .int .i64 0])) (n * 3)).toList[i]? = some ((Value.cells (.agg #[.int .i64 0, .int .i64 0, .int .i64 0]))[i % 3]!) := by
          simp [madeCells, hi, Value.cells]
        rw [h2]
        have h4 : i % 3 < 3 := by omega
        generalize i % 3 = j at h4
        have : j = 0 ∨ j = 1 ∨ j = 2 := by omega
        rcases this with rfl | rfl | rfl <;> rfl
      · rw [List.getElem?_eq_none (by omega), List.getElem?_eq_none (by rw [Array.length_toList, size_madeCells]; omega)]
    refine ⟨?_, by simpa using hl, fun e he => ?_⟩
    · show w1.ownsRow w.heap.size 45 3 _ (List.replicate xs.length zrGo).length _
      rw [hf, List.length_replicate]; exact hown
    · simp at he; rw [he.2]; exact ⟨⟨by decide, by decide⟩, ⟨by decide, by decide⟩, ⟨by decide, by decide⟩⟩
  have hB : Below w.heap.size w w1 := (Below.refl _ _).grown hgrow (Nat.le_refl _) (by intro k h; cases h)
  clear hown hgrow
  go_loopw [4] (fun i wr => ∃ k : Nat, k ≤ xs.length ∧ i = .int .i64 k ∧ OwnGo 45 wr w.heap.size (.slice (some ⟨w.heap.size, 0, none⟩) xs.length xs.length) (xs.take k ++ List.replicate (xs.length - k) zrGo) ∧ Below w.heap.size w wr)
    (fun i _ => xs.length - (intOf i).toNat)
  case atStart => exact ⟨0, Nat.zero_le _, rfl, by simpa using hO, hB⟩
  case round =>
    obtain ⟨k, hk, rfl, hOr, hBr⟩ := hrel
    clear hO hB
    by_cases hlt : k < xs.length
    · obtain ⟨b, off, rfl, hb, hcell⟩ := hc (by omega)
      obtain ⟨d0, d1, d2⟩ := RdGo.at (fun k hk j hj => (hBr.cell (p := ⟨b, _, none⟩) hb).trans (hcell k hk j hj)) k hlt
      have hok := hz xs[k] (List.getElem_mem hlt)
      have hst := set_take_Go xs k hlt
      have Hst : Hid _ := hst
      have hTo := fun W => toGo_any xs[k] W
      have hll : k < (xs.take k ++ List.replicate (xs.length - k) zrGo).length := by simp; omega
      generalize (xs.take k ++ List.replicate (xs.length - k) zrGo) = L at *
      obtain ⟨c0, c1, c2⟩ := RdGo.at (off := 0) (fun k hk j hj => by rw [Nat.zero_add]; exact hOr.cell k hk j hj) k hll
      simp only [Nat.zero_add] at c0 c1 c2
      have f0 := hOr.frozen (k * 3)
      have f1 := hOr.frozen (k * 3 + 1)
      have f2 := hOr.frozen (k * 3 + 2)
      generalize xs[k] = E at *
      simp only [Gp.val] at hTo
      clear hcell hc hst
      go_wp2_with (go_at_call 27; refine (hTo _).mono ?_; rintro e w2 ⟨rfl, hB2⟩; have hO2 := hOr.keep hB2; clear c0 c1 c2 f0 f1 f2; obtain ⟨c0, c1, c2⟩ := RdGo.at (off := 0) (fun k hk j hj => by rw [Nat.zero_add]; exact hO2.cell k hk j hj) k hll; simp only [Nat.zero_add] at c0 c1 c2; have f0 := hO2.frozen (k * 3); have f1 := hO2.frozen (k * 3 + 1); have f2 := hO2.frozen (k * 3 + 2))
      go_roundw
      case rel =>
        have hBw := hBr.trans (hB2.mono hBr.size)
        have hsz := hBw.size
        refine ⟨k + 1, by omega, by go_num, ?_, below_setGo (below_setGo (below_setGo hBw hsz (Nat.le_refl _) _) (by simpa [World.setCell] using hsz) (Nat.le_refl _) _) (by simpa [World.setCell] using hsz) (Nat.le_refl _) _⟩
        have := OwnGo.stores hO2 k hll E hok
        rw [Hst.out] at this
        exact this
      case measure => simp [intOf]; omega
    · go_wp2
      go_ret
      have hk' : k = xs.length := by omega
      subst hk'
      exact ⟨_, _, rfl, by simpa using hOr, hBr⟩

theorem szGoS_any (a : Option Addr) (n c : Nat) (left : Int) (w : World) (h : n ≤ 9223372036854775807) (h0 : 0 ≤ left) (h1 : left ≤ 1048576) :
    Calls Try.prog 7 #[.slice a n c, .int .i64 left] w fun e w' => e = .returned (.int .i64 (if left < n then -1 else left - n)) ∧ w' = w := by
  by_cases hl : left < (n : Int)
  · rw [if_pos hl]
    go_enter Try.func7, Try.ntmps7
    go_wp2
    go_ret
    exact ⟨rfl, rfl⟩
  · rw [if_neg hl]
    go_enter Try.func7, Try.ntmps7
    go_wp2
    go_ret
    exact ⟨rfl, rfl⟩

end Go.Proofs.Ytjnalkeopehlbaa
