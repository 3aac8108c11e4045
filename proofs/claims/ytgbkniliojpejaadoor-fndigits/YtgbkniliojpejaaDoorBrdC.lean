import Derived.RangeFuncNested
import Derived.RangeFuncBound
import Derived.RangeFuncCalls
import Derived.RangeFuncLeaves
import Derived.Shelf.Abstract
import Derived.Shelf.RegionOpen
import Derived.WalkKit
import Derived.OwnWalkIn
import Derived.TacticsInMore
import Derived.LoopNIn
import Derived.LoopIn
import Derived.BigRegionIn
import Derived.Sort.QuietTacIn
import Derived.Sort.BigQuietIn
import Derived.Test.YtgbkniliojpejaaDoorBrdM
namespace Go.Proofs.YtgbkniliojpejaaDoor
open Go.RowKit Go.Shelf
attribute [local go_sem] Oper.semAt_some
set_option linter.unusedVariables false
set_option linter.unusedSimpArgs false

def upto {α : Type} (f : Nat → α) (k : Nat) : List α := (List.range k).map f
theorem upto_succ {α : Type} (f : Nat → α) (k : Nat) : upto f (k + 1) = upto f k ++ [f k] := by simp [upto, List.range_succ]
theorem upto_length {α : Type} (f : Nat → α) (k : Nat) : (upto f k).length = k := by simp [upto]
/-- A chunk, as it is handed to the loop's body. -/
def chunkV (b wd len k : Nat) : Value := .slice (some ⟨b, k * wd, none⟩) (min wd (len - k * wd)) (min wd (len - k * wd))
theorem grown_drewN (w : World) (q : Nat) : w.grownBy (w.drewN q) none := ⟨rfl, rfl, rfl, Nat.le_refl _, fun _ _ _ => rfl⟩
theorem below_drewR {B : Nat} {a w : World} (h : Below B a w) (n : Nat) : Below B a (w.drewN n) := h.trans ⟨rfl, rfl, rfl, Nat.le_refl _, fun _ _ => rfl⟩
/-- What a round must leave as it was: the two variables that the iterator has caught. -/
def Kp2 (Bs Bw : Nat) (W W' : World) : Prop := W'.cell? ⟨Bs, 0, none⟩ = W.cell? ⟨Bs, 0, none⟩ ∧ W'.cell? ⟨Bw, 0, none⟩ = W.cell? ⟨Bw, 0, none⟩
theorem Kp2.refl (Bs Bw : Nat) (W : World) : Kp2 Bs Bw W W := ⟨rfl, rfl⟩
theorem Kp2.trans {Bs Bw : Nat} {A B C : World} (h : Kp2 Bs Bw A B) (h' : Kp2 Bs Bw B C) : Kp2 Bs Bw A C := ⟨h'.1.trans h.1, h'.2.trans h.2⟩
theorem Kp2.drewN {Bs Bw : Nat} {A B : World} (h : Kp2 Bs Bw A B) (q : Nat) : Kp2 Bs Bw A (B.drewN q) := h
theorem Kp2.below {Bs Bw n : Nat} {A B : World} (h : Below n A B) (h1 : Bs < n) (h2 : Bw < n) : Kp2 Bs Bw A B := ⟨h.cell (p := ⟨Bs, 0, none⟩) h1, h.cell (p := ⟨Bw, 0, none⟩) h2⟩
set_option maxRecDepth 100000 in
set_option maxHeartbeats 600000 in
theorem chunk1_in (n : Nat) (hn : 1 ≤ n) (l Bs Bw b len cap wd : Nat) (hlen : len ≤ 5000) (hcap : len ≤ cap) (hw0 : 1 ≤ wd) (hw1 : wd ≤ 64) (J Jx : List Nat → World → Prop)
    (hY : ∀ pre x W, J pre W → pre.length < len → YieldAt Fence.wide (n - 1) Tryd.prog l #[chunkV b wd len x] W fun e W' =>
      (e = .returned (.bool true) ∧ J (pre ++ [x]) W' ∧ Kp2 Bs Bw W W') ∨ (e = .returned (.bool false) ∧ Jx (pre ++ [x]) W'))
    (W : World) (hJa : AbidesFrom W.heap.size J) (hBs : W.cell? ⟨Bs, 0, none⟩ = some (.slice (some ⟨b, 0, none⟩) len cap)) (hBw : W.cell? ⟨Bw, 0, none⟩ = some (.int .i64 (wd : Int))) (h0 : J [] W) :
    CallsIn Fence.wide n Tryd.prog 45 #[.func (.yield l) #[] #[], .pointer (some ⟨Bs, 0, none⟩), .pointer (some ⟨Bw, 0, none⟩)] W fun e W' => (∃ v, e = .returned v) ∧
      ((∃ ys, (∃ k, len ≤ k * wd ∧ k ≤ len ∧ ys = upto id k) ∧ J ys W') ∨ (∃ pre, (∃ k, k ≤ len ∧ (∀ j < k, j * wd < len) ∧ pre = upto id k) ∧ Jx pre W')) := by
  refine callsIn_of_wp Tryd.func45 rfl trivial ?_ rfl
  simp only [Tryd.ntmps45, List.size_toArray, List.length_cons, List.length_nil, Nat.reduceAdd, Nat.reduceSub, Array.replicate_succ, Array.replicate_zero, List.push_toArray, List.append_toArray, List.nil_append, List.cons_append]
  gi_wp2
  gi_loopw [4] (fun i wr => ∃ k : Nat, (k = 0 ∨ (k - 1) * wd < len) ∧ (∀ j < k, j * wd < len) ∧ i = .int .i64 ((k * wd : Nat) : Int) ∧ J (upto id k) wr ∧ Kp2 Bs Bw W wr)
    (fun i _ => len - (intOf i).toNat)
  case atStart => exact ⟨0, .inl rfl, fun j h => by omega, by simp, h0, Kp2.refl _ _ _⟩
  case round =>
    obtain ⟨k, hk0, hkj, rfl, hJs, hnx⟩ := hrel
    have hS : wr.cell? ⟨Bs, 0, none⟩ = some (.slice (some ⟨b, 0, none⟩) len cap) := hnx.1.trans hBs
    have hWd : wr.cell? ⟨Bw, 0, none⟩ = some (.int .i64 (wd : Int)) := hnx.2.trans hBw
    have hkw : k ≤ k * wd := Nat.le_mul_of_pos_right k hw0
    obtain ⟨p, hp⟩ : ∃ p, k * wd = p := ⟨_, rfl⟩
    rw [hp] at hkw
    by_cases hlt : p < len
    · have hkl : k < len := by omega
      rw [hp]
      have z1 : (p : Int) < (len : Int) := by omega
      have z2 : (len : Int) ≤ (cap : Int) := by omega
      have z3 : (p : Int) ≤ (len : Int) := by omega
      obtain ⟨E, hE⟩ : ∃ E, min wd (len - p) = E := ⟨_, rfl⟩
      have hmin : min (wd : Int) ((len - p : Nat) : Int) = (E : Int) := by omega
      have z4 : (E : Int) ≤ (len : Int) - (p : Int) := by omega
      have z5 : (p : Int) + (E : Int) ≤ (cap : Int) := by omega
      have z6 : (0 : Int) ≤ (p : Int) + (E : Int) := by omega
      have z7 : (p : Int) ≤ (p : Int) + (E : Int) := by omega
      have z8 : ((p : Int) + (E : Int)).toNat = p + E := by omega
      have w1 := wrap_idR (a := (p : Int) + (E : Int)) (by omega) (by omega)
      have w2 := wrap_idR (a := (p : Int) + (wd : Int)) (by omega) (by omega)
      have HY : Hid (∀ q, YieldAt Fence.wide (n - 1) Tryd.prog l #[.slice (some ⟨b, p, none⟩) E E] (wr.drewN q) fun e W' =>
          (e = .returned (.bool true) ∧ J (upto id (k + 1)) W' ∧ Kp2 Bs Bw (wr.drewN q) W') ∨ (e = .returned (.bool false) ∧ Jx (upto id (k + 1)) W')) := by
        intro q
        have := hY _ k (wr.drewN q) (hJa _ _ _ none hJs (grown_drewN wr q) (fun r e => by cases e)) (by rw [upto_length]; exact hkl)
        unfold chunkV at this
        rw [hp, hE, ← show upto id (k + 1) = upto id k ++ [k] from upto_succ id k] at this
        exact this
      have HK : Hid ((∀ j < k, j * wd < len) ∧ k < len) := ⟨hkj, hkl⟩
      clear hY hkj hk0 hJs hBs hBw hkw hkl
      gi_wp2
      gi_quiet (fail)
      obtain ⟨fn, tmps, assign, body, hy, hR⟩ := HY.out nq
      gi_wp2
      refine hR.mono ?_
      rintro e W3 (⟨rfl, hJ3, hk3⟩ | ⟨rfl, hJx3⟩)
      · have hWd3 : W3.cell? ⟨Bw, 0, none⟩ = some (.int .i64 (wd : Int)) := hk3.2.trans hWd
        gi_wp2
        go_roundw
        case rel => exact ⟨k + 1, .inr (by rw [Nat.add_sub_cancel, hp]; exact hlt), fun j hj => by rcases Nat.lt_succ_iff_lt_or_eq.1 hj with h | rfl; exact HK.out.1 j h; rw [hp]; exact hlt, by rw [Nat.succ_mul, hp]; simp, hJ3, (hnx.drewN _).trans hk3⟩
        case measure => simp [intOf]; omega
      · gi_wp2
        refine bodyPost_ret (results_none rfl _ _ _) rfl ?_
        exact ⟨⟨_, rfl⟩, .inr ⟨_, ⟨k + 1, by have := HK.out.2; omega, fun j hj => by rcases Nat.lt_succ_iff_lt_or_eq.1 hj with h | rfl; exact HK.out.1 j h; rw [hp]; exact hlt, rfl⟩, hJx3⟩⟩
    · have z1 : ¬ (p : Int) < (len : Int) := by omega
      rw [hp]
      have hkl : k ≤ len := by
        rcases hk0 with rfl | h
        · omega
        · have := Nat.le_mul_of_pos_right (k - 1) hw0; omega
      gi_wp2
      go_end0
      exact ⟨⟨_, rfl⟩, .inl ⟨_, ⟨k, by omega, hkl, rfl⟩, hJs⟩⟩
/-- slices.Chunk's value: each chunk in its order, or the first few. -/
theorem chunk_stops (n : Nat) (hn : 1 ≤ n) (Bs Bw b len cap wd : Nat) (hlen : len ≤ 5000) (hcap : len ≤ cap) (hw0 : 1 ≤ wd) (hw1 : wd ≤ 64) (w : World) (hBs0 : Bs < w.heap.size) (hBw0 : Bw < w.heap.size)
    (hBs : w.cell? ⟨Bs, 0, none⟩ = some (.slice (some ⟨b, 0, none⟩) len cap)) (hBw : w.cell? ⟨Bw, 0, none⟩ = some (.int .i64 (wd : Int))) :
    SeqStopsK Fence.wide n Tryd.prog 45 #[.pointer (some ⟨Bs, 0, none⟩), .pointer (some ⟨Bw, 0, none⟩)] (fun x : Nat => #[chunkV b wd len x]) (Kp2 Bs Bw) (fun ys => ∃ k, len ≤ k * wd ∧ k ≤ len ∧ ys = upto id k) (fun pre => ∃ k, k ≤ len ∧ (∀ j < k, j * wd < len) ∧ pre = upto id k) len w := fun l J Jx W hW hJ _ hY h0 =>
  chunk1_in n hn l Bs Bw b len cap wd hlen hcap hw0 hw1 J Jx hY W hJ ((hW.cell (p := ⟨Bs, 0, none⟩) hBs0).trans hBs) ((hW.cell (p := ⟨Bw, 0, none⟩) hBw0).trans hBw) h0
set_option maxRecDepth 100000 in
theorem chunk_any (a : Option Addr) (len cap : Nat) (wd : Nat) (hw : 1 ≤ wd) (w : World) :
    Calls Tryd.prog 33 #[.slice a len cap, .int .i64 (wd : Int)] w fun e w' => e = .returned (.func (.func 45) #[] #[.pointer (some ⟨w.heap.size, 0, none⟩), .pointer (some ⟨w.heap.size + 1, 0, none⟩)]) ∧ w' = (w.alloc (.cells #[.slice a len cap] 22)).alloc (.cells #[.int .i64 (wd : Int)] 3) := by
  have hz : ¬ (wd : Int) < 1 := by omega
  go_enter Tryd.func33, Tryd.ntmps33
  go_wp2
  go_ret
  exact ⟨rfl, rfl⟩
end Go.Proofs.YtgbkniliojpejaaDoor
