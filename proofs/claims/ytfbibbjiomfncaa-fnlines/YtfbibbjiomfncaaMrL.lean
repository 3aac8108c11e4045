import Derived.Test.YtfbibbjiomfncaaMrP
import Derived.Test.YtfbibbjiomfncaaClT
import Derived.BigQuiet
import Derived.Deep.RegionHeld3
namespace Go.Proofs.Ytfbibbjiomfncaa
open Go.RowKit
set_option linter.unusedVariables false
set_option linter.unusedSimpArgs false

/-- A slice as an element. -/
structure Sl where
  a : Option Addr
  n : Nat
  c : Nat
def Sl.val (s : Sl) : Value := .slice s.a s.n s.c
def shL : Sh Sl := ⟨1, by decide, fun s => [s.val], fun _ => True, fun _ => rfl, fun a u hu => by simp [Sl.val] at hu; subst hu; rfl⟩
theorem Try.info51 : (Try.prog.info? 51).map (fun i => (i.zero, i.size, i.bytes)) = some (some (.slice none 0 0), 1, 24) := by kernel_rfl

/-- A row that is read, at a block that is one of these. -/
def RdX (P : Nat → Prop) (w : World) (v : Value) (zs : List Int) : Prop := Rd w v zs ∧ (0 < zs.length → ∀ b off n c, v = .slice (some ⟨b, off, none⟩) n c → P b)
theorem RdX.same {P : Nat → Prop} {w w' : World} {v : Value} {zs : List Int} (h : RdX P w v zs) (hs : ∀ b, b < w.heap.size → P b → w'.heap[b]? = w.heap[b]?) (hz : w.heap.size ≤ w'.heap.size) : RdX P w' v zs := by
  obtain ⟨⟨a, cap, rfl, hl, hzz, hn, hc⟩, hP⟩ := h
  refine ⟨⟨a, cap, rfl, hl, hzz, hn, fun h0 => ?_⟩, hP⟩
  obtain ⟨b, off, rfl, hb, hcell⟩ := hc h0
  exact ⟨b, off, rfl, by omega, fun k hk => (World.cell?_of_block (a := ⟨b, off + k, none⟩) (hs b hb (hP h0 b off _ _ rfl))).trans (hcell k hk)⟩
theorem RdX.mono {P Q : Nat → Prop} {w : World} {v : Value} {zs : List Int} (h : RdX P w v zs) (hPQ : ∀ b, P b → Q b) : RdX Q w v zs := ⟨h.1, fun h0 b off n c e => hPQ b (h.2 h0 b off n c e)⟩
/-- A row less its first. -/
theorem RdX.tail {P : Nat → Prop} {w : World} {b off n c : Nat} {z : Int} {zs : List Int} (h : RdX P w (.slice (some ⟨b, off, none⟩) n c) (z :: zs)) : RdX P w (.slice (some ⟨b, off + 1, none⟩) (n - 1) (c - 1)) zs := by
  obtain ⟨⟨a, cap, e, hl, hzz, hn, hc⟩, hP⟩ := h
  simp only [Value.slice.injEq, List.length_cons] at e hl hn
  obtain ⟨rfl, e2, rfl⟩ := e
  obtain ⟨b', off', e4, hb, hcell⟩ := hc (by simp)
  simp only [Option.some.injEq, Addr.mk.injEq, and_true] at e4
  obtain ⟨rfl, rfl⟩ := e4
  refine ⟨⟨_, _, by rw [e2]; rfl, by omega, fun y hy => hzz y (List.mem_cons_of_mem _ hy), ⟨by omega, fun h => by cases h⟩, fun h0 => ⟨b, off + 1, rfl, hb, fun k hk => ?_⟩⟩, fun h0 b' off' n' c' e => ?_⟩
  · have := hcell (k + 1) (by simp; omega)
    rw [show off + 1 + k = off + (k + 1) by omega, this]
    simp
  · simp only [Value.slice.injEq, Option.some.injEq, Addr.mk.injEq, and_true] at e
    exact hP (by simp) b' off n c (by rw [← e.1.1])
theorem RdX.nilAt {P : Nat → Prop} (w : World) (b off : Nat) : RdX P w (.slice (some ⟨b, off, none⟩) 0 0) [] :=
  ⟨⟨_, 0, rfl, by simp, Limbs.nil, ⟨Nat.le_refl _, fun h => by cases h⟩, fun h => by simp at h⟩, fun h => by simp at h⟩

/-- A row of rows: the outer one is ours, the inner ones are read. -/
def LL (P : Nat → Prop) (w : World) (B g n cap : Nat) (Ls : List (List Int)) : Prop :=
  ∃ sls : List Sl, OwnG shL 51 w B (.slice (some ⟨g, 0, none⟩) n cap) sls ∧ sls.length = Ls.length ∧ ∀ k (h : k < sls.length) (h' : k < Ls.length), RdX P w sls[k].val Ls[k]
theorem OwnG.keepAt {α : Type} {S : Sh α} {T : TypeId} {w w' : World} {B b n c : Nat} {xs : List α} (hO : OwnG S T w B (.slice (some ⟨b, 0, none⟩) n c) xs) (h : w'.heap[b]? = w.heap[b]?) : OwnG S T w' B (.slice (some ⟨b, 0, none⟩) n c) xs := by
  obtain ⟨⟨h1, h2⟩, h3⟩ := hO
  refine ⟨⟨h1, ?_⟩, h3⟩
  rcases h2 with h2 | ⟨g', cap, cur, e, hg, hh, r⟩
  · exact .inl h2
  · have e' := e
    simp at e'
    obtain ⟨rfl, _, _⟩ := e'
    exact .inr ⟨_, cap, cur, e, hg, h.trans hh, r⟩
theorem LL.same {P : Nat → Prop} {w w' : World} {B g n cap : Nat} {Ls : List (List Int)} (h : LL P w B g n cap Ls) (hg : w'.heap[g]? = w.heap[g]?) (hs : ∀ b, b < w.heap.size → P b → w'.heap[b]? = w.heap[b]?) (hz : w.heap.size ≤ w'.heap.size) : LL P w' B g n cap Ls := by
  obtain ⟨sls, hO, hl, hr⟩ := h
  exact ⟨sls, hO.keepAt hg, hl, fun k h h' => (hr k h h').same hs hz⟩
theorem LL.len {P : Nat → Prop} {w : World} {B g n cap : Nat} {Ls : List (List Int)} (h : LL P w B g n cap Ls) : n = Ls.length := by
  obtain ⟨sls, hO, hl, hr⟩ := h
  have := hO.len (g := g) (cap := cap)
  omega
/-- The inner row at a place, and its cell. -/
theorem LL.at {P : Nat → Prop} {w : World} {B g n cap : Nat} {Ls : List (List Int)} (h : LL P w B g n cap Ls) (k : Nat) (hk : k < Ls.length) : ∃ a c, w.cell? ⟨g, k, none⟩ = some (.slice a Ls[k].length c) ∧ RdX P w (.slice a Ls[k].length c) Ls[k] := by
  obtain ⟨sls, hO, hl, hr⟩ := h
  have hk' : k < sls.length := by omega
  have hR := hr k hk' hk
  obtain ⟨a, c, e⟩ := hR.1.form
  have hc := hO.cell k hk' 0 (by decide)
  simp only [show shL.n = 1 from rfl, Nat.mul_one, Nat.add_zero] at hc
  refine ⟨a, c, ?_, by rw [← e]; exact hR⟩
  rw [hc, ← e]; rfl
theorem LL.frozen {P : Nat → Prop} {w : World} {B g n cap : Nat} {Ls : List (List Int)} (h : LL P w B g n cap Ls) (k : Nat) : w.frozen? ⟨g, k, none⟩ = false := by
  obtain ⟨sls, hO, hl, hr⟩ := h
  exact hO.frozen k
theorem LL.size {P : Nat → Prop} {w : World} {B g n cap : Nat} {Ls : List (List Int)} (h : LL P w B g n cap Ls) : B ≤ g ∧ g < w.heap.size := by
  obtain ⟨sls, hO, hl, hr⟩ := h
  exact hO.lt g rfl
/-- An inner row is put. -/
theorem LL.put {P : Nat → Prop} {w : World} {B g n cap : Nat} {Ls : List (List Int)} (h : LL P w B g n cap Ls) (hP : ¬ P g) (k : Nat) (hk : k < Ls.length) (a : Option Addr) (m c : Nat) (l : List Int) (hr : RdX P w (.slice a m c) l) : LL P (w.setCell ⟨g, k, none⟩ (.slice a m c)) B g n cap (Ls.set k l) := by
  obtain ⟨sls, hO, hl, hR⟩ := h
  have hk' : k < sls.length := by omega
  have h1 := hO.put k hk' 0 (by decide) (.slice a m c) ⟨a, m, c⟩ trivial (by simp [shL, Sl.val])
  simp only [show shL.n = 1 from rfl, Nat.mul_one, Nat.add_zero] at h1
  have hs : ∀ b, b < w.heap.size → P b → (w.setCell ⟨g, k, none⟩ (.slice a m c)).heap[b]? = w.heap[b]? := fun b hb hb' => (gb_set w g k (.slice a m c)).block b hb (by simp; intro e; subst e; exact hP hb')
  have hz : w.heap.size ≤ (w.setCell ⟨g, k, none⟩ (.slice a m c)).heap.size := (gb_set w g k (.slice a m c)).size
  refine ⟨sls.set k ⟨a, m, c⟩, h1, by simp [hl], fun j hj hj' => ?_⟩
  rw [List.getElem_set, List.getElem_set]
  split
  · exact hr.same hs hz
  · exact (hR j (by simpa using hj) (by simpa using hj')).same hs hz

set_option maxRecDepth 100000 in
theorem inTail_any (v : Value) (zs : List Int) (x : Int) (w : World) (hr : Rd w v zs) (hx : -9223372036854775808 ≤ x ∧ x < 9223372036854775808) :
    Calls Try.prog 73 #[v, .int .i64 x] w fun e w' => e = .returned (.bool (decide (x ∈ zs.tail))) ∧ w' = w := by
  obtain ⟨a, cap, rfl, hl, hz, hn0, hc⟩ := hr
  generalize hR : decide (x ∈ zs.tail) = R
  have HR : Hid (decide (x ∈ zs.tail) = R) := hR
  clear hR
  go_enter Try.func73, Try.ntmps73
  go_wp2_with fail
  go_loopw [5] (fun i wr => ∃ k : Nat, 1 ≤ k ∧ i = .int .i64 k ∧ (∀ j (h : j < zs.length), 1 ≤ j → j < k → zs[j] ≠ x) ∧ wr = w) (fun i _ => zs.length + 1 - (intOf i).toNat)
  case atStart => exact ⟨1, by omega, rfl, fun j _ h1 h2 => by omega, rfl⟩
  case round =>
    obtain ⟨k, hk, rfl, hall, hw⟩ := hrel
    have hw' := hw.symm
    subst hw'
    by_cases hlt : k < zs.length
    · have hki : (k : Int) < (zs.length : Int) := by omega
      obtain ⟨b, off, rfl, hb, hcell⟩ := hc (by omega)
      have hck := hcell k hlt
      have hg : zs.getD k 0 = zs[k] := by simp [List.getD, hlt]
      rw [hg] at hck
      have Hk : Hid (zs[k] = zs[k]) := rfl
      generalize hzk : zs[k] = y at hck
      by_cases hy : y = x
      · have hd : decide (x ∈ zs.tail) = true := by
          apply decide_eq_true
          have : zs.tail[k - 1]'(by simp; omega) = x := by rw [List.getElem_tail]; simp only [show k - 1 + 1 = k by omega]; rw [hzk, hy]
          rw [← this]; exact List.getElem_mem _
        obtain rfl : R = true := by rw [← HR.out]; exact hd
        have hyb : (y == x) = true := by simp [hy]
        clear hc hcell hall hd hzk hg
        go_wp2
        go_ret
        exact ⟨rfl, rfl⟩
      · have hyb : (y == x) = false := by simp [hy]
        have hn : zs[k] ≠ x := by rw [hzk]; exact hy
        clear hc hcell hzk hg hy
        go_wp2
        go_roundw
        case rel => exact ⟨k + 1, by omega, by go_num, fun j h h1 h2 => by
          by_cases e : j = k
          · subst e; exact hn
          · exact hall j h h1 (by omega), by trivial⟩
        case measure => simp [intOf]; omega
    · have hki : ¬ (k : Int) < (zs.length : Int) := by omega
      have hd : decide (x ∈ zs.tail) = false := by
        apply decide_eq_false
        intro hm
        obtain ⟨j, hj, e⟩ := List.getElem_of_mem hm
        rw [List.getElem_tail] at e
        simp at hj
        exact hall (j + 1) (by omega) (by omega) (by omega) e
      obtain rfl : R = false := by rw [← HR.out]; exact hd
      clear hd
      go_wp2
      go_ret
      exact ⟨rfl, rfl⟩
end Go.Proofs.Ytfbibbjiomfncaa
