import Derived.Test.YtjnalkeopehlbaaMgD
import Derived.Test.YtjnalkeopehlbaaLaidQ
import Derived.Lib.SortBridge
namespace Go.Proofs.Ytjnalkeopehlbaa
open Go.RowKit Go.Maps Go.Shelf Go.Lib Go.Sort
set_option linter.unusedVariables false
set_option linter.unusedSimpArgs false

/-- Where a number's own cell is, whatever number is given. -/
def adN (n hb : Nat) (tb : Nat → Nat) (x : Nat) : Addr := if 1 ≤ x ∧ x ≤ n then ⟨tb x, 0, none⟩ else ⟨hb, 1, none⟩
def clN (n x : Nat) : Nat := if 1 ≤ x ∧ x ≤ n then x else n
theorem clN_in {n x : Nat} (h : In n x) : clN n x = x := if_pos h
theorem adN_in {n hb x : Nat} {tb : Nat → Nat} (h : In n x) : adN n hb tb x = ⟨tb x, 0, none⟩ := if_pos h
theorem clN_le (n x : Nat) : clN n x ≤ n := by
  unfold clN
  split
  · rename_i h; exact h.2
  · exact Nat.le_refl _
def cfN (n x y : Nat) : Int := (clN n x : Int) - (clN n y : Int)
theorem ltN (n x y : Nat) : ltOf (cfN n) x y = decide (clN n x < clN n y) := by
  unfold ltOf cfN
  by_cases h : clN n x < clN n y
  · rw [decide_eq_true h]; exact decide_eq_true (by omega)
  · rw [decide_eq_false h]; exact decide_eq_false (by omega)
theorem swoN (n : Nat) : SWO (ltOf (cfN n)) where
  irrefl x := by rw [ltN]; simp
  trans x y z h1 h2 := by rw [ltN] at *; simp at *; omega
  ntrans x y z h1 h2 := by rw [ltN] at *; simp at *; omega
set_option maxRecDepth 100000 in
theorem less_any (a b p q x y : Nat) (w : World) (hx : w.cell? ⟨a, p, none⟩ = some (.int .i64 (x : Nat))) (hy : w.cell? ⟨b, q, none⟩ = some (.int .i64 (y : Nat))) (h1 : x ≤ 100000) (h2 : y ≤ 100000) :
    Calls Try.prog 66 #[.pointer (some ⟨a, p, none⟩), .pointer (some ⟨b, q, none⟩)] w fun e w' => e = .returned (.int .i64 ((x : Int) - (y : Int))) ∧ ∃ q, w' = w.drewN q := by
  have hw : IntKind.i64.wrap ((x : Int) - (y : Int)) = (x : Int) - (y : Int) := wrap_small (by omega) (by omega)
  go_enter Try.func66, Try.ntmps66
  go_wp2
  go_region_held3 (fun W => W.cell? ⟨a, p, none⟩ = some (.int .i64 (x : Nat)) ∧ W.cell? ⟨b, q, none⟩ = some (.int .i64 (y : Nat))) (go_keep) (fail)
  go_wp2
  go_ret
  exact ⟨rfl, 1, rfl⟩
/-- The row behind a sort. -/
theorem OwnG.resorted {W : World} {B g n cap : Nat} {xs ys : List Nat} (h : OwnG shT 56 W B (.slice (some ⟨g, 0, none⟩) n cap) xs) (hn : xs.length = n) (hy : ys.length = n) (q : Nat) (os : Array Obj) :
    OwnG shT 56 (grow ((W.drewN q).setCells g 0 (ys.map pk)) os) B (.slice (some ⟨g, 0, none⟩) n cap) ys ∧ W.grownBy (grow ((W.drewN q).setCells g 0 (ys.map pk)) os) (some g) := by
  obtain ⟨⟨h1, h2⟩, hl, hz⟩ := h
  have hgb := gb_cells g (ys.map pk) 0 (W.drewN q)
  have hgr : ∀ b, b < ((W.drewN q).setCells g 0 (ys.map pk)).heap.size → (grow ((W.drewN q).setCells g 0 (ys.map pk)) os).heap[b]? = ((W.drewN q).setCells g 0 (ys.map pk)).heap[b]? := fun b hb => by
    show (((W.drewN q).setCells g 0 (ys.map pk)).heap ++ os)[b]? = _
    rw [Array.getElem?_append_left hb]
  refine ⟨⟨⟨by rw [flat_length], ?_⟩, by omega, fun _ _ => trivial⟩, ⟨hgb.os, hgb.tape, hgb.output, ?_, fun b hb hn => ?_⟩⟩
  · rcases h2 with ⟨e, _⟩ | ⟨g', cap', cur, e, hg, hh, hc, hm, hs, ht⟩
    · cases e
    · simp at e
      obtain ⟨rfl, e2, rfl⟩ := e
      have hsz : cur.size = cap * 1 := hs
      have hh2 := heap_setCells g 56 (ys.map pk) cur 0 (W.drewN q) hh
      have hlt : g < ((W.drewN q).setCells g 0 (ys.map pk)).heap.size := by
        rcases Nat.lt_or_ge g ((W.drewN q).setCells g 0 (ys.map pk)).heap.size with k | k
        · exact k
        · rw [Array.getElem?_eq_none k] at hh2; cases hh2
      refine .inr ⟨g, cap, _, by rw [hy], hg, (hgr g hlt).trans hh2, by omega, hm, by rw [csSet_size]; exact hs, ?_⟩
      rw [hy, flatT]
      apply List.ext_getElem?
      intro k
      rw [List.getElem?_take]
      by_cases hk : k < n * shT.n
      · have hk1 : k < n := by have : n * shT.n = n * 1 := rfl; omega
        rw [if_pos hk, Array.getElem?_toList, csSet_get _ _ _ _ (by rw [List.length_map]; omega), if_pos (by rw [List.length_map]; omega), Nat.sub_zero]
      · have hk1 : ¬ k < n := by have : n * shT.n = n * 1 := rfl; omega
        rw [if_neg hk, List.getElem?_eq_none (by rw [List.length_map]; omega)]
  · have := hgb.size
    show W.heap.size ≤ (((W.drewN q).setCells g 0 (ys.map pk)).heap ++ os).size
    rw [Array.size_append]
    have h3 : W.heap.size ≤ ((W.drewN q).setCells g 0 (ys.map pk)).heap.size := this
    omega
  · have h3 : b < ((W.drewN q).setCells g 0 (ys.map pk)).heap.size := Nat.lt_of_lt_of_le hb hgb.size
    rw [hgr b h3]
    exact hgb.block b hb hn
theorem sortT_any (n B g cap hb : Nat) (tb : Nat → Nat) (l : List Nat) (w : World) (hT : ∀ x, In n x → w.cell? ⟨tb x, 0, none⟩ = some (.int .i64 (x : Nat)) ∧ tb x ≠ g ∧ tb x < w.heap.size) (hB : w.cell? ⟨hb, 1, none⟩ = some (.int .i64 (n : Nat)) ∧ hb ≠ g ∧ hb < w.heap.size) (hl : ∀ x ∈ l, In n x) (hn : n ≤ 100000) (hO : OwnG shT 56 w B (.slice (some ⟨g, 0, none⟩) l.length cap) (l.map tb)) :
    Calls Try.prog 65 #[.slice (some ⟨g, 0, none⟩) l.length cap, .func (.func 66) #[] #[]] w fun e w' => e = .returned (.tuple #[]) ∧ ∃ l' : List Nat, l'.Perm l ∧ l'.Pairwise (· ≤ ·) ∧ OwnG shT 56 w' B (.slice (some ⟨g, 0, none⟩) l.length cap) (l'.map tb) ∧ w.grownBy w' (some g) := by
  have eg : ∀ args w, (callFunc 66 args).run Try.prog w = .ok (.enter 66 args) w := enters_of Try.func66 (by kernel_rfl) rfl
  have hgl := (hO.lt g rfl).2
  have hlm := hO.2.1
  rw [List.length_map] at hlm
  have hH : Holds (fun x => Value.pointer (some (adN n hb tb x))) w g 0 l.toArray := by
    intro j hj
    have hj2 : j < l.length := by simpa using hj
    have h1 := hO.cell j (by rw [List.length_map]; exact hj2) 0 (by decide)
    have e : j * shT.n + 0 = j := by show j * 1 + 0 = j; omega
    rw [e, List.getElem_map] at h1
    refine ⟨?_, by rw [Nat.zero_add]; exact hO.frozen j⟩
    have e3 : l.toArray[j]! = l[j] := by simp [hj2]
    rw [Nat.zero_add, e3]
    show _ = some (Value.pointer (some (adN n hb tb l[j])))
    rw [adN_in (hl _ (List.getElem_mem hj2))]
    exact h1
  have hcmp : CmpReads Try.prog 66 #[] (fun x => Value.pointer (some (adN n hb tb x))) (cfN n) g 0 l.toArray.size w := by
    intro m os dk hd x y
    have hc : ∀ z, ∃ b o, adN n hb tb z = ⟨b, o, none⟩ ∧ (sortWorld (fun x => Value.pointer (some (adN n hb tb x))) w g 0 m dk os).cell? ⟨b, o, none⟩ = some (.int .i64 (clN n z : Nat)) := fun z => by
      obtain ⟨b, o, e1, e2, e3, e4⟩ : ∃ b o, adN n hb tb z = ⟨b, o, none⟩ ∧ w.cell? ⟨b, o, none⟩ = some (.int .i64 (clN n z : Nat)) ∧ b ≠ g ∧ b < w.heap.size := by
        unfold adN clN
        by_cases hz : 1 ≤ z ∧ z ≤ n
        · rw [if_pos hz, if_pos hz]; exact ⟨_, _, rfl, hT z hz⟩
        · rw [if_neg hz, if_neg hz]; exact ⟨_, _, rfl, hB⟩
      refine ⟨b, o, e1, ?_⟩
      unfold sortWorld
      rw [cell?_grow _ _ _ (by rw [size_putRow]; exact e4), cell?_putRow_other _ _ _ _ _ _ (.inl e3)]
      exact e2
    obtain ⟨b1, o1, a1, a2⟩ := hc x
    obtain ⟨b2, o2, a3, a4⟩ := hc y
    have := less_any b1 b2 o1 o2 _ _ _ a2 a4 (Nat.le_trans (clN_le n x) hn) (Nat.le_trans (clN_le n y) hn)
    rw [← a1, ← a3] at this
    exact this
  have hS := Any.slices_SortFunc Try.laysSort (fun x => Value.pointer (some (adN n hb tb x))) (fun _ => rfl) (cfN n) (swoN n) 66 #[] g 0 cap l.toArray w eg hcmp.lays hH hgl (by simp; omega)
  have hsz : l.toArray.size = l.length := by simp
  rw [hsz] at hS
  refine Calls.mono hS ?_
  rintro e w' ⟨rfl, d', q, os, hp, hs, rfl⟩
  obtain ⟨hp1, _, hp3⟩ := hp
  have hd : d'.size = l.length := by rw [hp1, hsz]
  have hpl : d'.toList.Perm l := by
    have e1 : d'.extract 0 l.length = d' := by rw [← hd]; simp
    have e2 : l.toArray.extract 0 l.length = l.toArray := by simp
    rw [e1, e2] at hp3
    exact hp3
  have hin : ∀ x ∈ d'.toList, In n x := fun x hx => hl x (hpl.mem_iff.1 hx)
  refine ⟨rfl, d'.toList, hpl, ?_, ?_⟩
  · rw [List.pairwise_iff_getElem]
    intro i j hi hj hij
    have hi2 : i < d'.size := by simpa using hi
    have hj2 : j < d'.size := by simpa using hj
    have h1 := hs i j (Nat.zero_le _) hij (by omega)
    rw [ltN, getElem!_pos d' j hj2, getElem!_pos d' i hi2] at h1
    have a1 := clN_in (hin _ (List.getElem_mem hi))
    have a2 := clN_in (hin _ (List.getElem_mem hj))
    simp only [Array.getElem_toList] at a1 a2 ⊢
    rw [a1, a2] at h1
    simpa using h1
  · have e1 : sortWorld (fun x => Value.pointer (some (adN n hb tb x))) w g 0 q d' os = grow ((w.drewN q).setCells g 0 ((d'.toList.map tb).map pk)) os := by
      have h5 := Lib.sorted_world (fun x => Value.pointer (some (adN n hb tb x))) w g 0 q l.toArray d'.toList os hH (by simpa using hd)
      rw [show d'.toList.toArray = d' by simp] at h5
      unfold sortWorld
      rw [h5, List.map_map]
      congr 2
      apply List.map_congr_left
      intro x hx
      show Value.pointer (some (adN n hb tb x)) = pk (tb x)
      rw [adN_in (hin x hx)]
      rfl
    rw [e1]
    exact hO.resorted (by simp) (by simp [hd]) q os
end Go.Proofs.Ytjnalkeopehlbaa
