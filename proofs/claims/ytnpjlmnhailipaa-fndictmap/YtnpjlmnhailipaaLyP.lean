import Derived.Test.YtnpjlmnhailipaaLyR
import Derived.Laws.CopyOwn
import Derived.Deep.RegionLaw
namespace Go.Proofs.Ytnpjlmnhailipaa
open Go.RowKit
set_option linter.unusedVariables false
set_option linter.unusedSimpArgs false

theorem and32 (n : Nat) (h : n < 4294967296) : bits .and .u64 (n : Int) 4294967295 = n := by
  rw [u64_and _ _ (by omega) (by omega) (by omega) (by omega), show ((4294967295 : Int).toNat : Nat) = 2 ^ 32 - 1 from by decide, Nat.and_two_pow_sub_one_eq_mod, Int.toNat_natCast, Nat.mod_eq_of_lt (by omega)]

theorem mul64_one (n : Nat) (w : World) (h : n ≤ 16777216) : Calls Try.prog 94 #[.int .u64 1, .int .u64 n] w fun e w' => e = .returned (.tuple #[.int .u64 0, .int .u64 n]) ∧ w' = w := by
  have h1 := and32 n (by omega)
  have h2 := and32 1 (by omega)
  have h3 : (n : Int) / 4294967296 = 0 := by omega
  have h4 := and32 0 (by omega)
  simp only [Int.natCast_zero] at h4
  rw [show ((1 : Nat) : Int) = 1 from rfl] at h2
  go_enter Try.func94, Try.ntmps94
  go_wp2
  exact bodyPost_ret (v := .tuple #[.int .u64 0, .int .u64 n]) (by simp [results, Try.results94, go_sem]) rfl ⟨rfl, rfl⟩

theorem mul_one' (n : Nat) (w : World) (h : n ≤ 16777216) : Calls Try.prog 90 #[.int .u64 1, .int .u64 n] w fun e w' => e = .returned (.tuple #[.int .u64 0, .int .u64 n]) ∧ w' = w := by
  have HM := fun W => mul64_one n W h
  go_enter Try.func90, Try.ntmps90
  go_wp2_with (go_at_call 94; refine (HM _).mono ?_; rintro e w2 ⟨rfl, rfl⟩)
  exact bodyPost_ret (v := .tuple #[.int .u64 0, .int .u64 n]) (by simp [results, Try.results90, go_sem]) rfl ⟨rfl, rfl⟩

theorem Own.toRow {w : World} {B g n : Nat} {zs : List Int} (h : Own w B (.slice (some ⟨g, 0, none⟩) n n) zs) : w.heap[g]? = some (.cells (zs.map (Value.int .i64)).toArray 2 (0, 0)) := by
  obtain rfl := h.len
  rcases h.1.2 with ⟨h', _⟩ | ⟨g', cap', cur, h', hb, hg, hnc, hcm, hcs, htake⟩
  · cases h'
  · simp only [Value.slice.injEq, Option.some.injEq, Addr.mk.injEq, and_true, true_and] at h'
    obtain ⟨rfl, rfl⟩ := h'
    rw [hg]
    have : cur.toList = zs.map (Value.int .i64) := by rw [← htake, List.take_of_length_le (by simp; omega)]
    rw [← this]
theorem Own.ofRow {w : World} {B g : Nat} {zs : List Int} (h : w.heap[g]? = some (.cells (zs.map (Value.int .i64)).toArray 2 (0, 0))) (hB : B ≤ g) (hl : zs.length ≤ 16777216) (hz : Limbs zs) : Own w B (.slice (some ⟨g, 0, none⟩) zs.length zs.length) zs :=
  ⟨⟨by simp, .inr ⟨g, zs.length, _, rfl, hB, h, Nat.le_refl _, by unfold maxLen; omega, by simp, by rw [List.take_of_length_le (by simp)]⟩⟩, hl, hz⟩

/-- The row in the making: k of n. -/
def fillK (n k : Nat) : List Int := List.replicate k (-1) ++ List.replicate (n - k) 0
theorem fillK_length {n k : Nat} (h : k ≤ n) : (fillK n k).length = n := by simp [fillK]; omega
theorem fillK_limbs (n k : Nat) : Limbs (fillK n k) := by
  intro z hz
  simp [fillK] at hz
  omega
theorem fillK_splice {n k c : Nat} (h : k + c ≤ n) : splice ((fillK n k).map (Value.int .i64)) k ((List.replicate c (-1 : Int)).map (Value.int .i64)) = (fillK n (k + c)).map (Value.int .i64) := by
  simp only [splice, fillK, List.map_append, List.map_replicate, List.length_replicate]
  rw [List.take_left' (by simp), List.drop_append, List.drop_of_length_le (by simp), List.nil_append, List.length_replicate, List.drop_replicate, ← List.append_assoc, List.replicate_append_replicate, show n - k - (k + c - k) = n - (k + c) by omega]

theorem src_one {w : World} {b off : Nat} (c : w.cell? ⟨b, off, none⟩ = some (.int .i64 (-1))) : ∀ (j : Nat) (v : Value), ((List.replicate 1 (-1 : Int)).map (Value.int .i64))[j]? = some v → w.cell? ((⟨b, off, none⟩ : Addr).add j) = some v := by
  intro j v hj
  have h0 : j = 0 := by
    rcases Nat.lt_or_ge j 1 with h | h
    · omega
    · rw [List.getElem?_eq_none (by simpa using h)] at hj; cases hj
  subst h0
  simp at hj
  subst hj
  exact c
theorem src_many {w : World} {B g n k c : Nat} (hO : Own w B (.slice (some ⟨g, 0, none⟩) n n) (fillK n k)) (hk : k ≤ n) (hc : c ≤ k) : ∀ (j : Nat) (v : Value), ((List.replicate c (-1 : Int)).map (Value.int .i64))[j]? = some v → w.cell? ((⟨g, 0, none⟩ : Addr).add j) = some v := by
  intro j v hj
  have h0 : j < c := by
    rcases Nat.lt_or_ge j c with h | h
    · exact h
    · rw [List.getElem?_eq_none (by simpa using h)] at hj; cases hj
  simp [List.getElem?_replicate, h0] at hj
  subst hj
  have e : (⟨g, 0, none⟩ : Addr).add j = ⟨g, j, none⟩ := by unfold Addr.add; split <;> simp_all
  rw [e, hO.cell j (by rw [fillK_length hk]; omega)]
  simp [fillK, List.getD, List.getElem?_append_left, show j < k by omega]

set_option maxRecDepth 100000 in
set_option maxHeartbeats 1000000 in
theorem repeat_any (v : Value) (n : Nat) (w : World) (h : n ≤ 65536) (h1 : 0 < n) (hr : Rd w v [-1]) :
    Calls Try.prog 85 #[v, .int .i64 n] w fun e w' => e = .returned (.slice (some ⟨w.heap.size, 0, none⟩) n n) ∧ Own w' w.heap.size (.slice (some ⟨w.heap.size, 0, none⟩) n n) (List.replicate n (-1)) ∧ Below w.heap.size w w' := by
  have HM := fun W => mul_one' n W (by omega)
  obtain ⟨i0, hi, hz0, hz1, hz2⟩ := info_parts Try.info2
  have hszm : (Try.prog.info? 2).map (·.size) = some 1 := by rw [hi]; simp [hz1]
  obtain ⟨a, cap, rfl, hl, hz, hn0, hc⟩ := hr
  simp only [List.length_singleton] at *
  obtain ⟨b, off, rfl, hb, hcell⟩ := hc (by omega)
  have c0 := hcell 0 (by omega)
  simp at c0
  have HSP := fillK_splice (n := n) (k := 0) (c := 1) (by omega)
  have hg : w.heap.size = w.heap.size := rfl
  go_enter Try.func85, Try.ntmps85
  go_wp2_with (first | (go_at_call 90; refine (HM _).mono ?_; rintro e w2 ⟨rfl, hw2⟩; obtain rfl : w = w2 := hw2.symm) | (at_make; refine wpList_make_full _ rfl _ _ 22 rfl w.heap.size 2 i0 (.int .i64 0) 1 Try.underlying22 hi hz0 hz1 .i64 .i64 _ _ n rfl rfl (by go_num) (by go_num) (by rw [hz2]; omega) (by unfold maxLen; omega) (by omega) ?_; intro w1 hown hgrow; have hO1 := Own.made (by omega) hown; have hr1 := hO1.toRow; rw [show List.replicate n (0 : Int) = fillK n 0 by simp [fillK]] at hr1; have hB1 := (Below.refl w.heap.size _).grown hgrow (by omega) (by intro k h; cases h); have c1 := (hB1.cell (p := ⟨b, off, none⟩) (by omega)).trans c0; clear hown hgrow hO1) | (refine wpList_copy_splice rfl (.tmp 31) (.tmp 32) 22 22 rfl 2 Try.underlying22 hszm _ _ n n 1 cap rfl rfl w.heap.size 0 ((fillK n 0).map (Value.int .i64)) 2 hr1 ((List.replicate 1 (-1 : Int)).map (Value.int .i64)) (by simp [Nat.min_def]; omega) (fun _ => ⟨rfl, _, rfl, src_one c1⟩) (by simp [fillK]; omega) (by simp [Value.oneCell']) w.heap.size w1 (Below.refl _ _) (Nat.le_refl _) ?_; intro w3 HG3 hB3))
  have hO3 : Own w3 w.heap.size (.slice (some ⟨w.heap.size, 0, none⟩) n n) (fillK n 1) := by
    have h := HG3.out
    rw [HSP] at h
    have := Own.ofRow (B := w.heap.size) h (Nat.le_refl _) (by rw [fillK_length (by omega)]; omega) (fillK_limbs _ _)
    rw [fillK_length (by omega)] at this; exact this
  have hW3 := hB1.trans (hB3.mono (Nat.le_refl _))
  clear HG3 hB3 HSP hr1 hB1 HM c0 c1 hcell hc
  go_loopw [8] (fun q wr => ∃ k : Nat, 1 ≤ k ∧ k ≤ n ∧ q = .int .i64 k ∧ Own wr w.heap.size (.slice (some ⟨w.heap.size, 0, none⟩) n n) (fillK n k) ∧ Below w.heap.size w wr) (fun q _ => n - (intOf q).toNat)
  case atStart => exact ⟨1, Nat.le_refl _, h1, rfl, hO3, hW3⟩
  case round =>
    obtain ⟨k, hk1, hkn, rfl, hOr, hBr⟩ := hrel
    clear hO3 hW3
    by_cases hlt : k < n
    · obtain ⟨c, hc⟩ : ∃ c, c = min k (n - k) := ⟨_, rfl⟩
      have hrow := hOr.drew.toRow
      have hsrc := src_many hOr.drew hkn (c := c) (by omega)
      obtain ⟨w4, hrun, hO4, hB4⟩ : ∃ w4, (Builtin.copy_ #[22, 22] 3 #[.slice (some ⟨w.heap.size, k, none⟩) (n - k) (n - k), .slice (some ⟨w.heap.size, 0, none⟩) k n]).run Try.prog wr.drew = .ok (.int .i64 (c : Int)) w4 ∧ Own w4 w.heap.size (.slice (some ⟨w.heap.size, 0, none⟩) n n) (fillK n (k + c)) ∧ Below w.heap.size w w4 := by
        have hfl : k + ((List.replicate c (-1 : Int)).map (Value.int .i64)).length ≤ (((fillK n k).map (Value.int .i64)).toArray).size := by
          simp [fillK]; omega
        have hr := run_copy_row (P := Try.prog) wr.drew 22 22 3 2 w.heap.size k (n - k) (n - k) ⟨w.heap.size, 0, none⟩ k n _ 2 ((List.replicate c (-1 : Int)).map (Value.int .i64)) Try.underlying22 hszm hrow (by simp [hc]) hsrc hfl (by intro v hv; simp at hv; rw [hv.2]; rfl)
        refine ⟨_, by simpa [goInt] using hr, ?_, below_setRow hBr.drew (Nat.le_refl _) _⟩
        have h4 := setRow_heap wr.drew w.heap.size _ (((fillK n (k + c)).map (Value.int .i64)).toArray) 2 _ hrow
        have := Own.ofRow (B := w.heap.size) h4 (Nat.le_refl _) (by rw [fillK_length (by omega)]; omega) (fillK_limbs _ _)
        rw [fillK_length (by omega)] at this
        have e := fillK_splice (n := n) (k := k) (c := c) (by omega)
        unfold splice at e
        simp only [List.map_replicate, List.length_replicate, List.length_map] at e ⊢
        rw [e]
        exact this
      have hnk : ¬ n = k := by omega
      have hc1 : 1 ≤ c := by omega
      have hc2 : k + c ≤ n := by omega
      clear hrow hsrc hc
      go_wp2
      go_region
      all_goals
        go_wp2
        go_roundw
        case rel => exact ⟨k + c, by omega, hc2, by go_num, hO4, hB4⟩
        case measure => simp [intOf]; omega
    · obtain rfl : k = n := by omega
      rw [show fillK k k = List.replicate k (-1) by simp [fillK]] at hOr
      go_wp2
      go_ret
      exact ⟨rfl, hOr, hBr⟩
end Go.Proofs.Ytnpjlmnhailipaa
