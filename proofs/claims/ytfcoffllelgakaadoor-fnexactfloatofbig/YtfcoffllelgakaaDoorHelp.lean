import Derived.Test.YtfcoffllelgakaaDoorBase
namespace Go.Proofs.YtfcoffllelgakaaDoor
open Go.RowKit
set_option linter.unusedVariables false
set_option linter.unusedSimpArgs false

theorem szs_any (a : Option Addr) (len cap : Nat) (left : Int) (w : World) (hl : len ≤ 9223372036854775807) (h0 : 0 ≤ left) (h1 : left ≤ 1048576) :
    Calls Tryd.prog 22 #[.slice a len cap, .int .i64 left] w fun e w' => e = .returned (.int .i64 (if left < len then -1 else left - len)) ∧ w' = w := by
  by_cases h : left < len
  · go_enter Tryd.func22, Tryd.ntmps22
    go_wp2
    go_ret
    exact ⟨by simp [h], rfl⟩
  · go_enter Tryd.func22, Tryd.ntmps22
    go_wp2
    go_ret
    exact ⟨by simp [h], rfl⟩

theorem szBig_any (neg : Bool) (a : Option Addr) (len cap : Nat) (left : Int) (w : World) (hl : len ≤ 9223372036854775807) (h0 : 0 ≤ left) (h1 : left ≤ 1048576) :
    Calls Tryd.prog 6 #[.agg #[.bool neg, .slice a len cap], .int .i64 left] w fun e w' => e = .returned (.int .i64 (if left < len then -1 else left - len)) ∧ Below w.heap.size w w' := by
  by_cases h : left < len
  · go_enter Tryd.func6, Tryd.ntmps6
    go_wp2_with (go_at_call 22; refine (szs_any _ _ _ _ _ hl h0 h1).mono ?_; rintro e w' ⟨rfl, rfl⟩; simp only [if_pos h])
    go_ret
    exact ⟨by simp [h], (Below.refl _ _).alloc (Nat.le_refl _) _⟩
  · go_enter Tryd.func6, Tryd.ntmps6
    go_wp2_with (go_at_call 22; refine (szs_any _ _ _ _ _ hl h0 h1).mono ?_; rintro e w' ⟨rfl, rfl⟩; simp only [if_neg h])
    go_ret
    exact ⟨by simp [h], (Below.refl _ _).alloc (Nat.le_refl _) _⟩

theorem toS_any (v : Value) (zs : List Int) (w : World) (hr : Rd w v zs) :
    Calls Tryd.prog 26 #[v] w fun e w' => ∃ a c, e = .returned (.slice a zs.length c) ∧ Own w' w.heap.size (.slice a zs.length c) zs ∧ Below w.heap.size w w' := by
  obtain ⟨a, cap, rfl, hl, hz, hn0, hc⟩ := hr
  obtain ⟨i0, hi, hz0, hz1, hz2⟩ := info_parts Tryd.info48
  go_enter Tryd.func26, Tryd.ntmps26
  go_wp2_with (at_make; refine wpList_make_full _ rfl _ _ 22 rfl w.heap.size 48 i0 (.int .u32 0) 1 Tryd.underlying22 hi hz0 hz1 .i64 .i64 _ _ zs.length rfl rfl rfl rfl (by rw [hz2]; omega) (by unfold maxLen; omega) (Nat.le_refl _) ?_; intro w1 hown hgrow)
  have hO : Own w1 w.heap.size _ (List.replicate zs.length 0) := Own.made hl hown
  have hB : Below w.heap.size w w1 := (Below.refl _ _).grown hgrow (Nat.le_refl _) (by intro k h; cases h)
  clear hown hgrow
  go_loopw [4] (fun i wr => ∃ k : Nat, k ≤ zs.length ∧ i = .int .i64 k ∧ Own wr w.heap.size (.slice (some ⟨w.heap.size, 0, none⟩) zs.length zs.length) (zs.take k ++ List.replicate (zs.length - k) 0) ∧ Below w.heap.size w wr)
    (fun i _ => zs.length - (intOf i).toNat)
  case atStart => exact ⟨0, Nat.zero_le _, rfl, by simpa using hO, hB⟩
  case round =>
    obtain ⟨k, hk, rfl, hOr, hBr⟩ := hrel
    clear hO hB
    by_cases hlt : k < zs.length
    · obtain ⟨b, off, rfl, hb, hcell⟩ := hc (by omega)
      have hce : wr.cell? ⟨b, off + k, none⟩ = some (.int .u32 (zs.getD k 0)) := (hBr.cell (p := ⟨b, off + k, none⟩) hb).trans (hcell k hlt)
      obtain ⟨u, hu⟩ : ∃ u, wr.cell? ⟨w.heap.size, k, none⟩ = some u := ⟨_, hOr.cell k (by simp; omega)⟩
      have hfz := hOr.frozen k
      have hzk := hz.get k
      go_wp2
      go_roundw
      case rel =>
        refine ⟨k + 1, by omega, by go_num, ?_, hBr.setCell (Nat.le_refl _) _⟩
        have := hOr.store k hzk.1 hzk.2
        rw [set_take_replicate zs _ k rfl hlt] at this
        simpa [List.getD, hlt] using this
      case measure => simp [intOf]; omega
    · go_wp2
      go_ret
      have hk' : k = zs.length := by omega
      subst hk'
      exact ⟨_, _, rfl, by simpa using hOr, hBr⟩

theorem toBig_any (neg : Bool) (v : Value) (zs : List Int) (w : World) (hr : Rd w v zs) :
    Calls Tryd.prog 8 #[.agg #[.bool neg, v]] w fun e w' => ∃ a c, e = .returned (.agg #[.bool neg, .slice a zs.length c]) ∧ Own w' w.heap.size (.slice a zs.length c) zs ∧ Below w.heap.size w w' := by
  have hr' := hr
  obtain ⟨a, cap, rfl, hl, hz, hn0, hc⟩ := hr
  go_enter Tryd.func8, Tryd.ntmps8
  go_wp2_with (go_at_call 26; refine (toS_any _ zs _ (((hr'.alloc _).alloc _).alloc _)).mono ?_; rintro e w1 ⟨a1, c1, rfl, hO, hB⟩; obtain ⟨hc1, hf1⟩ := bcell hB; have hz1 : w.heap.size + 2 < w1.heap.size := (by have := hB.size; simp at this; omega))
  refine bodyPost_ret (v := .agg #[.bool neg, .slice a1 zs.length c1]) (by simp [results, Tryd.results8, go_sem, hc1, hz1]) rfl ⟨a1, c1, rfl, ?_, ?_⟩
  · exact (((hO.setBelow (by simp) _).setBelow (by simp) _).setBelow (by simp) _).mono (by simp; omega)
  · exact (((below_of_alloc (below_of_alloc (below_of_alloc hB))).setCell (by simp; omega) _).setCell (by simp) _).setCell (by simp) _

theorem eqS_any (v u : Value) (xs ys : List Int) (w : World) (hx : Rd w v xs) (hy : Rd w u ys) :
    Calls Tryd.prog 30 #[v, u] w fun e w' => e = .returned (.bool (decide (xs = ys))) ∧ Below w.heap.size w w' := by
  obtain ⟨a, cap, rfl, hlx, hzx, hnx, hcx⟩ := hx
  obtain ⟨a', cap', rfl, hly, hzy, hny, hcy⟩ := hy
  by_cases hlen : xs.length = ys.length
  · go_enter Tryd.func30, Tryd.ntmps30
    go_wp2
    go_loopw [5] (fun i wr => ∃ k : Nat, k ≤ xs.length ∧ i = .int .i64 k ∧ xs.take k = ys.take k ∧ Below w.heap.size w wr)
      (fun i _ => xs.length - (intOf i).toNat)
    case atStart => exact ⟨0, Nat.zero_le _, rfl, by simp, Below.refl _ _⟩
    case round =>
      obtain ⟨k, hk, rfl, hEq, hBr⟩ := hrel
      by_cases hlt : k < xs.length
      · obtain ⟨b, off, rfl, hb, hcell⟩ := hcx (by omega)
        obtain ⟨b', off', rfl, hb', hcell'⟩ := hcy (by omega)
        have hce : wr.cell? ⟨b, off + k, none⟩ = some (.int .u32 (xs.getD k 0)) := (hBr.cell (p := ⟨b, off + k, none⟩) hb).trans (hcell k hlt)
        have hce' : wr.cell? ⟨b', off' + k, none⟩ = some (.int .u32 (ys.getD k 0)) := (hBr.cell (p := ⟨b', off' + k, none⟩) hb').trans (hcell' k (by omega))
        have hlt' : k < ys.length := by omega
        have hA := hEq
        have HL : Hid (xs.length = ys.length) := hlen
        clear hcell hcell' hcx hcy hEq hlen
        go_wp2
        go_region
        all_goals go_wp2
        · go_ret
          have hne : (xs[k] != ys[k]) = true := by assumption
          refine ⟨?_, hBr.drew⟩
          have : xs ≠ ys := fun h => by subst h; simp at hne
          simp [this]
        · have he : (xs[k] != ys[k]) = false := by assumption
          go_roundw
          case rel =>
            refine ⟨k + 1, by omega, by go_num, ?_, hBr.drew⟩
            rw [List.take_succ_eq_append_getElem hlt, List.take_succ_eq_append_getElem hlt', hA]
            simp at he; rw [he]
          case measure => simp [intOf]; omega
      · go_wp2
        go_ret
        refine ⟨?_, hBr⟩
        rw [List.take_of_length_le (by omega), List.take_of_length_le (by omega)] at hEq
        simp [hEq]
  · have hne : ((xs.length : Int) == (ys.length : Int)) = false := by simp; omega
    go_enter Tryd.func30, Tryd.ntmps30
    go_wp2
    go_ret
    have : xs ≠ ys := fun h => hlen (by rw [h])
    exact ⟨by simp [this], Below.refl _ _⟩

theorem eqBig_any (n m : Bool) (v u : Value) (xs ys : List Int) (w : World) (hx : Rd w v xs) (hy : Rd w u ys) :
    Calls Tryd.prog 10 #[.agg #[.bool n, v], .agg #[.bool m, u]] w fun e w' => e = .returned (.bool (decide (n = m ∧ xs = ys))) ∧ Below w.heap.size w w' := by
  have hx' := hx
  have hy' := hy
  obtain ⟨a, cap, rfl, hlx, hzx, hnx, hcx⟩ := hx
  obtain ⟨a', cap', rfl, hly, hzy, hny, hcy⟩ := hy
  by_cases hn : n = m
  · subst hn
    by_cases he : xs = ys
    · have HE : Hid (xs = ys) := he
      have hq : ∀ W, Rd W (.slice a xs.length cap) xs → Rd W (.slice a' ys.length cap') ys → Calls Tryd.prog 30 #[.slice a xs.length cap, .slice a' ys.length cap'] W fun e w' => e = .returned (.bool true) ∧ Below W.heap.size W w' := fun W h1 h2 => (eqS_any _ _ xs ys W h1 h2).mono fun e w' h => by rw [decide_eq_true he] at h; exact h
      clear he
      go_enter Tryd.func10, Tryd.ntmps10
      go_wp2_with (go_at_call 30; refine (hq _ ((hx'.alloc _).alloc _) ((hy'.alloc _).alloc _)).mono ?_; rintro e w1 ⟨rfl, hB⟩)
      go_ret
      exact ⟨by simp [show _ from HE.out], below_of_alloc (below_of_alloc hB)⟩
    · have HE : Hid (¬ xs = ys) := he
      have hq : ∀ W, Rd W (.slice a xs.length cap) xs → Rd W (.slice a' ys.length cap') ys → Calls Tryd.prog 30 #[.slice a xs.length cap, .slice a' ys.length cap'] W fun e w' => e = .returned (.bool false) ∧ Below W.heap.size W w' := fun W h1 h2 => (eqS_any _ _ xs ys W h1 h2).mono fun e w' h => by rw [decide_eq_false he] at h; exact h
      clear he
      go_enter Tryd.func10, Tryd.ntmps10
      go_wp2_with (go_at_call 30; refine (hq _ ((hx'.alloc _).alloc _) ((hy'.alloc _).alloc _)).mono ?_; rintro e w1 ⟨rfl, hB⟩)
      go_ret
      exact ⟨by simp [show _ from HE.out], below_of_alloc (below_of_alloc hB)⟩
  · have hne : (n == m) = false := by cases n <;> cases m <;> simp_all
    go_enter Tryd.func10, Tryd.ntmps10
    go_wp2_with fail
    go_ret
    exact ⟨by rw [decide_eq_false (fun h => hn h.1)]; rfl, (((Below.refl _ _).alloc (Nat.le_refl _) _).alloc (by simp) _)⟩

theorem eqBig_same (n : Bool) (v u : Value) (xs : List Int) (w : World) (hx : Rd w v xs) (hy : Rd w u xs) :
    Calls Tryd.prog 10 #[.agg #[.bool n, v], .agg #[.bool n, u]] w fun e w' => e = .returned (.bool true) ∧ Below w.heap.size w w' :=
  (eqBig_any n n v u xs xs w hx hy).mono fun e w' h => by rw [decide_eq_true ⟨rfl, rfl⟩] at h; exact h

/-- k0, k0 + 1, .. : n numbers. -/
def marks (k0 : Int) (n : Nat) : List Int := (List.range n).map fun (i : Nat) => k0 + (i : Int)
theorem marks_length (k0 : Int) (n : Nat) : (marks k0 n).length = n := by simp [marks]
theorem marks_getD (k0 : Int) (n k : Nat) (h : k < n) : (marks k0 n).getD k 0 = k0 + k := by simp [marks, List.getD, h]
theorem marks_set (k0 : Int) (zs : List Int) (k : Nat) (h : k < zs.length) : (marks k0 k ++ zs.drop k).set k (k0 + k) = marks k0 (k + 1) ++ zs.drop (k + 1) := by
  have e : zs.drop k = zs[k] :: zs.drop (k + 1) := List.drop_eq_getElem_cons h
  rw [e, List.set_append_right _ _ (by simp [marks_length]), marks_length, Nat.sub_self, List.set_cons_zero]
  simp only [marks, List.range_succ, List.map_append, List.append_assoc, List.map_cons, List.map_nil, List.singleton_append]
theorem Limbs.marks {k0 : Int} {n : Nat} (h0 : 0 ≤ k0) (h1 : k0 + n ≤ 4294967296) : Limbs (marks k0 n) := fun z hz => by
  simp [Go.Proofs.YtfcoffllelgakaaDoor.marks] at hz
  obtain ⟨i, hi, rfl⟩ := hz
  omega

end Go.Proofs.YtfcoffllelgakaaDoor
