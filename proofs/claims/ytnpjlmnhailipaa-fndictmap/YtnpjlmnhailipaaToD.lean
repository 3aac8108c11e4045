import Derived.Test.YtnpjlmnhailipaaNdI
namespace Go.Proofs.Ytnpjlmnhailipaa
open Go.RowKit Go.Maps
set_option linter.unusedVariables false
set_option linter.unusedSimpArgs false

theorem toS_any (v : Value) (zs : List Int) (w : World) (hr : Rd w v zs) :
    Calls Try.prog 49 #[v] w fun e w' => ∃ a c, e = .returned (.slice a zs.length c) ∧ Own w' w.heap.size (.slice a zs.length c) zs ∧ Below w.heap.size w w' := by
  obtain ⟨a, cap, rfl, hl, hz, hn0, hc⟩ := hr
  obtain ⟨i0, hi, hz0, hz1, hz2⟩ := info_parts Try.info2
  go_enter Try.func49, Try.ntmps49
  go_wp2_with (at_make; refine wpList_make_full _ rfl _ _ 22 rfl w.heap.size 2 i0 (.int .i64 0) 1 Try.underlying22 hi hz0 hz1 .i64 .i64 _ _ zs.length rfl rfl rfl rfl (by rw [hz2]; omega) (by unfold maxLen; omega) (Nat.le_refl _) ?_; intro w1 hown hgrow)
  have hO : Own w1 w.heap.size _ (List.replicate zs.length 0) := Own.made hl hown
  have hB : Below w.heap.size w w1 := (Below.refl _ _).grown hgrow (Nat.le_refl _) (by intro k h; cases h)
  clear hown hgrow
  go_loopw [4] (fun i wr => ∃ k : Nat, k ≤ zs.length ∧ i = .int .i64 k ∧ Own wr w.heap.size (.slice (some ⟨w.heap.size, 0, none⟩) zs.length zs.length) (zs.take k ++ List.replicate (zs.length - k) 0) ∧ Below w.heap.size w wr)
    (fun i _ => zs.length - (intOf i).toNat)
  case atStart => exact ⟨0, Nat.zero_le _, rfl, by simpa using hO, hB⟩
  case round =>
    obtain ⟨k, hk, rfl, hOr, hBr⟩ := hrel
    clear hO hB
    by_cases hlt : k < zs.length
    · obtain ⟨b, off, rfl, hb, hcell⟩ := hc (by omega)
      have hce : wr.cell? ⟨b, off + k, none⟩ = some (.int .i64 (zs.getD k 0)) := (hBr.cell (p := ⟨b, off + k, none⟩) hb).trans (hcell k hlt)
      obtain ⟨u, hu⟩ : ∃ u, wr.cell? ⟨w.heap.size, k, none⟩ = some u := ⟨_, hOr.cell k (by simp; omega)⟩
      have hfz := hOr.frozen k
      have hzk := hz.get k
      go_wp2
      go_roundw
      case rel =>
        refine ⟨k + 1, by omega, by go_num, ?_, hBr.setCell (Nat.le_refl _) _⟩
        have := hOr.store k hzk.1 hzk.2
        rw [set_take_replicate zs _ k rfl hlt] at this
        simpa [List.getD, hlt] using this
      case measure => simp [intOf]; omega
    · go_wp2
      go_ret
      have hk' : k = zs.length := by omega
      subst hk'
      exact ⟨_, _, rfl, by simpa using hOr, hBr⟩


set_option maxRecDepth 100000 in
theorem toE_any (x : En) (w : World) : Calls Try.prog 69 #[x.val] w fun e w' => e = .returned x.val ∧ Below w.heap.size w w' := by
  obtain ⟨h, k, v, g⟩ := x
  simp only [En.val]
  go_enter Try.func69, Try.ntmps69
  go_wp2
  refine bodyPost_ret (v := .agg #[.int .u64 h, .int .i64 k, .int .i64 v, .bool g]) (by simp [results, Try.results69, go_sem]) rfl ⟨rfl, ?_⟩
  first
    | exact (((Below.refl _ w).alloc (Nat.le_refl _) _).alloc (by simp) _).alloc (by simp; omega) _
    | exact ((Below.refl _ w).alloc (Nat.le_refl _) _).alloc (by simp) _

def en0 : En := ⟨0, 0, 0, false⟩
theorem set_take_en (xs : List En) (k : Nat) (hk : k < xs.length) : (xs.take k ++ List.replicate (xs.length - k) en0).set k xs[k] = xs.take (k + 1) ++ List.replicate (xs.length - (k + 1)) en0 := by
  rw [List.set_append_right _ _ (by simp; omega), List.take_succ_eq_append_getElem hk]
  have e : k - (xs.take k).length = 0 := by simp; omega
  rw [e, show xs.length - k = (xs.length - (k + 1)) + 1 by omega, List.replicate_succ, List.set_cons_zero, List.append_assoc]; rfl

set_option maxRecDepth 100000 in
set_option maxHeartbeats 1000000 in
theorem toES_any (v : Value) (xs : List En) (w : World) (hr : RdE w v xs) :
    Calls Try.prog 50 #[v] w fun e w' => ∃ a c, e = .returned (.slice a xs.length c) ∧ OwnE 63 w' w.heap.size (.slice a xs.length c) xs ∧ Below w.heap.size w w' := by
  obtain ⟨a, cap, rfl, hl, hz, hn0, hc⟩ := hr
  obtain ⟨i0, hi, hz0, hz1, hz2⟩ := info_parts Try.info63
  go_enter Try.func50, Try.ntmps50
  go_wp2_with (at_make; refine wpList_make_full _ rfl _ _ 23 rfl w.heap.size 63 i0 _ 4 Try.underlying23 hi hz0 hz1 .i64 .i64 _ _ xs.length rfl rfl rfl rfl (by rw [hz2]; omega) (by unfold maxLen; omega) (Nat.le_refl _) ?_; intro w1 hown hgrow)
  have hO : OwnE 63 w1 w.heap.size (.slice (some ⟨w.heap.size, 0, none⟩) xs.length xs.length) (List.replicate xs.length en0) := by
    have hf : ∀ n, (List.replicate n en0).flatMap shE.cs = (madeCells (Value.cells (.agg #[.int .u64 0, .int .i64 0, .int .i64 0, .bool false])) (n * 4)).toList := by
      intro n
      have hlen : ((List.replicate n en0).flatMap shE.cs).length = n * 4 := by rw [flat_length, List.length_replicate]; rfl
      apply List.ext_getElem?
      intro i
      by_cases hi : i < n * 4
      · have hk : i / 4 < n := by omega
        have h1 := flat_get shE (List.replicate n en0) (i / 4) (by simpa using hk) (i % 4) (by show i % 4 < 4; omega)
        rw [show i / 4 * shE.n + i % 4 = i by show i / 4 * 4 + i % 4 = i; omega, List.getElem_replicate] at h1
        rw [h1]
        have h2 : (madeCells (Value.cells (.agg #[.int .u64 0, .int .i64 0, .int .i64 0, .bool false])) (n * 4)).toList[i]? = some ((Value.cells (.agg #[.int .u64 0, .int .i64 0, .int .i64 0, .bool false]))[i % 4]!) := by
          simp [madeCells, hi, Value.cells]
        rw [h2]
        have h4 : i % 4 < 4 := by omega
        generalize i % 4 = j at h4
        have : j = 0 ∨ j = 1 ∨ j = 2 ∨ j = 3 := by omega
        rcases this with rfl | rfl | rfl | rfl <;> rfl
      · rw [List.getElem?_eq_none (by omega), List.getElem?_eq_none (by rw [Array.length_toList, size_madeCells]; omega)]
    refine ⟨?_, by simpa using hl, fun e he => ?_⟩
    · show w1.ownsRow w.heap.size 63 4 _ (List.replicate xs.length en0).length _
      rw [hf, List.length_replicate]; exact hown
    · simp at he; rw [he.2]; exact ⟨⟨by decide, by decide⟩, ⟨by decide, by decide⟩, ⟨by decide, by decide⟩⟩
  have hB : Below w.heap.size w w1 := (Below.refl _ _).grown hgrow (Nat.le_refl _) (by intro k h; cases h)
  clear hown hgrow
  go_loopw [4] (fun i wr => ∃ k : Nat, k ≤ xs.length ∧ i = .int .i64 k ∧ OwnE 63 wr w.heap.size (.slice (some ⟨w.heap.size, 0, none⟩) xs.length xs.length) (xs.take k ++ List.replicate (xs.length - k) en0) ∧ Below w.heap.size w wr)
    (fun i _ => xs.length - (intOf i).toNat)
  case atStart => exact ⟨0, Nat.zero_le _, rfl, by simpa using hO, hB⟩
  case round =>
    obtain ⟨k, hk, rfl, hOr, hBr⟩ := hrel
    clear hO hB
    by_cases hlt : k < xs.length
    · obtain ⟨b, off, rfl, hb, hcell⟩ := hc (by omega)
      obtain ⟨d0, d1, d2, d3⟩ := RdE.at (fun k hk j hj => (hBr.cell (p := ⟨b, _, none⟩) hb).trans (hcell k hk j hj)) k hlt
      have hok := hz xs[k] (List.getElem_mem hlt)
      have hst := set_take_en xs k hlt
      have Hst : Hid _ := hst
      have hTo := fun W => toE_any xs[k] W
      have hll : k < (xs.take k ++ List.replicate (xs.length - k) en0).length := by simp; omega
      generalize (xs.take k ++ List.replicate (xs.length - k) en0) = L at *
      obtain ⟨c0, c1, c2, c3⟩ := RdE.at (off := 0) (fun k hk j hj => by rw [Nat.zero_add]; exact hOr.cell k hk j hj) k hll
      simp only [Nat.zero_add] at c0 c1 c2 c3
      have f0 := hOr.frozen (k * 4)
      have f1 := hOr.frozen (k * 4 + 1)
      have f2 := hOr.frozen (k * 4 + 2)
      have f3 := hOr.frozen (k * 4 + 3)
      generalize xs[k] = E at *
      simp only [En.val] at hTo
      clear hcell hc hst
      go_wp2_with (go_at_call 69; refine (hTo _).mono ?_; rintro e w2 ⟨rfl, hB2⟩; have hO2 := hOr.keep hB2; clear c0 c1 c2 c3 f0 f1 f2 f3; obtain ⟨c0, c1, c2, c3⟩ := RdE.at (off := 0) (fun k hk j hj => by rw [Nat.zero_add]; exact hO2.cell k hk j hj) k hll; simp only [Nat.zero_add] at c0 c1 c2 c3; have f0 := hO2.frozen (k * 4); have f1 := hO2.frozen (k * 4 + 1); have f2 := hO2.frozen (k * 4 + 2); have f3 := hO2.frozen (k * 4 + 3))
      go_roundw
      case rel =>
        have hBw := hBr.trans (hB2.mono hBr.size)
        have hsz := hBw.size
        refine ⟨k + 1, by omega, by go_num, ?_, below_set (below_set (below_set (below_set hBw hsz (Nat.le_refl _) _) (by simpa [World.setCell] using hsz) (Nat.le_refl _) _) (by simpa [World.setCell] using hsz) (Nat.le_refl _) _) (by simpa [World.setCell] using hsz) (Nat.le_refl _) _⟩
        have := OwnE.store4 hO2 k hll E hok
        rw [Hst.out] at this
        exact this
      case measure => simp [intOf]; omega
    · go_wp2
      go_ret
      have hk' : k = xs.length := by omega
      subst hk'
      exact ⟨_, _, rfl, by simpa using hOr, hBr⟩

set_option maxRecDepth 100000 in
set_option maxHeartbeats 1000000 in
theorem toD_any (vs ve : Value) (d : Dt) (w : World) (h1 : Rd w vs d.s) (h2 : RdE w ve d.e) :
    Calls Try.prog 18 #[.agg #[vs, ve, .int .i64 d.l]] w fun e w' => ∃ v, e = .returned v ∧ OwnD w' w.heap.size v d ∧ Below w.heap.size w w' := by
  obtain ⟨ds, de, dl⟩ := d
  simp only at h1 h2 ⊢
  have bX := ((Box3.new w vs ve (.int .i64 dl) 32))
  obtain ⟨a1, c1, e1⟩ : ∃ a c, vs = .slice a ds.length c := by obtain ⟨a, c, e, _⟩ := id h1; exact ⟨a, c, e⟩
  obtain ⟨a2, c2, e2⟩ := h2.form
  subst e1 e2
  have HTS := fun W h => toS_any (.slice a1 ds.length c1) ds W h
  have HTE := fun W h => toES_any (.slice a2 de.length c2) de W h
  have hW0 : Below w.heap.size w (((w.alloc (.cells #[.slice a1 ds.length c1, .slice a2 de.length c2, .int .i64 dl] 32)).alloc (.cells #[.slice none 0 0, .slice none 0 0, .int .i64 0] 25)).alloc (.cells #[.slice none 0 0, .slice none 0 0, .int .i64 0] 25)) := (((Below.refl _ w).alloc (Nat.le_refl _) _).alloc (by simp) _).alloc (by simp; omega) _
  have bA := (bX.alloc (.cells #[.slice none 0 0, .slice none 0 0, .int .i64 0] 25)).alloc (.cells #[.slice none 0 0, .slice none 0 0, .int .i64 0] 25)
  have bR := (Box3.new (w.alloc (.cells #[.slice a1 ds.length c1, .slice a2 de.length c2, .int .i64 dl] 32)) (.slice none 0 0) (.slice none 0 0) (.int .i64 0) 25).alloc (.cells #[.slice none 0 0, .slice none 0 0, .int .i64 0] 25)
  have bO := Box3.new ((w.alloc (.cells #[.slice a1 ds.length c1, .slice a2 de.length c2, .int .i64 dl] 32)).alloc (.cells #[.slice none 0 0, .slice none 0 0, .int .i64 0] 25)) (.slice none 0 0) (.slice none 0 0) (.int .i64 0) 25
  have fR : ∀ o, (((w.alloc (.cells #[.slice a1 ds.length c1, .slice a2 de.length c2, .int .i64 dl] 32)).alloc (.cells #[.slice none 0 0, .slice none 0 0, .int .i64 0] 25)).alloc (.cells #[.slice none 0 0, .slice none 0 0, .int .i64 0] 25)).frozen? ⟨w.heap.size + 1, o, none⟩ = false := fun o => by
    rw [World.frozen?_alloc_past _ _ _ (by simp)]; exact World.frozen?_alloc_at _ _ _ _ (by simp)
  have fO : ∀ o, (((w.alloc (.cells #[.slice a1 ds.length c1, .slice a2 de.length c2, .int .i64 dl] 32)).alloc (.cells #[.slice none 0 0, .slice none 0 0, .int .i64 0] 25)).alloc (.cells #[.slice none 0 0, .slice none 0 0, .int .i64 0] 25)).frozen? ⟨w.heap.size + 1 + 1, o, none⟩ = false := fun o => World.frozen?_alloc_at _ _ _ _ (by simp)
  simp only [World.size_alloc] at bR bO
  generalize hW : (((w.alloc (.cells #[.slice a1 ds.length c1, .slice a2 de.length c2, .int .i64 dl] 32)).alloc (.cells #[.slice none 0 0, .slice none 0 0, .int .i64 0] 25)).alloc (.cells #[.slice none 0 0, .slice none 0 0, .int .i64 0] 25)) = W0 at bA bR bO fR fO hW0
  obtain ⟨-, r0, r1, r2⟩ := id bA
  go_enter Try.func18, Try.ntmps18
  go_wp2_with fail
  clear r0 r1 r2
  refine (HTS _ (h1.keep hW0)).mono ?_
  rintro e w1 ⟨s1, t1, rfl, oS, hB1⟩
  have bA1 := bA.keep hB1
  have bR1 := bR.keep hB1
  have bO1 := bO.keep hB1
  have fR1 : ∀ o, w1.frozen? ⟨w.heap.size + 1, o, none⟩ = false := fun o => (hB1.frozen (p := ⟨w.heap.size + 1, o, none⟩) bR.1).trans (fR o)
  have fO1 : ∀ o, w1.frozen? ⟨w.heap.size + 1 + 1, o, none⟩ = false := fun o => (hB1.frozen (p := ⟨w.heap.size + 1 + 1, o, none⟩) bO.1).trans (fO o)
  have V1 := hW0.trans (hB1.mono hW0.size)
  have loS := oS.lt
  have hz0 := bO.1
  have bA1' := bA1.far (c := w.heap.size + 1 + 1) (o := 0) (by omega) (.slice s1 ds.length t1)
  obtain ⟨-, p0, p1, p2⟩ := id bA1
  obtain ⟨-, q0, q1, q2⟩ := id bO1
  have f0 := fO1 0
  clear bA bR bO fR fO hW
  go_wp2_with fail
  have bO2 := bO1.p0 (.slice s1 ds.length t1)
  have bR2 := bR1.far (c := w.heap.size + 1 + 1) (o := 0) (by omega) (.slice s1 ds.length t1)
  have V2 := below_set (o := 0) V1 V1.size (show w.heap.size ≤ w.heap.size + 1 + 1 by omega) (.slice s1 ds.length t1)
  have oS2 := oS.but (gb_set w1 (w.heap.size + 1 + 1) 0 (.slice s1 ds.length t1)) (.inr (fun e => by have := loS _ e; omega))
  have fR2 : ∀ o, (w1.setCell ⟨w.heap.size + 1 + 1, 0, none⟩ (.slice s1 ds.length t1)).frozen? ⟨w.heap.size + 1, o, none⟩ = false := fun o => (World.frozen?_setCell _ _ _ _).trans (fR1 o)
  have fO2 : ∀ o, (w1.setCell ⟨w.heap.size + 1 + 1, 0, none⟩ (.slice s1 ds.length t1)).frozen? ⟨w.heap.size + 1 + 1, o, none⟩ = false := fun o => (World.frozen?_setCell _ _ _ _).trans (fO1 o)
  generalize hW2 : w1.setCell ⟨w.heap.size + 1 + 1, 0, none⟩ (.slice s1 ds.length t1) = W2 at *
  refine (HTE _ (h2.keep V2)).mono ?_
  rintro e w3 ⟨s3, t3, rfl, oE, hB3⟩
  have bA3 := bA1'.keep hB3
  have bR3 := bR2.keep hB3
  have bO3 := bO2.keep hB3
  have fR3 : ∀ o, w3.frozen? ⟨w.heap.size + 1, o, none⟩ = false := fun o => (hB3.frozen (p := ⟨w.heap.size + 1, o, none⟩) bR2.1).trans (fR2 o)
  have fO3 : ∀ o, w3.frozen? ⟨w.heap.size + 1 + 1, o, none⟩ = false := fun o => (hB3.frozen (p := ⟨w.heap.size + 1 + 1, o, none⟩) bO2.1).trans (fO2 o)
  have V3 := V2.trans (hB3.mono V2.size)
  have oS3 := oS2.keep hB3
  have loE := oE.lt
  have zO := bO2.1
  have zs1 : ∀ k, (Value.slice s1 ds.length t1).ownBlock = some k → w.heap.size + 1 + 1 < k ∧ k < W2.heap.size := fun k hk => by
    have := oS2.lt k hk; omega
  clear p0 p1 p2 q0 q1 q2 f0 bA1 bR1 bO1 bA1' bR2 bO2 hW2
  obtain ⟨-, p0, p1, p2⟩ := id bA3
  obtain ⟨-, q0, q1, q2⟩ := id bO3
  obtain ⟨-, r0, r1, r2⟩ := id bR3
  have f0 := fO3 0
  have f1 := fO3 1
  have f2 := fO3 2
  have g0 := fR3 0
  have g1 := fR3 1
  have g2 := fR3 2
  have hne1 : w.heap.size ≠ w.heap.size + 1 + 1 := by omega
  have k1 := (bR3.far (c := w.heap.size + 1 + 1) (o := 1) (by omega) (.slice s3 de.length t3)).far (c := w.heap.size + 1 + 1) (o := 2) (by omega) (.int .i64 dl)
  have k2 := k1.p0 (.slice s1 ds.length t1)
  have k3 := k2.p1 (.slice s3 de.length t3)
  have k4 := k3.p2 (.int .i64 dl)
  have hz3 := V3.size
  go_wp2
  refine bodyPost_ret (v := .agg #[.slice s1 ds.length t1, .slice s3 de.length t3, .int .i64 dl]) (by simp [results, Try.results18, go_sem, k2.2.1, k3.2.2.1, k4.2.2.2]) rfl ⟨_, rfl, ⟨_, _, rfl, ?_, ?_, ?_⟩, ?_⟩
  · have hn : ∀ c, c ≤ w.heap.size + 1 + 1 → (Value.slice s1 ds.length t1).ownBlock ≠ some c := fun c hc e => by have := zs1 c e; omega
    exact ((((((oS3.but (gb_set _ _ _ _) (.inr (hn _ (by omega)))).but (gb_set _ _ _ _) (.inr (hn _ (by omega)))).but (gb_set _ _ _ _) (.inr (hn _ (by omega)))).but (gb_set _ _ _ _) (.inr (hn _ (by omega)))).but (gb_set _ _ _ _) (.inr (hn _ (by omega))))).mono (by omega)
  · have hn : ∀ c, c ≤ w.heap.size + 1 + 1 → (Value.slice s3 de.length t3).ownBlock ≠ some c := fun c hc e => by have := loE c e; omega
    exact ((((((oE.but (gb_set _ _ _ _) (.inr (hn _ (by omega)))).but (gb_set _ _ _ _) (.inr (hn _ (by omega)))).but (gb_set _ _ _ _) (.inr (hn _ (by omega)))).but (gb_set _ _ _ _) (.inr (hn _ (by omega)))).but (gb_set _ _ _ _) (.inr (hn _ (by omega))))).mono (by omega)
  · cases hb : (Value.slice s1 ds.length t1).ownBlock with
    | none => exact .inl rfl
    | some b => right; intro e; have h1 := zs1 b hb; have h2 := loE b e.symm; omega
  · exact below_set (below_set (below_set (below_set (below_set V3 hz3 (by omega) _) (by simpa [World.setCell] using hz3) (by omega) _) (by simpa [World.setCell] using hz3) (by omega) _) (by simpa [World.setCell] using hz3) (by omega) _) (by simpa [World.setCell] using hz3) (by omega) _

theorem szS_any (a : Option Addr) (n c : Nat) (left : Int) (w : World) (h : n ≤ 9223372036854775807) (h0 : 0 ≤ left) (h1 : left ≤ 1048576) :
    Calls Try.prog 45 #[.slice a n c, .int .i64 left] w fun e w' => e = .returned (.int .i64 (if left < n then -1 else left - n)) ∧ w' = w := by
  by_cases hl : left < (n : Int)
  · rw [if_pos hl]
    go_enter Try.func45, Try.ntmps45
    go_wp2
    go_ret
    exact ⟨rfl, rfl⟩
  · rw [if_neg hl]
    go_enter Try.func45, Try.ntmps45
    go_wp2
    go_ret
    exact ⟨rfl, rfl⟩
theorem szE_any (a : Option Addr) (n c : Nat) (left : Int) (w : World) (h : n ≤ 9223372036854775807) (h0 : 0 ≤ left) (h1 : left ≤ 1048576) :
    Calls Try.prog 46 #[.slice a n c, .int .i64 left] w fun e w' => e = .returned (.int .i64 (if left < n then -1 else left - n)) ∧ w' = w := by
  by_cases hl : left < (n : Int)
  · rw [if_pos hl]
    go_enter Try.func46, Try.ntmps46
    go_wp2
    go_ret
    exact ⟨rfl, rfl⟩
  · rw [if_neg hl]
    go_enter Try.func46, Try.ntmps46
    go_wp2
    go_ret
    exact ⟨rfl, rfl⟩

set_option maxRecDepth 100000 in
theorem szD_any (a1 a2 : Option Addr) (n1 c1 n2 c2 : Nat) (l : Int) (w : World) (h1 : n1 ≤ 9223372036854775807) (h2 : n2 ≤ 9223372036854775807) :
    Calls Try.prog 16 #[.agg #[.slice a1 n1 c1, .slice a2 n2 c2, .int .i64 l], .int .i64 1048576] w fun e w' => ∃ x, e = .returned (.int .i64 x) ∧ ((x = -1 ∧ 1048576 < n1 + n2) ∨ (0 ≤ x ∧ n1 + n2 ≤ 1048576)) ∧ Below w.heap.size w w' := by
  have bW := Below.three (w := w) (.slice a1 n1 c1) (.slice a2 n2 c2) (.int .i64 l) 32
  have HA := fun W => szS_any a1 n1 c1 1048576 W h1 (by omega) (by omega)
  have bX := Box3.new w (.slice a1 n1 c1) (.slice a2 n2 c2) (.int .i64 l) 32
  obtain ⟨-, k0, k1, k2⟩ := id bX
  by_cases hl : (1048576 : Int) < n1
  · simp only [if_pos hl] at HA
    go_enter Try.func16, Try.ntmps16
    go_wp2_with (go_at_call 45; refine (HA _).mono ?_; rintro e w2 ⟨rfl, rfl⟩)
    go_ret
    exact ⟨_, rfl, .inl ⟨rfl, by omega⟩, bW⟩
  · simp only [if_neg hl] at HA
    have HB := fun W => szE_any a2 n2 c2 (1048576 - (n1 : Int)) W h2 (by omega) (by omega)
    have hl0 : ¬ ((1048576 : Int) - n1 < 0) := by omega
    by_cases hl2 : (1048576 : Int) - n1 < n2
    · simp only [if_pos hl2] at HB
      go_enter Try.func16, Try.ntmps16
      go_wp2_with (first | (go_at_call 45; refine (HA _).mono ?_; rintro e w2 ⟨rfl, rfl⟩) | (go_at_call 46; refine (HB _).mono ?_; rintro e w2 ⟨rfl, rfl⟩))
      go_ret
      exact ⟨_, rfl, .inl ⟨rfl, by omega⟩, bW⟩
    · simp only [if_neg hl2] at HB
      have hl3 : ¬ ((1048576 : Int) - n1 - n2 < 0) := by omega
      go_enter Try.func16, Try.ntmps16
      go_wp2_with (first | (go_at_call 45; refine (HA _).mono ?_; rintro e w2 ⟨rfl, rfl⟩) | (go_at_call 46; refine (HB _).mono ?_; rintro e w2 ⟨rfl, rfl⟩))
      go_ret
      exact ⟨_, rfl, .inr ⟨by omega, by omega⟩, bW⟩
end Go.Proofs.Ytnpjlmnhailipaa
