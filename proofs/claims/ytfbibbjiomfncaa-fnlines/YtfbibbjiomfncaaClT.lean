import Derived.Test.YtfbibbjiomfncaaClA
namespace Go.Proofs.Ytfbibbjiomfncaa
open Go.RowKit
set_option linter.unusedVariables false
set_option linter.unusedSimpArgs false

theorem below_set {B g o : Nat} {w w1 : World} (h : Below B w w1) (hB : B ≤ w1.heap.size) (hg : B ≤ g) (u : Value) : Below B w (w1.setCell ⟨g, o, none⟩ u) :=
  h.grown (gb_set _ _ _ _) hB (fun k hk => by cases hk; exact hg)

theorem toS_any (v : Value) (zs : List Int) (w : World) (hr : Rd w v zs) :
    Calls Try.prog 65 #[v] w fun e w' => ∃ a c, e = .returned (.slice a zs.length c) ∧ Own w' w.heap.size (.slice a zs.length c) zs ∧ Below w.heap.size w w' := by
  obtain ⟨a, cap, rfl, hl, hz, hn0, hc⟩ := hr
  obtain ⟨i0, hi, hz0, hz1, hz2⟩ := info_parts Try.info2
  go_enter Try.func65, Try.ntmps65
  go_wp2_with (at_make; refine wpList_make_full _ rfl _ _ 51 rfl w.heap.size 2 i0 (.int .i64 0) 1 Try.underlying51 hi hz0 hz1 .i64 .i64 _ _ zs.length rfl rfl rfl rfl (by rw [hz2]; omega) (by unfold maxLen; omega) (Nat.le_refl _) ?_; intro w1 hown hgrow)
  have hO : Own w1 w.heap.size _ (List.replicate zs.length 0) := Own.made hl hown
  have hB : Below w.heap.size w w1 := (Below.refl _ _).grown hgrow (Nat.le_refl _) (by intro k h; cases h)
  clear hown hgrow
  go_loopw [4] (fun i wr => ∃ k : Nat, k ≤ zs.length ∧ i = .int .i64 k ∧ Own wr w.heap.size (.slice (some ⟨w.heap.size, 0, none⟩) zs.length zs.length) (zs.take k ++ List.replicate (zs.length - k) 0) ∧ Below w.heap.size w wr)
    (fun i _ => zs.length - (intOf i).toNat)
  case atStart => exact ⟨0, Nat.zero_le _, rfl, by simpa using hO, hB⟩
  case round =>
    obtain ⟨k, hk, rfl, hOr, hBr⟩ := hrel
    clear hO hB
    by_cases hlt : k < zs.length
    · obtain ⟨b, off, rfl, hb, hcell⟩ := hc (by omega)
      have hce : wr.cell? ⟨b, off + k, none⟩ = some (.int .i64 (zs.getD k 0)) := (hBr.cell (p := ⟨b, off + k, none⟩) hb).trans (hcell k hlt)
      obtain ⟨u, hu⟩ : ∃ u, wr.cell? ⟨w.heap.size, k, none⟩ = some u := ⟨_, hOr.cell k (by simp; omega)⟩
      have hfz := hOr.frozen k
      have hzk := hz.get k
      go_wp2
      go_roundw
      case rel =>
        refine ⟨k + 1, by omega, by go_num, ?_, hBr.setCell (Nat.le_refl _) _⟩
        have := hOr.store k hzk.1 hzk.2
        rw [set_take_replicate zs _ k rfl hlt] at this
        simpa [List.getD, hlt] using this
      case measure => simp [intOf]; omega
    · go_wp2
      go_ret
      have hk' : k = zs.length := by omega
      subst hk'
      exact ⟨_, _, rfl, by simpa using hOr, hBr⟩

set_option maxRecDepth 100000 in
theorem toA_any (x : At) (w : World) : Calls Try.prog 54 #[x.val] w fun e w' => e = .returned x.val ∧ Below w.heap.size w w' := by
  obtain ⟨h, k, v⟩ := x
  simp only [At.val]
  go_enter Try.func54, Try.ntmps54
  go_wp2
  refine bodyPost_ret (v := .agg #[.string h, .int .i64 k, .int .i64 v]) (by simp [results, Try.results54, go_sem]) rfl ⟨rfl, ?_⟩
  first
    | exact (((Below.refl _ w).alloc (Nat.le_refl _) _).alloc (by simp) _).alloc (by simp; omega) _
    | exact ((Below.refl _ w).alloc (Nat.le_refl _) _).alloc (by simp) _

theorem Try.info58 : (Try.prog.info? 58).map (fun i => (i.zero, i.size, i.bytes)) = some (some (.agg #[.string ⟨#[]⟩, .int .i64 0, .int .i64 0]), 3, 32) := by kernel_rfl
theorem Try.info54 : (Try.prog.info? 54).map (fun i => (i.zero, i.size, i.bytes)) = some (some (.agg #[.slice none 0 0, .slice none 0 0]), 2, 48) := by kernel_rfl
def at0 : At := ⟨⟨#[]⟩, 0, 0⟩
theorem set_take_g {α : Type} (z : α) (xs : List α) (k : Nat) (hk : k < xs.length) : (xs.take k ++ List.replicate (xs.length - k) z).set k xs[k] = xs.take (k + 1) ++ List.replicate (xs.length - (k + 1)) z := by
  rw [List.set_append_right _ _ (by simp; omega), List.take_succ_eq_append_getElem hk]
  have e : k - (xs.take k).length = 0 := by simp; omega
  rw [e, show xs.length - k = (xs.length - (k + 1)) + 1 by omega, List.replicate_succ, List.set_cons_zero, List.append_assoc]; rfl

/-- The cells of a row that was made. -/
theorem flat_made {α : Type} (S : Sh α) (z : α) (c : Array Value) (hc : c.toList = S.cs z) : ∀ n, (List.replicate n z).flatMap S.cs = (madeCells c (n * S.n)).toList := by
  intro n
  have hs : c.size = S.n := by rw [← Array.length_toList, hc, S.len]
  have hlen : ((List.replicate n z).flatMap S.cs).length = n * S.n := by rw [flat_length, List.length_replicate]
  have hp := S.pos
  apply List.ext_getElem?
  intro i
  by_cases hi : i < n * S.n
  · have hk : i / S.n < n := (Nat.div_lt_iff_lt_mul hp).mpr hi
    have h1 := flat_get S (List.replicate n z) (i / S.n) (by simpa using hk) (i % S.n) (Nat.mod_lt _ hp)
    rw [show i / S.n * S.n + i % S.n = i from Nat.div_add_mod' i S.n, List.getElem_replicate] at h1
    rw [h1, ← hc]
    have h2 : (madeCells c (n * S.n)).toList[i]? = some (c[i % S.n]!) := by
      simp [madeCells, hi, hs]
    rw [h2]
    have h3 : i % S.n < c.size := by rw [hs]; exact Nat.mod_lt _ hp
    simp [h3]
  · rw [List.getElem?_eq_none (by omega), List.getElem?_eq_none (by rw [Array.length_toList, size_madeCells]; omega)]

theorem OwnA.store3 {w : World} {B g n cap : Nat} {xs : List At} (h : OwnA w B (.slice (some ⟨g, 0, none⟩) n cap) xs) (k : Nat) (hk : k < xs.length) (e : At) (he : shA.ok e) :
    OwnA (((w.setCell ⟨g, k * 3, none⟩ (.string e.n)).setCell ⟨g, k * 3 + 1, none⟩ (.int .i64 e.k)).setCell ⟨g, k * 3 + 2, none⟩ (.int .i64 e.v)) B (.slice (some ⟨g, 0, none⟩) n cap) (xs.set k e) := by
  have hx := h.2.2 xs[k] (List.getElem_mem hk)
  have h1 := h.put k hk 0 (by decide) (.string e.n) ⟨e.n, xs[k].k, xs[k].v⟩ ⟨he.1, hx.2⟩ rfl
  have h2 := h1.put k (by simpa using hk) 1 (by decide) (.int .i64 e.k) ⟨e.n, e.k, xs[k].v⟩ ⟨he.1, he.2.1, hx.2.2⟩ (by simp [shA, At.cs])
  have h3 := h2.put k (by simpa using hk) 2 (by decide) (.int .i64 e.v) e he (by simp [shA, At.cs])
  simp only [List.set_set, Nat.add_zero] at h3
  exact h3

set_option maxRecDepth 100000 in
set_option maxHeartbeats 1000000 in
theorem toAS_any (v : Value) (xs : List At) (w : World) (hr : RdA w v xs) :
    Calls Try.prog 28 #[v] w fun e w' => ∃ a c, e = .returned (.slice a xs.length c) ∧ OwnA w' w.heap.size (.slice a xs.length c) xs ∧ Below w.heap.size w w' := by
  obtain ⟨a, cap, rfl, hl, hz, hn0, hc⟩ := hr
  obtain ⟨i0, hi, hz0, hz1, hz2⟩ := info_parts Try.info58
  go_enter Try.func28, Try.ntmps28
  go_wp2_with (at_make; refine wpList_make_full _ rfl _ _ 43 rfl w.heap.size 58 i0 _ 3 Try.underlying43 hi hz0 hz1 .i64 .i64 _ _ xs.length rfl rfl rfl rfl (by rw [hz2]; omega) (by unfold maxLen; omega) (Nat.le_refl _) ?_; intro w1 hown hgrow)
  have hO : OwnA w1 w.heap.size (.slice (some ⟨w.heap.size, 0, none⟩) xs.length xs.length) (List.replicate xs.length at0) := by
    refine ⟨?_, by simpa using hl, fun e he => ?_⟩
    · show w1.ownsRow w.heap.size 58 3 _ (List.replicate xs.length at0).length _
      rw [flat_made shA at0 (Value.cells (.agg #[.string ⟨#[]⟩, .int .i64 0, .int .i64 0])) rfl, List.length_replicate]; exact hown
    · simp at he; rw [he.2]; exact ⟨Nat.zero_le _, ⟨by decide, by decide⟩, ⟨by decide, by decide⟩⟩
  have hB : Below w.heap.size w w1 := (Below.refl _ _).grown hgrow (Nat.le_refl _) (by intro k h; cases h)
  clear hown hgrow
  go_loopw [4] (fun i wr => ∃ k : Nat, k ≤ xs.length ∧ i = .int .i64 k ∧ OwnA wr w.heap.size (.slice (some ⟨w.heap.size, 0, none⟩) xs.length xs.length) (xs.take k ++ List.replicate (xs.length - k) at0) ∧ Below w.heap.size w wr)
    (fun i _ => xs.length - (intOf i).toNat)
  case atStart => exact ⟨0, Nat.zero_le _, rfl, by simpa using hO, hB⟩
  case round =>
    obtain ⟨k, hk, rfl, hOr, hBr⟩ := hrel
    clear hO hB
    by_cases hlt : k < xs.length
    · obtain ⟨b, off, rfl, hb, hcell⟩ := hc (by omega)
      obtain ⟨d0, d1, d2⟩ := RdA.at (fun k hk j hj => (hBr.cell (p := ⟨b, _, none⟩) hb).trans (hcell k hk j hj)) k hlt
      have hok := hz xs[k] (List.getElem_mem hlt)
      have hst := set_take_g at0 xs k hlt
      have Hst : Hid _ := hst
      have hTo := fun W => toA_any xs[k] W
      have hll : k < (xs.take k ++ List.replicate (xs.length - k) at0).length := by simp; omega
      generalize (xs.take k ++ List.replicate (xs.length - k) at0) = L at *
      obtain ⟨c0, c1, c2⟩ := RdA.at (off := 0) (fun k hk j hj => by rw [Nat.zero_add]; exact hOr.cell k hk j hj) k hll
      simp only [Nat.zero_add] at c0 c1 c2
      have f0 := hOr.frozen (k * 3)
      have f1 := hOr.frozen (k * 3 + 1)
      have f2 := hOr.frozen (k * 3 + 2)
      generalize xs[k] = E at *
      simp only [At.val] at hTo
      clear hcell hc hst
      go_wp2_with (go_at_call 54; refine (hTo _).mono ?_; rintro e w2 ⟨rfl, hB2⟩; have hO2 := hOr.keep hB2; clear c0 c1 c2 f0 f1 f2; obtain ⟨c0, c1, c2⟩ := RdA.at (off := 0) (fun k hk j hj => by rw [Nat.zero_add]; exact hO2.cell k hk j hj) k hll; simp only [Nat.zero_add] at c0 c1 c2; have f0 := hO2.frozen (k * 3); have f1 := hO2.frozen (k * 3 + 1); have f2 := hO2.frozen (k * 3 + 2))
      go_roundw
      case rel =>
        have hBw := hBr.trans (hB2.mono hBr.size)
        have hsz := hBw.size
        refine ⟨k + 1, by omega, by go_num, ?_, below_set (below_set (below_set hBw hsz (Nat.le_refl _) _) (by simpa [World.setCell] using hsz) (Nat.le_refl _) _) (by simpa [World.setCell] using hsz) (Nat.le_refl _) _⟩
        have := OwnA.store3 hO2 k hll E hok
        rw [Hst.out] at this
        exact this
      case measure => simp [intOf]; omega
    · go_wp2
      go_ret
      have hk' : k = xs.length := by omega
      subst hk'
      exact ⟨_, _, rfl, by simpa using hOr, hBr⟩

set_option maxRecDepth 100000 in
set_option maxHeartbeats 1000000 in
theorem toK_any (p : Sp) (c : Cl) (w : World) (hr : RdK w p c) :
    Calls Try.prog 39 #[.agg #[p.s1, p.s2]] w fun e w' => ∃ q : Sp, e = .returned (.agg #[q.s1, q.s2]) ∧ (Own w' w.heap.size q.s1 c.b ∧ OwnA w' w.heap.size q.s2 c.a) ∧ Below w.heap.size w w' := by
  obtain ⟨a1, n1, c1, a2, n2, c2⟩ := p
  obtain ⟨h1, h2⟩ := hr
  simp only [Sp.s1, Sp.s2] at h1 h2 ⊢
  have HTS := fun W h => toS_any (.slice a1 n1 c1) c.b W h
  have HTE := fun W h => toAS_any (.slice a2 n2 c2) c.a W h
  have bX := (Box.new w (.slice a1 n1 c1) (.slice a2 n2 c2) 61)
  have hW0 : Below w.heap.size w (((w.alloc (.cells #[.slice a1 n1 c1, .slice a2 n2 c2] 61)).alloc (.cells #[.slice none 0 0, .slice none 0 0] 54)).alloc (.cells #[.slice none 0 0, .slice none 0 0] 54)) := (((Below.refl _ w).alloc (Nat.le_refl _) _).alloc (by simp) _).alloc (by simp; omega) _
  have bA := (bX.alloc (.cells #[.slice none 0 0, .slice none 0 0] 54)).alloc (.cells #[.slice none 0 0, .slice none 0 0] 54)
  have bR := (Box.new (w.alloc (.cells #[.slice a1 n1 c1, .slice a2 n2 c2] 61)) (.slice none 0 0) (.slice none 0 0) 54).alloc (.cells #[.slice none 0 0, .slice none 0 0] 54)
  have bO := Box.new ((w.alloc (.cells #[.slice a1 n1 c1, .slice a2 n2 c2] 61)).alloc (.cells #[.slice none 0 0, .slice none 0 0] 54)) (.slice none 0 0) (.slice none 0 0) 54
  have fR : ∀ o, (((w.alloc (.cells #[.slice a1 n1 c1, .slice a2 n2 c2] 61)).alloc (.cells #[.slice none 0 0, .slice none 0 0] 54)).alloc (.cells #[.slice none 0 0, .slice none 0 0] 54)).frozen? ⟨w.heap.size + 1, o, none⟩ = false := fun o => by
    rw [World.frozen?_alloc_past _ _ _ (by simp)]; exact World.frozen?_alloc_at _ _ _ _ (by simp)
  have fO : ∀ o, (((w.alloc (.cells #[.slice a1 n1 c1, .slice a2 n2 c2] 61)).alloc (.cells #[.slice none 0 0, .slice none 0 0] 54)).alloc (.cells #[.slice none 0 0, .slice none 0 0] 54)).frozen? ⟨w.heap.size + 1 + 1, o, none⟩ = false := fun o => World.frozen?_alloc_at _ _ _ _ (by simp)
  simp only [World.size_alloc] at bR bO
  generalize hW : (((w.alloc (.cells #[.slice a1 n1 c1, .slice a2 n2 c2] 61)).alloc (.cells #[.slice none 0 0, .slice none 0 0] 54)).alloc (.cells #[.slice none 0 0, .slice none 0 0] 54)) = W0 at bA bR bO fR fO hW0
  obtain ⟨-, r0, r1⟩ := id bA
  go_enter Try.func39, Try.ntmps39
  go_wp2_with fail
  clear r0 r1
  refine (HTS _ (h1.keep hW0)).mono ?_
  rintro e w1 ⟨s1, t1, rfl, oS, hB1⟩
  have bA1 := bA.keep hB1
  have bR1 := bR.keep hB1
  have bO1 := bO.keep hB1
  have fR1 : ∀ o, w1.frozen? ⟨w.heap.size + 1, o, none⟩ = false := fun o => (hB1.frozen (p := ⟨w.heap.size + 1, o, none⟩) bR.1).trans (fR o)
  have fO1 : ∀ o, w1.frozen? ⟨w.heap.size + 1 + 1, o, none⟩ = false := fun o => (hB1.frozen (p := ⟨w.heap.size + 1 + 1, o, none⟩) bO.1).trans (fO o)
  have V1 := hW0.trans (hB1.mono hW0.size)
  have loS := oS.lt
  have hz0 := bO.1
  have bA1' := bA1.far (c := w.heap.size + 1 + 1) (o := 0) (by omega) (.slice s1 c.b.length t1)
  obtain ⟨-, p0, p1⟩ := id bA1
  obtain ⟨-, q0, q1⟩ := id bO1
  have f0 := fO1 0
  clear bA bR bO fR fO hW
  go_wp2_with fail
  have bO2 := bO1.p0 (.slice s1 c.b.length t1)
  have bR2 := bR1.far (c := w.heap.size + 1 + 1) (o := 0) (by omega) (.slice s1 c.b.length t1)
  have V2 := below_set (o := 0) V1 V1.size (show w.heap.size ≤ w.heap.size + 1 + 1 by omega) (.slice s1 c.b.length t1)
  have oS2 := oS.but (gb_set w1 (w.heap.size + 1 + 1) 0 (.slice s1 c.b.length t1)) (.inr (fun e => by have := loS _ e; omega))
  have fR2 : ∀ o, (w1.setCell ⟨w.heap.size + 1 + 1, 0, none⟩ (.slice s1 c.b.length t1)).frozen? ⟨w.heap.size + 1, o, none⟩ = false := fun o => (World.frozen?_setCell _ _ _ _).trans (fR1 o)
  have fO2 : ∀ o, (w1.setCell ⟨w.heap.size + 1 + 1, 0, none⟩ (.slice s1 c.b.length t1)).frozen? ⟨w.heap.size + 1 + 1, o, none⟩ = false := fun o => (World.frozen?_setCell _ _ _ _).trans (fO1 o)
  generalize hW2 : w1.setCell ⟨w.heap.size + 1 + 1, 0, none⟩ (.slice s1 c.b.length t1) = W2 at *
  refine (HTE _ (h2.keep V2)).mono ?_
  rintro e w3 ⟨s3, t3, rfl, oE, hB3⟩
  have bA3 := bA1'.keep hB3
  have bR3 := bR2.keep hB3
  have bO3 := bO2.keep hB3
  have fR3 : ∀ o, w3.frozen? ⟨w.heap.size + 1, o, none⟩ = false := fun o => (hB3.frozen (p := ⟨w.heap.size + 1, o, none⟩) bR2.1).trans (fR2 o)
  have fO3 : ∀ o, w3.frozen? ⟨w.heap.size + 1 + 1, o, none⟩ = false := fun o => (hB3.frozen (p := ⟨w.heap.size + 1 + 1, o, none⟩) bO2.1).trans (fO2 o)
  have V3 := V2.trans (hB3.mono V2.size)
  have oS3 := oS2.keep hB3
  have loE := oE.lt
  have zO := bO2.1
  have zs1 : ∀ k, (Value.slice s1 c.b.length t1).ownBlock = some k → w.heap.size + 1 + 1 < k ∧ k < W2.heap.size := fun k hk => by
    have := oS2.lt k hk; omega
  clear p0 p1 q0 q1 f0 bA1 bR1 bO1 bA1' bR2 bO2 hW2
  obtain ⟨-, p0, p1⟩ := id bA3
  obtain ⟨-, q0, q1⟩ := id bO3
  obtain ⟨-, r0, r1⟩ := id bR3
  have f0 := fO3 0
  have f1 := fO3 1
  have g0 := fR3 0
  have g1 := fR3 1
  have hne1 : w.heap.size ≠ w.heap.size + 1 + 1 := by omega
  have k1 := (bR3.far (c := w.heap.size + 1 + 1) (o := 1) (by omega) (.slice s3 c.a.length t3))
  have k2 := k1.p0 (.slice s1 c.b.length t1)
  have k3 := k2.p1 (.slice s3 c.a.length t3)
  have hz3 := V3.size
  go_wp2
  refine bodyPost_ret (v := .agg #[.slice s1 c.b.length t1, .slice s3 c.a.length t3]) (by simp [results, Try.results39, go_sem, k2.2.1, k3.2.2]) rfl ⟨⟨s1, c.b.length, t1, s3, c.a.length, t3⟩, rfl, ⟨?_, ?_⟩, ?_⟩
  · have hn : ∀ c', c' ≤ w.heap.size + 1 + 1 → (Value.slice s1 c.b.length t1).ownBlock ≠ some c' := fun c' hc e => by have := zs1 c' e; omega
    exact (((oS3.but (gb_set _ _ _ _) (.inr (hn _ (by omega)))).but (gb_set _ _ _ _) (.inr (hn _ (by omega)))).but (gb_set _ _ _ _) (.inr (hn _ (by omega)))).mono (by omega)
  · have hn : ∀ c', c' ≤ w.heap.size + 1 + 1 → (Value.slice s3 c.a.length t3).ownBlock ≠ some c' := fun c' hc e => by have := loE c' e; omega
    exact (((oE.but (gb_set _ _ _ _) (.inr (hn _ (by omega)))).but (gb_set _ _ _ _) (.inr (hn _ (by omega)))).but (gb_set _ _ _ _) (.inr (hn _ (by omega)))).mono (by omega)
  · exact below_set (below_set (below_set V3 hz3 (by omega) _) (by simpa [World.setCell] using hz3) (by omega) _) (by simpa [World.setCell] using hz3) (by omega) _

def sp0 : Sp := ⟨none, 0, 0, none, 0, 0⟩
theorem OwnP.store2 {w : World} {B g n cap : Nat} {xs : List Sp} (h : OwnG shP 54 w B (.slice (some ⟨g, 0, none⟩) n cap) xs) (k : Nat) (hk : k < xs.length) (e : Sp) :
    OwnG shP 54 ((w.setCell ⟨g, k * 2, none⟩ e.s1).setCell ⟨g, k * 2 + 1, none⟩ e.s2) B (.slice (some ⟨g, 0, none⟩) n cap) (xs.set k e) := by
  have h1 := h.put k hk 0 (by decide) e.s1 ⟨e.a1, e.n1, e.c1, xs[k].a2, xs[k].n2, xs[k].c2⟩ trivial rfl
  have h2 := h1.put k (by simpa using hk) 1 (by decide) e.s2 e trivial (by simp [shP, Sp.s1, Sp.s2])
  simp only [List.set_set, Nat.add_zero] at h2
  exact h2

set_option maxRecDepth 100000 in
set_option maxHeartbeats 1000000 in
theorem toC_any (v : Value) (cs : List Cl) (w : World) (hr : RdC w v cs) :
    Calls Try.prog 12 #[v] w fun e w' => ∃ a c, e = .returned (.slice a cs.length c) ∧ OwnC w' w.heap.size (.slice a cs.length c) cs ∧ Below w.heap.size w w' := by
  obtain ⟨ps, ⟨a, cap, rfl, hl, hz, hn0, hc⟩, hpl, hK⟩ := hr
  obtain ⟨i0, hi, hz0, hz1, hz2⟩ := info_parts Try.info54
  have HP : Hid (ps.length = cs.length) := hpl
  rw [hpl] at hl ⊢
  clear hpl
  go_enter Try.func12, Try.ntmps12
  go_wp2_with (at_make; refine wpList_make_full _ rfl _ _ 25 rfl w.heap.size 54 i0 _ 2 Try.underlying25 hi hz0 hz1 .i64 .i64 _ _ cs.length rfl rfl rfl rfl (by rw [hz2]; omega) (by unfold maxLen; omega) (Nat.le_refl _) ?_; intro w1 hown hgrow)
  have hO : OwnG shP 54 w1 w.heap.size (.slice (some ⟨w.heap.size, 0, none⟩) cs.length cs.length) (List.replicate cs.length sp0) := by
    refine ⟨?_, by simpa using hl, fun e he => trivial⟩
    show w1.ownsRow w.heap.size 54 2 _ (List.replicate cs.length sp0).length _
    rw [flat_made shP sp0 (Value.cells (.agg #[.slice none 0 0, .slice none 0 0])) rfl, List.length_replicate]; exact hown
  have hB : Below w.heap.size w w1 := (Below.refl _ _).grown hgrow (Nat.le_refl _) (by intro k h; cases h)
  clear hown hgrow
  go_loopw [4] (fun i wr => ∃ (k : Nat) (qs : List Sp), k ≤ cs.length ∧ qs.length = k ∧ i = .int .i64 k ∧ OwnG shP 54 wr w.heap.size (.slice (some ⟨w.heap.size, 0, none⟩) cs.length cs.length) (qs ++ List.replicate (cs.length - k) sp0) ∧ (∀ j (h : j < qs.length) (h' : j < cs.length), Own wr (w.heap.size + 1) qs[j].s1 cs[j].b ∧ OwnA wr (w.heap.size + 1) qs[j].s2 cs[j].a) ∧ Below w.heap.size w wr)
    (fun i _ => cs.length - (intOf i).toNat)
  case atStart => exact ⟨0, [], Nat.zero_le _, rfl, rfl, by simpa using hO, fun j h => absurd h (by simp), hB⟩
  case round =>
    obtain ⟨k, qs, hk, hqs, rfl, hOr, hJ, hBr⟩ := hrel
    clear hO hB
    by_cases hlt : k < cs.length
    · have hlt' : k < ps.length := by rw [HP.out]; exact hlt
      obtain ⟨b, off, rfl, hb, hcell⟩ := hc (by omega)
      obtain ⟨d0, d1⟩ := RdP.at (fun k hk j hj => (hBr.cell (p := ⟨b, _, none⟩) hb).trans (hcell k hk j hj)) k hlt'
      have hTo := toK_any ps[k] cs[k] wr ((hK k hlt' hlt).keep hBr)
      have Hst : Hid (∀ q : Sp, (qs ++ List.replicate (cs.length - k) sp0).set k q = (qs ++ [q]) ++ List.replicate (cs.length - (k + 1)) sp0) := fun q => by
        rw [List.set_append_right _ _ (by omega), hqs, Nat.sub_self, show cs.length - k = (cs.length - (k + 1)) + 1 by omega, List.replicate_succ, List.set_cons_zero, List.append_assoc]; rfl
      have hll : k < (qs ++ List.replicate (cs.length - k) sp0).length := by simp; omega
      have hqs' : Hid (qs.length = k) := hqs
      generalize (qs ++ List.replicate (cs.length - k) sp0) = L at *
      obtain ⟨c0, c1⟩ := RdP.at (off := 0) (fun k hk j hj => by rw [Nat.zero_add]; exact hOr.cell k hk j hj) k hll
      simp only [Nat.zero_add] at c0 c1
      have f0 := hOr.frozen (k * 2)
      have f1 := hOr.frozen (k * 2 + 1)
      have hsz0 : w.heap.size < wr.heap.size := World.block_lt_of_cell? _ _ c0
      have hKk : Hid (∀ w2 (q : Sp), Own w2 (w.heap.size + 1) q.s1 cs[k].b ∧ OwnA w2 (w.heap.size + 1) q.s2 cs[k].a → (∀ j (h : j < qs.length) (h' : j < cs.length), Own w2 (w.heap.size + 1) qs[j].s1 cs[j].b ∧ OwnA w2 (w.heap.size + 1) qs[j].s2 cs[j].a) → ∀ j (h : j < (qs ++ [q]).length) (h' : j < cs.length), Own w2 (w.heap.size + 1) (qs ++ [q])[j].s1 cs[j].b ∧ OwnA w2 (w.heap.size + 1) (qs ++ [q])[j].s2 cs[j].a) := by
        intro w2 q hq hold j h h'
        by_cases e : j = k
        · subst e
          have : (qs ++ [q])[j] = q := by rw [List.getElem_append_right (by omega)]; simp [hqs]
          rw [this]; exact hq
        · have hj : j < qs.length := by simp at h; omega
          rw [List.getElem_append_left hj]; exact hold j hj h'
      clear hcell hc hqs hK hz
      generalize cs[k] = C at *
      generalize ps[k] = P at *
      generalize L[k] = LK at *
      obtain ⟨p1, p2, p3, p4, p5, p6⟩ := P
      obtain ⟨l1, l2, l3, l4, l5, l6⟩ := LK
      simp only [Sp.s1, Sp.s2] at d0 d1 c0 c1 hTo
      go_wp2_with fail
      refine hTo.mono ?_
      rintro e w2 ⟨⟨q1, q2, q3, q4, q5, q6⟩, rfl, ⟨hq1, hq2⟩, hB2⟩
      have hO2 := hOr.keep hB2
      have lo1 := hq1.lt
      have lo2 := hq2.lt
      have c0' := (hB2.cell (p := ⟨w.heap.size, k * 2, none⟩) hsz0).trans c0
      have c1' := (hB2.cell (p := ⟨w.heap.size, k * 2 + 1, none⟩) hsz0).trans c1
      have f0' := hO2.frozen (k * 2)
      have f1' := hO2.frozen (k * 2 + 1)
      have hJ2 : ∀ j (h : j < qs.length) (h' : j < cs.length), Own w2 (w.heap.size + 1) qs[j].s1 cs[j].b ∧ OwnA w2 (w.heap.size + 1) qs[j].s2 cs[j].a := fun j h h' => ⟨(hJ j h h').1.keep hB2, (hJ j h h').2.keep hB2⟩
      have HJ2 : Hid _ := hJ2
      clear c0 c1 f0 f1 hJ hJ2 d0 d1 hOr
      simp only
      go_wp2
      go_roundw
      case rel =>
        have hBw := hBr.trans (hB2.mono hBr.size)
        have hsz := hBw.size
        have keepI : ∀ {W : World} {v : Value} {zs : List Int} (o : Nat) (u : Value), Own W (w.heap.size + 1) v zs → Own (W.setCell ⟨w.heap.size, o, none⟩ u) (w.heap.size + 1) v zs := fun o u h => h.setBelow (by simp) u
        have keepA : ∀ {W : World} {v : Value} {zs : List At} (o : Nat) (u : Value), OwnA W (w.heap.size + 1) v zs → OwnA (W.setCell ⟨w.heap.size, o, none⟩ u) (w.heap.size + 1) v zs := fun o u h => h.setBelow (by simp) u
        refine ⟨k + 1, qs ++ [⟨q1, q2, q3, q4, q5, q6⟩], by omega, by simp [hqs'.out], by go_num, ?_, ?_, below_set (below_set hBw hsz (Nat.le_refl _) _) (by simpa [World.setCell] using hsz) (Nat.le_refl _) _⟩
        · have := OwnP.store2 hO2 k hll ⟨q1, q2, q3, q4, q5, q6⟩
          rw [Hst.out] at this
          exact this
        · refine hKk.out _ _ ⟨keepI _ _ (keepI _ _ (hq1.mono (by omega))), keepA _ _ (keepA _ _ (hq2.mono (by omega)))⟩ (fun j h h' => ⟨keepI _ _ (keepI _ _ (HJ2.out j h h').1), keepA _ _ (keepA _ _ (HJ2.out j h h').2)⟩)
      case measure => simp [intOf]; omega
    · go_wp2
      go_ret
      have hk' : k = cs.length := by omega
      subst hk'
      exact ⟨_, _, rfl, ⟨qs, by simpa using hOr, hqs, hJ⟩, hBr⟩
end Go.Proofs.Ytfbibbjiomfncaa
