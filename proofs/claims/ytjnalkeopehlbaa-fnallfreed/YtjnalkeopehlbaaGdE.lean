import Derived.Test.YtjnalkeopehlbaaGdD
namespace Go.Proofs.Ytjnalkeopehlbaa
open Go.RowKit Go.Maps
set_option linter.unusedVariables false
set_option linter.unusedSimpArgs false

/-- What one step leaves. -/
def StP (B sb : Nat) (w : World) (ov ew : Value) (S : Gs) (hs ts : Nat → Sl) (S' : Gs) (ans : Int) (e : Ending) (w' : World) : Prop :=
  e = .returned (.int .i64 ans) ∧ ∃ ov' ew' hs' ts', SS w' B sb ov' ew' S' hs' ts' ∧ Ts sb w ov ew S hs ts w' ov' ew' S' hs' ts'
theorem StP.mk {B sb : Nat} {w : World} {ov ew : Value} {S : Gs} {hs ts : Nat → Sl} {S' : Gs} {ans : Int} {e : Ending} {w' : World} (h : e = .returned (.int .i64 ans) ∧ ∃ ov' ew' hs' ts', SS w' B sb ov' ew' S' hs' ts' ∧ Ts sb w ov ew S hs ts w' ov' ew' S' hs' ts') : StP B sb w ov ew S hs ts S' ans e w' := h
theorem Tr.ts0 {sb : Nat} {ov ew ew' : Value} {w w' : World} {S S' : Gs} {hs ts : Nat → Sl} (h : Tr sb ov w ew w' ew') (hr : ∀ x, S'.al x = true → S.al x = true) : Ts sb w ov ew S hs ts w' ov ew' S' hs ts := h.ts (fun x hx => ⟨hr x hx, rfl, rfl⟩)
set_option maxRecDepth 100000 in
set_option maxHeartbeats 1000000 in
theorem leftS_any (B sb K X : Nat) (ov ew : Value) (S : Gs) (hs ts : Nat → Sl) (w : World) (h : SS w B sb ov ew S hs ts) (hI : Iv K S) (hK : K ≤ 2500) (hX : X < S.n) :
    Calls Try.prog 46 #[.pointer (some ⟨sb, 0, none⟩), .int .i64 ((X : Int) + 1)] w fun e w' => e = .returned (.int .i64 (leftS S (X + 1) : Nat)) ∧ w' = w := by
  have hnk := hI.n
  have hOk := okS_any B sb K ov ew S hs ts ((X : Int) + 1) w h hI (by omega) (by omega) (by omega)
  have hoe : okx S ((X : Int) + 1) = S.al (X + 1) := by unfold okx; rw [show ((X : Int) + 1).toNat = X + 1 by omega, decide_eq_true (by omega), Bool.true_and]
  rw [hoe] at hOk
  have hCn := countS_any B sb K X ov ew S hs ts w h hI (by omega) hX
  obtain ⟨LV, hLV⟩ : ∃ LV, leftS S (X + 1) = LV := ⟨_, rfl⟩
  have HLV : Hid (leftS S (X + 1) = LV) := hLV
  rw [hLV]
  clear hLV hoe
  cases hax : S.al (X + 1) with
  | false =>
    rw [hax] at hOk
    obtain rfl : 0 = LV := by rw [← HLV.out]; unfold leftS; rw [hax]; rfl
    go_enter Try.func46, Try.ntmps46
    go_wp2_with fail
    refine hOk.mono ?_
    rintro e w1 ⟨rfl, hw⟩
    obtain rfl : w = w1 := hw.symm
    clear hw hOk
    go_wp2
    go_ret
    exact ⟨rfl, rfl⟩
  | true =>
    rw [hax] at hOk
    obtain rfl : cnt S (X + 1) = LV := by rw [← HLV.out]; unfold leftS; rw [hax]; rfl
    go_enter Try.func46, Try.ntmps46
    go_wp2_with fail
    refine hOk.mono ?_
    rintro e w1 ⟨rfl, hw⟩
    obtain rfl : w = w1 := hw.symm
    clear hw hOk
    go_wp2_with fail
    refine hCn.mono ?_
    rintro e w1 ⟨rfl, hw⟩
    obtain rfl : w = w1 := hw.symm
    clear hw hCn
    go_wp2
    go_ret
    exact ⟨rfl, rfl⟩
theorem okx_at {S : Gs} (X : Nat) : okx S ((X : Int) + 1) = S.al (X + 1) := by unfold okx; rw [show ((X : Int) + 1).toNat = X + 1 by omega, decide_eq_true (by omega), Bool.true_and]
/-- A new thing. -/
theorem SS.newT {w : World} {B sb : Nat} {ov ew : Value} {S : Gs} {hs ts : Nat → Sl} (h : SS w B sb ov ew S hs ts) (hI : ∀ x, S.al x = true → x ≤ S.n) {w1 : World} {ob' c' : Nat} (hg : w.grownBy w1 ov.ownBlock) (ho : OwnG shX 80 w1 B (.slice (some ⟨ob', 0, none⟩) (S.n + 1) c') (txs S hs ts ++ [⟨true, ⟨none, 0, 0⟩, ⟨none, 0, 0⟩, 1, 0, 0, false⟩])) (hl : ov.ownBlock = some ob' ∨ ob' = w.heap.size) :
    SS (w1.setCell ⟨sb, 0, none⟩ (.slice (some ⟨ob', 0, none⟩) (S.n + 1) c')) B sb (.slice (some ⟨ob', 0, none⟩) (S.n + 1) c') ew (newS S) (upd hs (S.n + 1) ⟨none, 0, 0⟩) (upd ts (S.n + 1) ⟨none, 0, 0⟩) ∧ Ts sb w ov ew S hs ts (w1.setCell ⟨sb, 0, none⟩ (.slice (some ⟨ob', 0, none⟩) (S.n + 1) c')) (.slice (some ⟨ob', 0, none⟩) (S.n + 1) c') ew (newS S) (upd hs (S.n + 1) ⟨none, 0, 0⟩) (upd ts (S.n + 1) ⟨none, 0, 0⟩) := by
  obtain ⟨c, hc⟩ := h.box
  have hne : ∀ x, S.al x = true → x ≠ S.n + 1 := fun x hx e => by have := hI x hx; omega
  have hc1 := (hg.block sb h.lt (fun e => h.out_sb e.symm)).trans hc
  have hg2 := gb_set w1 sb 0 (.slice (some ⟨ob', 0, none⟩) (S.n + 1) c')
  have hsz := hg.size
  have hob : ob' ≠ sb := by
    rcases hl with h1 | h1
    · intro e; exact h.out_sb (by rw [h1, e])
    · have := h.lt; omega
  have hblk : ∀ g, g < w.heap.size → g ≠ sb → ov.ownBlock ≠ some g → (w1.setCell ⟨sb, 0, none⟩ (.slice (some ⟨ob', 0, none⟩) (S.n + 1) c')).heap[g]? = w.heap[g]? := fun g h1 h2 h3 => by
    rw [hg2.block g (by omega) (fun e => h2 (Option.some.inj e)), hg.block g h1 (fun e => h3 e.symm)]
  have ht : txs (newS S) (upd hs (S.n + 1) ⟨none, 0, 0⟩) (upd ts (S.n + 1) ⟨none, 0, 0⟩) = txs S hs ts ++ [⟨true, ⟨none, 0, 0⟩, ⟨none, 0, 0⟩, 1, 0, 0, false⟩] := by
    unfold txs
    show (List.range (S.n + 1)).map _ = _
    rw [List.range_succ, List.map_append, List.map_singleton]
    congr 1
    · apply List.map_congr_left
      intro i hi
      have : i < S.n := List.mem_range.1 hi
      exact txA_ne (upd_ne _ _ (by omega)) (upd_ne _ _ (by omega)) (upd_ne _ _ (by omega)) (upd_ne _ _ (by omega)) (upd_ne _ _ (by omega)) (upd_ne _ _ (by omega)) (upd_ne _ _ (by omega))
    · unfold txA newS
      simp [upd_same]
  have nal : ∀ x, (newS S).al x = true → x = S.n + 1 ∨ (x ≠ S.n + 1 ∧ S.al x = true) := fun x hx => by
    by_cases e : x = S.n + 1
    · exact .inl e
    · exact .inr ⟨e, by unfold newS at hx; simpa [upd_ne _ _ e] using hx⟩
  have nn : ∀ v : Value, NoSh (Sl.val ⟨none, 0, 0⟩) v := fun v => .inl rfl
  refine ⟨⟨⟨c, ?_⟩, h.low, ?_, ?_, fun x hx => ?_, fun x hx => ?_, fun x y hx hy e => ?_, fun x y hx hy e => ?_, fun x y hx hy => ?_⟩, ⟨⟨?_, ?_, ?_, ?_, ?_⟩, fun b hb => ?_⟩⟩
  · rw [heap_setCell_same w1 sb 0 _ _ _ hc1]; rfl
  · rw [ht]; exact ho.but hg2 (.inr (fun e => hob (Option.some.inj e)))
  · exact h.ev.same (fun g e => hblk g (h.ev.lt g e).2 (fun e2 => h.ev_sb (by rw [← e2]; exact e)) (fun e2 => h.ev_out g e2 e))
  · rcases nal x hx with rfl | ⟨e, hx2⟩
    · unfold newS; simp only [upd_same]; exact Own.nil _ _
    · unfold newS
      simp only [upd_ne _ _ e]
      exact (h.hr x hx2).same (fun g e2 => hblk g ((h.hr x hx2).lt g e2).2 (fun e3 => h.pf_int (h.hr x hx2) e2 (.inl e3)) (fun e3 => h.pf_int (h.hr x hx2) e2 (.inr (.inl e3))))
  · rcases nal x hx with rfl | ⟨e, hx2⟩
    · unfold newS; simp only [upd_same]; exact Own.nil _ _
    · unfold newS
      simp only [upd_ne _ _ e]
      exact (h.tr x hx2).same (fun g e2 => hblk g ((h.tr x hx2).lt g e2).2 (fun e3 => h.pf_int (h.tr x hx2) e2 (.inl e3)) (fun e3 => h.pf_int (h.tr x hx2) e2 (.inr (.inl e3))))
  · rcases nal x hx with rfl | ⟨e1, hx2⟩
    · rw [upd_same]; exact nn _
    · rcases nal y hy with rfl | ⟨e2, hy2⟩
      · rw [upd_same]; exact (nn _).symm
      · rw [upd_ne _ _ e1, upd_ne _ _ e2]; exact h.ah x y hx2 hy2 e
  · rcases nal x hx with rfl | ⟨e1, hx2⟩
    · rw [upd_same]; exact nn _
    · rcases nal y hy with rfl | ⟨e2, hy2⟩
      · rw [upd_same]; exact (nn _).symm
      · rw [upd_ne _ _ e1, upd_ne _ _ e2]; exact h.at' x y hx2 hy2 e
  · rcases nal x hx with rfl | ⟨e1, hx2⟩
    · rw [upd_same]; exact nn _
    · rcases nal y hy with rfl | ⟨e2, hy2⟩
      · rw [upd_same]; exact (nn _).symm
      · rw [upd_ne _ _ e1, upd_ne _ _ e2]; exact h.aht x y hx2 hy2
  · rw [hg2.os, hg.os]
  · rw [hg2.tape, hg.tape]
  · rw [hg2.output, hg.output]
  · exact Nat.le_trans hsz hg2.size
  · exact fun g h1 h2 => hblk g h1 (fun e => h2 (.inl (.inl e))) (fun e => h2 (.inl (.inr (.inl e))))
  · rcases hb with hb | ⟨y, hy, hb⟩
    · rcases hb with e | e | e
      · exact .inl (.inl (.inl e))
      · have e2 : ob' = b := Option.some.inj e
        rcases hl with h1 | h1
        · exact .inl (.inl (.inr (.inl (by rw [h1, e2]))))
        · exact .inr (by omega)
      · exact .inl (.inl (.inr (.inr e)))
    · rcases nal y hy with rfl | ⟨e1, hy2⟩
      · rw [upd_same, upd_same] at hb
        rcases hb with e | e <;> cases e
      · rw [upd_ne _ _ e1, upd_ne _ _ e1] at hb
        exact .inl (.inr ⟨y, hy2, hb⟩)
set_option maxRecDepth 100000 in
set_option maxHeartbeats 1000000 in
theorem step_new (B sb K : Nat) (ov ew : Value) (S : Gs) (hs ts : Nat → Sl) (a b : Int) (w : World) (h : SS w B sb ov ew S hs ts) (hO : Ok K S) (hK : K ≤ 2400) (hBw : B ≤ w.heap.size)  :
    Calls Try.prog 33 #[.pointer (some ⟨sb, 0, none⟩), .agg #[.int .i64 1, .int .i64 a, .int .i64 b]] w (StP B sb w ov ew S hs ts (newS S) ((S.n + 1 : Nat) : Int)) := by
  have hI := hO.iv
  have hE := hO.ev
  have hnk := hI.n
  have al : Below w.heap.size w (w.alloc (.cells #[.int .i64 1, .int .i64 a, .int .i64 b] 45)) := (Below.refl _ _).alloc (Nat.le_refl _) _
  have x0 : (w.alloc (.cells #[.int .i64 1, .int .i64 a, .int .i64 b] 45)).cell? ⟨w.heap.size, 0, none⟩ = some (.int .i64 1) := by rw [World.cell?_alloc_at _ _ _ _ rfl]; rfl
  have x1 : (w.alloc (.cells #[.int .i64 1, .int .i64 a, .int .i64 b] 45)).cell? ⟨w.heap.size, 1, none⟩ = some (.int .i64 a) := by rw [World.cell?_alloc_at _ _ _ _ rfl]; rfl
  have x2 : (w.alloc (.cells #[.int .i64 1, .int .i64 a, .int .i64 b] 45)).cell? ⟨w.heap.size, 2, none⟩ = some (.int .i64 b) := by rw [World.cell?_alloc_at _ _ _ _ rfl]; rfl
  have hA := h.keep al
  have hTA : Ts sb w ov ew S hs ts (w.alloc (.cells #[.int .i64 1, .int .i64 a, .int .i64 b] 45)) ov ew S hs ts := (h.trk al).ts0 (fun x hx => hx)
  have hszA : (w.alloc (.cells #[.int .i64 1, .int .i64 a, .int .i64 b] 45)).heap.size = w.heap.size + 1 := by simp
  have HPG : Hid (¬ PFh sb ov ew S hs ts w.heap.size) := by
    rintro ((e | e | e) | ⟨x, hx, e | e⟩)
    · have := h.lt; omega
    · have := (h.out.lt _ e).2; omega
    · have := (h.ev.lt _ e).2; omega
    · have := ((h.hr x hx).lt _ e).2; omega
    · have := ((h.tr x hx).lt _ e).2; omega
  obtain ⟨GB, hGB⟩ : ∃ GB, w.heap.size = GB := ⟨_, rfl⟩
  go_enter Try.func33, Try.ntmps33
  go_upto_region 1 with fail
  generalize w.alloc _ = W1 at *
  rw [hGB] at x0 x1 x2 hszA HPG
  have hBW : B ≤ W1.heap.size := by omega
  have HTA : Hid (Ts sb w ov ew S hs ts W1 ov ew S hs ts) := hTA
  clear hTA al h
  obtain ⟨c, b0, b1, b2, bf⟩ := hA.boxc
  have al3 : Below W1.heap.size W1 (W1.alloc (.cells #[.bool true, .slice none 0 0, .slice none 0 0, .int .i64 1, .int .i64 0, .int .i64 0, .bool false] 80)) := (Below.refl _ _).alloc (Nat.le_refl _) _
  have hA3 := hA.keep al3
  have HA3 : Hid (SS (W1.alloc (.cells #[.bool true, .slice none 0 0, .slice none 0 0, .int .i64 1, .int .i64 0, .int .i64 0, .bool false] 80)) B sb ov ew S hs ts) := hA3
  have HT3 : Hid (Ts sb w ov ew S hs ts (W1.alloc (.cells #[.bool true, .slice none 0 0, .slice none 0 0, .int .i64 1, .int .i64 0, .int .i64 0, .bool false] 80)) ov ew S hs ts) := HTA.out.trans ((hA.trk al3).ts0 (fun x hx => hx))
  have oO := hA3.out
  have htl := txs_len S hs ts
  have hcc : ∀ j, j < shX.n → (W1.alloc (.cells #[.bool true, .slice none 0 0, .slice none 0 0, .int .i64 1, .int .i64 0, .int .i64 0, .bool false] 80)).cell? ⟨GB + 1, j, none⟩ = (shX.cs ⟨true, ⟨none, 0, 0⟩, ⟨none, 0, 0⟩, 1, 0, 0, false⟩)[j]? := fun j hj => by
    rw [World.cell?_alloc_at _ _ _ _ (by omega)]
    have : j = 0 ∨ j = 1 ∨ j = 2 ∨ j = 3 ∨ j = 4 ∨ j = 5 ∨ j = 6 := by have : j < 7 := hj; omega
    rcases this with rfl | rfl | rfl | rfl | rfl | rfl | rfl <;> rfl
  have HCC : Hid (∀ j, j < shX.n → (W1.alloc (.cells #[.bool true, .slice none 0 0, .slice none 0 0, .int .i64 1, .int .i64 0, .int .i64 0, .bool false] 80)).cell? ⟨GB + 1, j, none⟩ = (shX.cs ⟨true, ⟨none, 0, 0⟩, ⟨none, 0, 0⟩, 1, 0, 0, false⟩)[j]?) := hcc
  have hsb : sb < GB + 1 := by have := hA.lt; omega
  have hsz3 : (W1.alloc (.cells #[.bool true, .slice none 0 0, .slice none 0 0, .int .i64 1, .int .i64 0, .int .i64 0, .bool false] 80)).heap.size = GB + 2 := by rw [World.size_alloc]; omega
  obtain ⟨XS, hXS⟩ : ∃ XS, txs S hs ts = XS := ⟨_, rfl⟩
  have HXS : Hid (txs S hs ts = XS) := hXS
  rw [hXS] at oO htl
  have HXL : Hid (XS.length = S.n) := htl
  have hB3 : B ≤ (W1.alloc (.cells #[.bool true, .slice none 0 0, .slice none 0 0, .int .i64 1, .int .i64 0, .int .i64 0, .bool false] 80)).heap.size := by omega
  have hxl : XS.length + 1 ≤ 16777216 := by omega
  clear hcc hA3 hXS htl hA
  go_upto_region 4 with (at_builtin; refine wpList_append_oneL (S := shX) Try.info80 rfl (by omega) rfl _ _ 63 rfl Try.underlying63 B ov XS ⟨true, ⟨none, 0, 0⟩, ⟨none, 0, 0⟩, 1, 0, 0, false⟩ trivial (GB + 1) 1 rfl rfl oO HCC.out hxl hB3 ?_; intro b' c' w' oF4 hg4 hl4 hz4; have c1 : w'.cell? ⟨sb, 0, none⟩ = some ov := (World.cell?_of_block (a := ⟨sb, 0, none⟩) (hg4.block sb (by omega) (fun e => HA3.out.out_sb e.symm))).trans (HA3.out.boxc.choose_spec.1); have f1 : w'.frozen? ⟨sb, 0, none⟩ = false := (World.frozen?_of_block (a := ⟨sb, 0, none⟩) (hg4.block sb (by omega) (fun e => HA3.out.out_sb e.symm))).trans (HA3.out.boxc.choose_spec.2.2.2 0))
  rw [HXL.out] at oF4
  try simp only [HXL.out]
  have hN := HA3.out.newT (fun x hx => (hI.al x hx).2) hg4 (by rw [HXS.out]; exact oF4) hl4
  have HN1 : Hid (SS (w'.setCell ⟨sb, 0, none⟩ (.slice (some ⟨b', 0, none⟩) (S.n + 1) c')) B sb (.slice (some ⟨b', 0, none⟩) (S.n + 1) c') ew (newS S) (upd hs (S.n + 1) ⟨none, 0, 0⟩) (upd ts (S.n + 1) ⟨none, 0, 0⟩)) := hN.1
  have HN2 : Hid (Ts sb w ov ew S hs ts (w'.setCell ⟨sb, 0, none⟩ (.slice (some ⟨b', 0, none⟩) (S.n + 1) c')) (.slice (some ⟨b', 0, none⟩) (S.n + 1) c') ew (newS S) (upd hs (S.n + 1) ⟨none, 0, 0⟩) (upd ts (S.n + 1) ⟨none, 0, 0⟩)) := HT3.out.trans hN.2
  obtain ⟨c9, d0, -, -, -⟩ := hN.1.boxc
  clear hN oF4 hg4 c1 f1 HA3 HT3
  go_wp2
  go_ret
  exact StP.mk ⟨by first | rfl | simp, _, _, _, _, HN1.out, HN2.out⟩
set_option maxRecDepth 100000 in
set_option maxHeartbeats 1000000 in
theorem step_collect (B sb K : Nat) (ov ew : Value) (S : Gs) (hs ts : Nat → Sl) (a b : Int) (w : World) (h : SS w B sb ov ew S hs ts) (hO : Ok K S) (hK : K ≤ 2400) (hBw : B ≤ w.heap.size)  :
    Calls Try.prog 33 #[.pointer (some ⟨sb, 0, none⟩), .agg #[.int .i64 8, .int .i64 a, .int .i64 b]] w (StP B sb w ov ew S hs ts (coll S) (((deadL S).length : Nat) : Int)) := by
  have hI := hO.iv
  have hE := hO.ev
  have hnk := hI.n
  have al : Below w.heap.size w (w.alloc (.cells #[.int .i64 8, .int .i64 a, .int .i64 b] 45)) := (Below.refl _ _).alloc (Nat.le_refl _) _
  have x0 : (w.alloc (.cells #[.int .i64 8, .int .i64 a, .int .i64 b] 45)).cell? ⟨w.heap.size, 0, none⟩ = some (.int .i64 8) := by rw [World.cell?_alloc_at _ _ _ _ rfl]; rfl
  have x1 : (w.alloc (.cells #[.int .i64 8, .int .i64 a, .int .i64 b] 45)).cell? ⟨w.heap.size, 1, none⟩ = some (.int .i64 a) := by rw [World.cell?_alloc_at _ _ _ _ rfl]; rfl
  have x2 : (w.alloc (.cells #[.int .i64 8, .int .i64 a, .int .i64 b] 45)).cell? ⟨w.heap.size, 2, none⟩ = some (.int .i64 b) := by rw [World.cell?_alloc_at _ _ _ _ rfl]; rfl
  have hA := h.keep al
  have hTA : Ts sb w ov ew S hs ts (w.alloc (.cells #[.int .i64 8, .int .i64 a, .int .i64 b] 45)) ov ew S hs ts := (h.trk al).ts0 (fun x hx => hx)
  have hszA : (w.alloc (.cells #[.int .i64 8, .int .i64 a, .int .i64 b] 45)).heap.size = w.heap.size + 1 := by simp
  have HPG : Hid (¬ PFh sb ov ew S hs ts w.heap.size) := by
    rintro ((e | e | e) | ⟨x, hx, e | e⟩)
    · have := h.lt; omega
    · have := (h.out.lt _ e).2; omega
    · have := (h.ev.lt _ e).2; omega
    · have := ((h.hr x hx).lt _ e).2; omega
    · have := ((h.tr x hx).lt _ e).2; omega
  obtain ⟨GB, hGB⟩ : ∃ GB, w.heap.size = GB := ⟨_, rfl⟩
  go_enter Try.func33, Try.ntmps33
  go_upto_region 1 with fail
  generalize w.alloc _ = W1 at *
  rw [hGB] at x0 x1 x2 hszA HPG
  have hBW : B ≤ W1.heap.size := by omega
  have HTA : Hid (Ts sb w ov ew S hs ts W1 ov ew S hs ts) := hTA
  clear hTA al h
  have hC := collectS_any B sb K ov ew S hs ts W1 hA hI hE (by omega) hBW
  have hcl := coll_all hI hE hO.cl
  have HAL : Hid (∀ x, (coll S).al x = true → S.al x = true) := fun x hx => by
    unfold coll at hx
    rw [weaks_eq, frees_eq] at hx
    simp only [noneOf, Bool.and_eq_true] at hx
    have := (S1_all hI hE).2.2.al
    rw [← this]; exact hx.1
  go_wp2_with fail
  refine hC.mono ?_
  rintro e W2 ⟨rfl, ew2, hS2, hT2⟩
  have HT3 : Hid (Ts sb w ov ew S hs ts W2 ov ew2 (coll S) hs ts) := HTA.out.trans (hT2.ts0 HAL.out)
  clear hC hT2
  go_wp2
  go_ret
  exact StP.mk ⟨rfl, ov, ew2, hs, ts, hS2, HT3.out⟩
set_option maxRecDepth 100000 in
set_option maxHeartbeats 1000000 in
theorem step_alive (B sb K : Nat) (ov ew : Value) (S : Gs) (hs ts : Nat → Sl) (a b : Int) (w : World) (h : SS w B sb ov ew S hs ts) (hO : Ok K S) (hK : K ≤ 2400) (hBw : B ≤ w.heap.size)  :
    Calls Try.prog 33 #[.pointer (some ⟨sb, 0, none⟩), .agg #[.int .i64 10, .int .i64 a, .int .i64 b]] w (StP B sb w ov ew S hs ts S ((alv S : Nat) : Int)) := by
  have hI := hO.iv
  have hE := hO.ev
  have hnk := hI.n
  have al : Below w.heap.size w (w.alloc (.cells #[.int .i64 10, .int .i64 a, .int .i64 b] 45)) := (Below.refl _ _).alloc (Nat.le_refl _) _
  have x0 : (w.alloc (.cells #[.int .i64 10, .int .i64 a, .int .i64 b] 45)).cell? ⟨w.heap.size, 0, none⟩ = some (.int .i64 10) := by rw [World.cell?_alloc_at _ _ _ _ rfl]; rfl
  have x1 : (w.alloc (.cells #[.int .i64 10, .int .i64 a, .int .i64 b] 45)).cell? ⟨w.heap.size, 1, none⟩ = some (.int .i64 a) := by rw [World.cell?_alloc_at _ _ _ _ rfl]; rfl
  have x2 : (w.alloc (.cells #[.int .i64 10, .int .i64 a, .int .i64 b] 45)).cell? ⟨w.heap.size, 2, none⟩ = some (.int .i64 b) := by rw [World.cell?_alloc_at _ _ _ _ rfl]; rfl
  have hA := h.keep al
  have hTA : Ts sb w ov ew S hs ts (w.alloc (.cells #[.int .i64 10, .int .i64 a, .int .i64 b] 45)) ov ew S hs ts := (h.trk al).ts0 (fun x hx => hx)
  have hszA : (w.alloc (.cells #[.int .i64 10, .int .i64 a, .int .i64 b] 45)).heap.size = w.heap.size + 1 := by simp
  have HPG : Hid (¬ PFh sb ov ew S hs ts w.heap.size) := by
    rintro ((e | e | e) | ⟨x, hx, e | e⟩)
    · have := h.lt; omega
    · have := (h.out.lt _ e).2; omega
    · have := (h.ev.lt _ e).2; omega
    · have := ((h.hr x hx).lt _ e).2; omega
    · have := ((h.tr x hx).lt _ e).2; omega
  obtain ⟨GB, hGB⟩ : ∃ GB, w.heap.size = GB := ⟨_, rfl⟩
  go_enter Try.func33, Try.ntmps33
  go_upto_region 1 with fail
  generalize w.alloc _ = W1 at *
  rw [hGB] at x0 x1 x2 hszA HPG
  have hBW : B ≤ W1.heap.size := by omega
  have HTA : Hid (Ts sb w ov ew S hs ts W1 ov ew S hs ts) := hTA
  clear hTA al h
  obtain ⟨c, b0, b1, b2, bf⟩ := hA.boxc
  obtain ⟨oa, oc, hov⟩ : ∃ a c, ov = .slice a S.n c := by
    obtain ⟨a, c, e⟩ := hA.out.form
    rw [txs_len] at e
    exact ⟨a, c, e⟩
  have HOV : Hid (ov = .slice oa S.n oc) := hov
  rw [hov] at b0
  obtain ⟨N, hN⟩ : ∃ N, S.n = N := ⟨_, rfl⟩
  have HN : Hid (S.n = N) := hN
  rw [hN] at b0 hnk
  obtain ⟨F, hF⟩ : ∃ F : Nat → Nat, (fun k => if S.al (k + 1) = true then 1 else 0) = F := ⟨_, rfl⟩
  have HFk : Hid (∀ k, F k = if S.al (k + 1) = true then 1 else 0) := fun k => by rw [← hF]
  have HAV : Hid (alv S = sm N F) := by show _ = _; unfold alv; rw [hF, hN]
  have hsl : ∀ k, sm k F ≤ k := fun k => by
    have := sm_le F 1 k (fun j _ => by rw [HFk.out]; split <;> omega)
    omega
  have HSL : Hid (∀ k, sm k F ≤ k) := hsl
  have HA : Hid (SS W1 B sb ov ew S hs ts) := hA
  clear hov hN hF hsl hA
  go_wp2
  go_loopw [5, 6] (fun n i wq => ∃ k : Nat, k ≤ N ∧ i = .int .i64 k ∧ n = .int .i64 ((sm k F : Nat) : Int) ∧ wq = W1) (fun _ i _ => N - (intOf i).toNat)
  case atStart => exact ⟨0, Nat.zero_le _, rfl, rfl, rfl⟩
  case round =>
    obtain ⟨k, hk, rfl, rfl, hw⟩ := hrel
    obtain rfl : W1 = wr := hw.symm
    clear hw
    by_cases hlt : k < N
    · have hki : (k : Int) < (N : Int) := by omega
      obtain ⟨ob, cap, hov2, -, -⟩ := HA.out.shape (by rw [HN.out]; omega)
      have d0 := (HA.out.cells hov2 k (by rw [HN.out]; omega)).1
      have hoe : Value.slice oa N oc = Value.slice (some ⟨ob, 0, none⟩) N cap := by have := HOV.out.symm.trans hov2; rw [HN.out] at this; exact this
      rw [hoe] at b0
      have hb1 := HSL.out k
      have HS1 : Hid (sm (k + 1) F = sm k F + F k) := sm_succ k F
      have hfv := HFk.out k
      obtain ⟨Q, hQ⟩ : ∃ Q, sm k F = Q := ⟨_, rfl⟩
      rw [hQ] at hb1 HS1
      simp only [hQ]
      clear hoe hov2 hQ
      cases hal : S.al (k + 1) with
      | false =>
        rw [hal] at d0 hfv
        have HS2 : Hid (sm (k + 1) F = Q) := by show _ = _; rw [HS1.out, hfv]; rfl
        clear hfv HS1
        go_wp2
        go_roundw
        case rel => exact ⟨k + 1, by omega, by go_num, by rw [HS2.out], by first | rfl | trivial⟩
        case measure => simp [intOf]; omega
      | true =>
        rw [hal] at d0 hfv
        have HS2 : Hid (sm (k + 1) F = Q + 1) := by show _ = _; rw [HS1.out, hfv]; rfl
        clear hfv HS1
        go_wp2
        go_roundw
        case rel => exact ⟨k + 1, by omega, by go_num, by rw [HS2.out]; first | rfl | simp, by first | rfl | trivial⟩
        case measure => simp [intOf]; omega
    · obtain rfl : k = N := by omega
      have hki : ¬ (k : Int) < (k : Int) := by omega
      rw [← HAV.out]
      go_wp2
      go_ret
      exact StP.mk ⟨rfl, ov, ew, hs, ts, HA.out, HTA.out⟩
set_option maxRecDepth 100000 in
set_option maxHeartbeats 1000000 in
theorem step_bad (B sb K : Nat) (ov ew : Value) (S : Gs) (hs ts : Nat → Sl) (c a b : Int) (w : World) (h : SS w B sb ov ew S hs ts) (hO : Ok K S) (hK : K ≤ 2400) (hBw : B ≤ w.heap.size) (hc1 : c ≠ 1) (hc8 : c ≠ 8) (hc10 : c ≠ 10) (hb : okx S a = false) (ha0 : -9223372036854775808 ≤ a) (ha1 : a < 9223372036854775808) :
    Calls Try.prog 33 #[.pointer (some ⟨sb, 0, none⟩), .agg #[.int .i64 c, .int .i64 a, .int .i64 b]] w (StP B sb w ov ew S hs ts S (-1)) := by
  have hI := hO.iv
  have hE := hO.ev
  have hnk := hI.n
  have al : Below w.heap.size w (w.alloc (.cells #[.int .i64 c, .int .i64 a, .int .i64 b] 45)) := (Below.refl _ _).alloc (Nat.le_refl _) _
  have x0 : (w.alloc (.cells #[.int .i64 c, .int .i64 a, .int .i64 b] 45)).cell? ⟨w.heap.size, 0, none⟩ = some (.int .i64 c) := by rw [World.cell?_alloc_at _ _ _ _ rfl]; rfl
  have x1 : (w.alloc (.cells #[.int .i64 c, .int .i64 a, .int .i64 b] 45)).cell? ⟨w.heap.size, 1, none⟩ = some (.int .i64 a) := by rw [World.cell?_alloc_at _ _ _ _ rfl]; rfl
  have x2 : (w.alloc (.cells #[.int .i64 c, .int .i64 a, .int .i64 b] 45)).cell? ⟨w.heap.size, 2, none⟩ = some (.int .i64 b) := by rw [World.cell?_alloc_at _ _ _ _ rfl]; rfl
  have hA := h.keep al
  have hTA : Ts sb w ov ew S hs ts (w.alloc (.cells #[.int .i64 c, .int .i64 a, .int .i64 b] 45)) ov ew S hs ts := (h.trk al).ts0 (fun x hx => hx)
  have hszA : (w.alloc (.cells #[.int .i64 c, .int .i64 a, .int .i64 b] 45)).heap.size = w.heap.size + 1 := by simp
  have HPG : Hid (¬ PFh sb ov ew S hs ts w.heap.size) := by
    rintro ((e | e | e) | ⟨x, hx, e | e⟩)
    · have := h.lt; omega
    · have := (h.out.lt _ e).2; omega
    · have := (h.ev.lt _ e).2; omega
    · have := ((h.hr x hx).lt _ e).2; omega
    · have := ((h.tr x hx).lt _ e).2; omega
  obtain ⟨GB, hGB⟩ : ∃ GB, w.heap.size = GB := ⟨_, rfl⟩
  go_enter Try.func33, Try.ntmps33
  go_upto_region 1 with fail
  generalize w.alloc _ = W1 at *
  rw [hGB] at x0 x1 x2 hszA HPG
  have hBW : B ≤ W1.heap.size := by omega
  have HTA : Hid (Ts sb w ov ew S hs ts W1 ov ew S hs ts) := hTA
  clear hTA al h
  have n1 : ((c : Int) == 1) = false := by rw [beq_eq_false_iff_ne]; omega
  have n8 : ((c : Int) == 8) = false := by rw [beq_eq_false_iff_ne]; omega
  have n10 : ((c : Int) == 10) = false := by rw [beq_eq_false_iff_ne]; omega
  have hOk := okS_any B sb K ov ew S hs ts a W1 hA hI (by omega) ha0 ha1
  rw [hb] at hOk
  clear hc1 hc8 hc10
  go_wp2_with fail
  refine hOk.mono ?_
  rintro e w1 ⟨rfl, hw⟩
  obtain rfl : W1 = w1 := hw.symm
  clear hw hOk
  go_wp2
  go_ret
  exact StP.mk ⟨rfl, ov, ew, hs, ts, hA, HTA.out⟩
set_option maxRecDepth 100000 in
set_option maxHeartbeats 1000000 in
theorem step_hold0 (B sb K : Nat) (ov ew : Value) (S : Gs) (hs ts : Nat → Sl) (X : Nat) (b : Int) (w : World) (h : SS w B sb ov ew S hs ts) (hO : Ok K S) (hK : K ≤ 2400) (hBw : B ≤ w.heap.size) (hX : X < S.n) (hax : S.al (X + 1) = true) (HB : okx S b = false) (hb0 : -9223372036854775808 ≤ b) (hb1 : b < 9223372036854775808) :
    Calls Try.prog 33 #[.pointer (some ⟨sb, 0, none⟩), .agg #[.int .i64 2, .int .i64 ((X : Int) + 1), .int .i64 b]] w (StP B sb w ov ew S hs ts S (-1)) := by
  have hI := hO.iv
  have hE := hO.ev
  have hnk := hI.n
  have al : Below w.heap.size w (w.alloc (.cells #[.int .i64 2, .int .i64 ((X : Int) + 1), .int .i64 b] 45)) := (Below.refl _ _).alloc (Nat.le_refl _) _
  have x0 : (w.alloc (.cells #[.int .i64 2, .int .i64 ((X : Int) + 1), .int .i64 b] 45)).cell? ⟨w.heap.size, 0, none⟩ = some (.int .i64 2) := by rw [World.cell?_alloc_at _ _ _ _ rfl]; rfl
  have x1 : (w.alloc (.cells #[.int .i64 2, .int .i64 ((X : Int) + 1), .int .i64 b] 45)).cell? ⟨w.heap.size, 1, none⟩ = some (.int .i64 ((X : Int) + 1)) := by rw [World.cell?_alloc_at _ _ _ _ rfl]; rfl
  have x2 : (w.alloc (.cells #[.int .i64 2, .int .i64 ((X : Int) + 1), .int .i64 b] 45)).cell? ⟨w.heap.size, 2, none⟩ = some (.int .i64 b) := by rw [World.cell?_alloc_at _ _ _ _ rfl]; rfl
  have hA := h.keep al
  have hTA : Ts sb w ov ew S hs ts (w.alloc (.cells #[.int .i64 2, .int .i64 ((X : Int) + 1), .int .i64 b] 45)) ov ew S hs ts := (h.trk al).ts0 (fun x hx => hx)
  have hszA : (w.alloc (.cells #[.int .i64 2, .int .i64 ((X : Int) + 1), .int .i64 b] 45)).heap.size = w.heap.size + 1 := by simp
  have HPG : Hid (¬ PFh sb ov ew S hs ts w.heap.size) := by
    rintro ((e | e | e) | ⟨x, hx, e | e⟩)
    · have := h.lt; omega
    · have := (h.out.lt _ e).2; omega
    · have := (h.ev.lt _ e).2; omega
    · have := ((h.hr x hx).lt _ e).2; omega
    · have := ((h.tr x hx).lt _ e).2; omega
  obtain ⟨GB, hGB⟩ : ∃ GB, w.heap.size = GB := ⟨_, rfl⟩
  go_enter Try.func33, Try.ntmps33
  go_upto_region 1 with fail
  generalize w.alloc _ = W1 at *
  rw [hGB] at x0 x1 x2 hszA HPG
  have hBW : B ≤ W1.heap.size := by omega
  have HTA : Hid (Ts sb w ov ew S hs ts W1 ov ew S hs ts) := hTA
  clear hTA al h
  have hOk := okS_any B sb K ov ew S hs ts ((X : Int) + 1) W1 hA hI (by omega) (by omega) (by omega)
  rw [okx_at, hax] at hOk
  go_wp2_with fail
  refine hOk.mono ?_
  rintro e w1 ⟨rfl, hw⟩
  obtain rfl : W1 = w1 := hw.symm
  clear hw hOk
  have hOk := okS_any B sb K ov ew S hs ts b W1 hA hI (by omega) (by omega) (by omega)
  rw [HB] at hOk
  go_wp2_with fail
  refine hOk.mono ?_
  rintro e w1 ⟨rfl, hw⟩
  obtain rfl : W1 = w1 := hw.symm
  clear hw hOk
  go_wp2
  go_ret
  exact StP.mk ⟨rfl, ov, ew, hs, ts, hA, HTA.out⟩
set_option maxRecDepth 100000 in
set_option maxHeartbeats 1000000 in
theorem step_hold (B sb K : Nat) (ov ew : Value) (S : Gs) (hs ts : Nat → Sl) (X Y : Nat) (w : World) (h : SS w B sb ov ew S hs ts) (hO : Ok K S) (hK : K ≤ 2400) (hBw : B ≤ w.heap.size) (hX : X < S.n) (hax : S.al (X + 1) = true) (hY : Y < S.n) (hay : S.al (Y + 1) = true) :
    Calls Try.prog 33 #[.pointer (some ⟨sb, 0, none⟩), .agg #[.int .i64 2, .int .i64 ((X : Int) + 1), .int .i64 ((Y : Int) + 1)]] w (StP B sb w ov ew S hs ts (holdS S (X + 1) (Y + 1)) ((cnt (holdS S (X + 1) (Y + 1)) (Y + 1) : Nat) : Int)) := by
  have hI := hO.iv
  have hE := hO.ev
  have hnk := hI.n
  have al : Below w.heap.size w (w.alloc (.cells #[.int .i64 2, .int .i64 ((X : Int) + 1), .int .i64 ((Y : Int) + 1)] 45)) := (Below.refl _ _).alloc (Nat.le_refl _) _
  have x0 : (w.alloc (.cells #[.int .i64 2, .int .i64 ((X : Int) + 1), .int .i64 ((Y : Int) + 1)] 45)).cell? ⟨w.heap.size, 0, none⟩ = some (.int .i64 2) := by rw [World.cell?_alloc_at _ _ _ _ rfl]; rfl
  have x1 : (w.alloc (.cells #[.int .i64 2, .int .i64 ((X : Int) + 1), .int .i64 ((Y : Int) + 1)] 45)).cell? ⟨w.heap.size, 1, none⟩ = some (.int .i64 ((X : Int) + 1)) := by rw [World.cell?_alloc_at _ _ _ _ rfl]; rfl
  have x2 : (w.alloc (.cells #[.int .i64 2, .int .i64 ((X : Int) + 1), .int .i64 ((Y : Int) + 1)] 45)).cell? ⟨w.heap.size, 2, none⟩ = some (.int .i64 ((Y : Int) + 1)) := by rw [World.cell?_alloc_at _ _ _ _ rfl]; rfl
  have hA := h.keep al
  have hTA : Ts sb w ov ew S hs ts (w.alloc (.cells #[.int .i64 2, .int .i64 ((X : Int) + 1), .int .i64 ((Y : Int) + 1)] 45)) ov ew S hs ts := (h.trk al).ts0 (fun x hx => hx)
  have hszA : (w.alloc (.cells #[.int .i64 2, .int .i64 ((X : Int) + 1), .int .i64 ((Y : Int) + 1)] 45)).heap.size = w.heap.size + 1 := by simp
  have HPG : Hid (¬ PFh sb ov ew S hs ts w.heap.size) := by
    rintro ((e | e | e) | ⟨x, hx, e | e⟩)
    · have := h.lt; omega
    · have := (h.out.lt _ e).2; omega
    · have := (h.ev.lt _ e).2; omega
    · have := ((h.hr x hx).lt _ e).2; omega
    · have := ((h.tr x hx).lt _ e).2; omega
  obtain ⟨GB, hGB⟩ : ∃ GB, w.heap.size = GB := ⟨_, rfl⟩
  go_enter Try.func33, Try.ntmps33
  go_upto_region 1 with fail
  generalize w.alloc _ = W1 at *
  rw [hGB] at x0 x1 x2 hszA HPG
  have hBW : B ≤ W1.heap.size := by omega
  have HTA : Hid (Ts sb w ov ew S hs ts W1 ov ew S hs ts) := hTA
  clear hTA al h
  have hOk := okS_any B sb K ov ew S hs ts ((X : Int) + 1) W1 hA hI (by omega) (by omega) (by omega)
  rw [okx_at, hax] at hOk
  go_wp2_with fail
  refine hOk.mono ?_
  rintro e w1 ⟨rfl, hw⟩
  obtain rfl : W1 = w1 := hw.symm
  clear hw hOk
  have HB : okx S ((Y : Int) + 1) = true := by rw [okx_at, hay]
  have hOk := okS_any B sb K ov ew S hs ts ((Y : Int) + 1) W1 hA hI (by omega) (by omega) (by omega)
  rw [HB] at hOk
  go_wp2_with fail
  refine hOk.mono ?_
  rintro e w1 ⟨rfl, hw⟩
  obtain rfl : W1 = w1 := hw.symm
  clear hw hOk
  have hH := holdG_any B sb K X Y ov ew S hs ts W1 hA hI (by omega) hX hY hax hBW
  have hI2 := (hO.hold (X + 1) (Y + 1) hay).iv
  clear HB
  go_wp2_with fail
  refine hH.mono ?_
  rintro e W2 ⟨rfl, hs2, ts2, hS2, hT2⟩
  have hCn := countS_any B sb (K + 1) Y ov ew (holdS S (X + 1) (Y + 1)) hs2 ts2 W2 hS2 hI2 (by omega) hY
  have y2 : W2.cell? ⟨GB, 2, none⟩ = some (.int .i64 ((Y : Int) + 1)) := (World.cell?_of_block (a := ⟨GB, 2, none⟩) (hT2.kp.block GB (by omega) HPG.out)).trans x2
  have hT3 := HTA.out.trans hT2
  clear hH hT2 x0 x1 x2
  go_wp2_with fail
  refine hCn.mono ?_
  rintro e w1 ⟨rfl, hw⟩
  obtain rfl : W2 = w1 := hw.symm
  clear hw hCn
  go_wp2
  go_ret
  exact StP.mk ⟨rfl, ov, ew, hs2, ts2, hS2, hT3⟩
set_option maxRecDepth 100000 in
set_option maxHeartbeats 1000000 in
theorem step_drop0 (B sb K : Nat) (ov ew : Value) (S : Gs) (hs ts : Nat → Sl) (X : Nat) (b : Int) (w : World) (h : SS w B sb ov ew S hs ts) (hO : Ok K S) (hK : K ≤ 2400) (hBw : B ≤ w.heap.size) (hX : X < S.n) (hax : S.al (X + 1) = true) (HB : okx S b = false) (hb0 : -9223372036854775808 ≤ b) (hb1 : b < 9223372036854775808) :
    Calls Try.prog 33 #[.pointer (some ⟨sb, 0, none⟩), .agg #[.int .i64 3, .int .i64 ((X : Int) + 1), .int .i64 b]] w (StP B sb w ov ew S hs ts S (-1)) := by
  have hI := hO.iv
  have hE := hO.ev
  have hnk := hI.n
  have al : Below w.heap.size w (w.alloc (.cells #[.int .i64 3, .int .i64 ((X : Int) + 1), .int .i64 b] 45)) := (Below.refl _ _).alloc (Nat.le_refl _) _
  have x0 : (w.alloc (.cells #[.int .i64 3, .int .i64 ((X : Int) + 1), .int .i64 b] 45)).cell? ⟨w.heap.size, 0, none⟩ = some (.int .i64 3) := by rw [World.cell?_alloc_at _ _ _ _ rfl]; rfl
  have x1 : (w.alloc (.cells #[.int .i64 3, .int .i64 ((X : Int) + 1), .int .i64 b] 45)).cell? ⟨w.heap.size, 1, none⟩ = some (.int .i64 ((X : Int) + 1)) := by rw [World.cell?_alloc_at _ _ _ _ rfl]; rfl
  have x2 : (w.alloc (.cells #[.int .i64 3, .int .i64 ((X : Int) + 1), .int .i64 b] 45)).cell? ⟨w.heap.size, 2, none⟩ = some (.int .i64 b) := by rw [World.cell?_alloc_at _ _ _ _ rfl]; rfl
  have hA := h.keep al
  have hTA : Ts sb w ov ew S hs ts (w.alloc (.cells #[.int .i64 3, .int .i64 ((X : Int) + 1), .int .i64 b] 45)) ov ew S hs ts := (h.trk al).ts0 (fun x hx => hx)
  have hszA : (w.alloc (.cells #[.int .i64 3, .int .i64 ((X : Int) + 1), .int .i64 b] 45)).heap.size = w.heap.size + 1 := by simp
  have HPG : Hid (¬ PFh sb ov ew S hs ts w.heap.size) := by
    rintro ((e | e | e) | ⟨x, hx, e | e⟩)
    · have := h.lt; omega
    · have := (h.out.lt _ e).2; omega
    · have := (h.ev.lt _ e).2; omega
    · have := ((h.hr x hx).lt _ e).2; omega
    · have := ((h.tr x hx).lt _ e).2; omega
  obtain ⟨GB, hGB⟩ : ∃ GB, w.heap.size = GB := ⟨_, rfl⟩
  go_enter Try.func33, Try.ntmps33
  go_upto_region 1 with fail
  generalize w.alloc _ = W1 at *
  rw [hGB] at x0 x1 x2 hszA HPG
  have hBW : B ≤ W1.heap.size := by omega
  have HTA : Hid (Ts sb w ov ew S hs ts W1 ov ew S hs ts) := hTA
  clear hTA al h
  have hOk := okS_any B sb K ov ew S hs ts ((X : Int) + 1) W1 hA hI (by omega) (by omega) (by omega)
  rw [okx_at, hax] at hOk
  go_wp2_with fail
  refine hOk.mono ?_
  rintro e w1 ⟨rfl, hw⟩
  obtain rfl : W1 = w1 := hw.symm
  clear hw hOk
  have hOk := okS_any B sb K ov ew S hs ts b W1 hA hI (by omega) (by omega) (by omega)
  rw [HB] at hOk
  go_wp2_with fail
  refine hOk.mono ?_
  rintro e w1 ⟨rfl, hw⟩
  obtain rfl : W1 = w1 := hw.symm
  clear hw hOk
  go_wp2
  go_ret
  exact StP.mk ⟨rfl, ov, ew, hs, ts, hA, HTA.out⟩
set_option maxRecDepth 100000 in
set_option maxHeartbeats 1000000 in
theorem step_drop1 (B sb K : Nat) (ov ew : Value) (S : Gs) (hs ts : Nat → Sl) (X Y : Nat) (w : World) (h : SS w B sb ov ew S hs ts) (hO : Ok K S) (hK : K ≤ 2400) (hBw : B ≤ w.heap.size) (hX : X < S.n) (hax : S.al (X + 1) = true) (hY : Y < S.n) (hay : S.al (Y + 1) = true) (hk : Y + 1 ∉ (S.hl (X + 1)).map (·.1)) :
    Calls Try.prog 33 #[.pointer (some ⟨sb, 0, none⟩), .agg #[.int .i64 3, .int .i64 ((X : Int) + 1), .int .i64 ((Y : Int) + 1)]] w (StP B sb w ov ew S hs ts S (-1)) := by
  have hI := hO.iv
  have hE := hO.ev
  have hnk := hI.n
  have al : Below w.heap.size w (w.alloc (.cells #[.int .i64 3, .int .i64 ((X : Int) + 1), .int .i64 ((Y : Int) + 1)] 45)) := (Below.refl _ _).alloc (Nat.le_refl _) _
  have x0 : (w.alloc (.cells #[.int .i64 3, .int .i64 ((X : Int) + 1), .int .i64 ((Y : Int) + 1)] 45)).cell? ⟨w.heap.size, 0, none⟩ = some (.int .i64 3) := by rw [World.cell?_alloc_at _ _ _ _ rfl]; rfl
  have x1 : (w.alloc (.cells #[.int .i64 3, .int .i64 ((X : Int) + 1), .int .i64 ((Y : Int) + 1)] 45)).cell? ⟨w.heap.size, 1, none⟩ = some (.int .i64 ((X : Int) + 1)) := by rw [World.cell?_alloc_at _ _ _ _ rfl]; rfl
  have x2 : (w.alloc (.cells #[.int .i64 3, .int .i64 ((X : Int) + 1), .int .i64 ((Y : Int) + 1)] 45)).cell? ⟨w.heap.size, 2, none⟩ = some (.int .i64 ((Y : Int) + 1)) := by rw [World.cell?_alloc_at _ _ _ _ rfl]; rfl
  have hA := h.keep al
  have hTA : Ts sb w ov ew S hs ts (w.alloc (.cells #[.int .i64 3, .int .i64 ((X : Int) + 1), .int .i64 ((Y : Int) + 1)] 45)) ov ew S hs ts := (h.trk al).ts0 (fun x hx => hx)
  have hszA : (w.alloc (.cells #[.int .i64 3, .int .i64 ((X : Int) + 1), .int .i64 ((Y : Int) + 1)] 45)).heap.size = w.heap.size + 1 := by simp
  have HPG : Hid (¬ PFh sb ov ew S hs ts w.heap.size) := by
    rintro ((e | e | e) | ⟨x, hx, e | e⟩)
    · have := h.lt; omega
    · have := (h.out.lt _ e).2; omega
    · have := (h.ev.lt _ e).2; omega
    · have := ((h.hr x hx).lt _ e).2; omega
    · have := ((h.tr x hx).lt _ e).2; omega
  obtain ⟨GB, hGB⟩ : ∃ GB, w.heap.size = GB := ⟨_, rfl⟩
  go_enter Try.func33, Try.ntmps33
  go_upto_region 1 with fail
  generalize w.alloc _ = W1 at *
  rw [hGB] at x0 x1 x2 hszA HPG
  have hBW : B ≤ W1.heap.size := by omega
  have HTA : Hid (Ts sb w ov ew S hs ts W1 ov ew S hs ts) := hTA
  clear hTA al h
  have hOk := okS_any B sb K ov ew S hs ts ((X : Int) + 1) W1 hA hI (by omega) (by omega) (by omega)
  rw [okx_at, hax] at hOk
  go_wp2_with fail
  refine hOk.mono ?_
  rintro e w1 ⟨rfl, hw⟩
  obtain rfl : W1 = w1 := hw.symm
  clear hw hOk
  have HB : okx S ((Y : Int) + 1) = true := by rw [okx_at, hay]
  have hOk := okS_any B sb K ov ew S hs ts ((Y : Int) + 1) W1 hA hI (by omega) (by omega) (by omega)
  rw [HB] at hOk
  go_wp2_with fail
  refine hOk.mono ?_
  rintro e w1 ⟨rfl, hw⟩
  obtain rfl : W1 = w1 := hw.symm
  clear hw hOk
  have hH := dropG_any B sb K X Y ov ew S hs ts W1 hA hI (by omega) hX hY hax hBW
  rw [decide_eq_false hk] at hH
  have HDS : Hid (dropS S (X + 1) (Y + 1) = S) := by
    show _ = _
    unfold dropS
    rw [dec_none _ _ (fun q hq e => hk (mem_keys.2 ⟨q, hq, e⟩)), upd_id]
  rw [HDS.out] at hH
  clear HB
  go_wp2_with fail
  refine hH.mono ?_
  rintro e W2 ⟨rfl, hs2, ts2, hS2, hT2⟩
  have hT3 := HTA.out.trans hT2
  clear hH hT2
  go_wp2
  go_ret
  exact StP.mk ⟨rfl, ov, ew, hs2, ts2, hS2, hT3⟩
set_option maxRecDepth 100000 in
set_option maxHeartbeats 1000000 in
theorem step_drop (B sb K : Nat) (ov ew : Value) (S : Gs) (hs ts : Nat → Sl) (X Y : Nat) (w : World) (h : SS w B sb ov ew S hs ts) (hO : Ok K S) (hK : K ≤ 2400) (hBw : B ≤ w.heap.size) (hX : X < S.n) (hax : S.al (X + 1) = true) (hY : Y < S.n) (hay : S.al (Y + 1) = true) (hk : Y + 1 ∈ (S.hl (X + 1)).map (·.1)) :
    Calls Try.prog 33 #[.pointer (some ⟨sb, 0, none⟩), .agg #[.int .i64 3, .int .i64 ((X : Int) + 1), .int .i64 ((Y : Int) + 1)]] w (StP B sb w ov ew S hs ts (look S.n (dropS S (X + 1) (Y + 1)) (Y + 1)) ((leftS (look S.n (dropS S (X + 1) (Y + 1)) (Y + 1)) (Y + 1) : Nat) : Int)) := by
  have hI := hO.iv
  have hE := hO.ev
  have hnk := hI.n
  have al : Below w.heap.size w (w.alloc (.cells #[.int .i64 3, .int .i64 ((X : Int) + 1), .int .i64 ((Y : Int) + 1)] 45)) := (Below.refl _ _).alloc (Nat.le_refl _) _
  have x0 : (w.alloc (.cells #[.int .i64 3, .int .i64 ((X : Int) + 1), .int .i64 ((Y : Int) + 1)] 45)).cell? ⟨w.heap.size, 0, none⟩ = some (.int .i64 3) := by rw [World.cell?_alloc_at _ _ _ _ rfl]; rfl
  have x1 : (w.alloc (.cells #[.int .i64 3, .int .i64 ((X : Int) + 1), .int .i64 ((Y : Int) + 1)] 45)).cell? ⟨w.heap.size, 1, none⟩ = some (.int .i64 ((X : Int) + 1)) := by rw [World.cell?_alloc_at _ _ _ _ rfl]; rfl
  have x2 : (w.alloc (.cells #[.int .i64 3, .int .i64 ((X : Int) + 1), .int .i64 ((Y : Int) + 1)] 45)).cell? ⟨w.heap.size, 2, none⟩ = some (.int .i64 ((Y : Int) + 1)) := by rw [World.cell?_alloc_at _ _ _ _ rfl]; rfl
  have hA := h.keep al
  have hTA : Ts sb w ov ew S hs ts (w.alloc (.cells #[.int .i64 3, .int .i64 ((X : Int) + 1), .int .i64 ((Y : Int) + 1)] 45)) ov ew S hs ts := (h.trk al).ts0 (fun x hx => hx)
  have hszA : (w.alloc (.cells #[.int .i64 3, .int .i64 ((X : Int) + 1), .int .i64 ((Y : Int) + 1)] 45)).heap.size = w.heap.size + 1 := by simp
  have HPG : Hid (¬ PFh sb ov ew S hs ts w.heap.size) := by
    rintro ((e | e | e) | ⟨x, hx, e | e⟩)
    · have := h.lt; omega
    · have := (h.out.lt _ e).2; omega
    · have := (h.ev.lt _ e).2; omega
    · have := ((h.hr x hx).lt _ e).2; omega
    · have := ((h.tr x hx).lt _ e).2; omega
  obtain ⟨GB, hGB⟩ : ∃ GB, w.heap.size = GB := ⟨_, rfl⟩
  go_enter Try.func33, Try.ntmps33
  go_upto_region 1 with fail
  generalize w.alloc _ = W1 at *
  rw [hGB] at x0 x1 x2 hszA HPG
  have hBW : B ≤ W1.heap.size := by omega
  have HTA : Hid (Ts sb w ov ew S hs ts W1 ov ew S hs ts) := hTA
  clear hTA al h
  have hOk := okS_any B sb K ov ew S hs ts ((X : Int) + 1) W1 hA hI (by omega) (by omega) (by omega)
  rw [okx_at, hax] at hOk
  go_wp2_with fail
  refine hOk.mono ?_
  rintro e w1 ⟨rfl, hw⟩
  obtain rfl : W1 = w1 := hw.symm
  clear hw hOk
  have HB : okx S ((Y : Int) + 1) = true := by rw [okx_at, hay]
  have hOk := okS_any B sb K ov ew S hs ts ((Y : Int) + 1) W1 hA hI (by omega) (by omega) (by omega)
  rw [HB] at hOk
  go_wp2_with fail
  refine hOk.mono ?_
  rintro e w1 ⟨rfl, hw⟩
  obtain rfl : W1 = w1 := hw.symm
  clear hw hOk
  have hH := dropG_any B sb K X Y ov ew S hs ts W1 hA hI (by omega) hX hY hax hBW
  rw [decide_eq_true hk] at hH
  have hO2 := hO.drop (X + 1) (Y + 1)
  clear HB hk
  go_wp2_with fail
  refine hH.mono ?_
  rintro e W2 ⟨rfl, hs2, ts2, hS2, hT2⟩
  have y2 : W2.cell? ⟨GB, 2, none⟩ = some (.int .i64 ((Y : Int) + 1)) := (World.cell?_of_block (a := ⟨GB, 2, none⟩) (hT2.kp.block GB (by omega) HPG.out)).trans x2
  have hT12 := HTA.out.trans hT2
  have hPG2 : ¬ PFh sb ov ew (dropS S (X + 1) (Y + 1)) hs2 ts2 GB := fun hp => by
    rcases hT2.nw GB hp with h1 | h1
    · exact HPG.out h1
    · omega
  have hz2 := hT2.kp.size
  clear hH hT2 x0 x1 x2
  have hLk := lookS_any B sb K ov (by omega) S.n Y ew (dropS S (X + 1) (Y + 1)) hs2 ts2 W2 hS2 hO2.iv hO2.ev (alv_le _) hY
  have hO3 := hO2.look S.n (Y + 1)
  have hLk2 := (look_all K S.n (dropS S (X + 1) (Y + 1)) (Y + 1) hO2.iv hO2.ev).2.2
  go_wp2_with fail
  refine hLk.mono ?_
  rintro e W3 ⟨rfl, ew3, hs3, ts3, hS3, hT3, hD3⟩
  have hTs3 := hT3.ts (S := dropS S (X + 1) (Y + 1)) (S' := look S.n (dropS S (X + 1) (Y + 1)) (Y + 1)) (hs := hs2) (ts := ts2) (hs' := hs3) (ts' := ts3) (fun x hx => ⟨hLk2.al x hx, (hD3 x (.inr hx)).1, (hD3 x (.inr hx)).2⟩)
  have y3 : W3.cell? ⟨GB, 2, none⟩ = some (.int .i64 ((Y : Int) + 1)) := (World.cell?_of_block (a := ⟨GB, 2, none⟩) (hTs3.kp.block GB (by omega) hPG2)).trans y2
  have hT13 := hT12.trans hTs3
  have hLf := leftS_any B sb K Y ov ew3 (look S.n (dropS S (X + 1) (Y + 1)) (Y + 1)) hs3 ts3 W3 hS3 hO3.iv (by omega) (by rw [hLk2.n]; exact hY)
  clear hLk hT12 hTs3 hT3 hD3 y2 hPG2
  go_wp2_with fail
  refine hLf.mono ?_
  rintro e w1 ⟨rfl, hw⟩
  obtain rfl : W3 = w1 := hw.symm
  clear hw hLf
  go_wp2
  go_ret
  exact StP.mk ⟨rfl, ov, ew3, hs3, ts3, hS3, hT13⟩
set_option maxRecDepth 100000 in
set_option maxHeartbeats 1000000 in
theorem step_root (B sb K : Nat) (ov ew : Value) (S : Gs) (hs ts : Nat → Sl) (X : Nat) (b : Int) (w : World) (h : SS w B sb ov ew S hs ts) (hO : Ok K S) (hK : K ≤ 2400) (hBw : B ≤ w.heap.size) (hX : X < S.n) (hax : S.al (X + 1) = true) :
    Calls Try.prog 33 #[.pointer (some ⟨sb, 0, none⟩), .agg #[.int .i64 4, .int .i64 ((X : Int) + 1), .int .i64 b]] w (StP B sb w ov ew S hs ts (rootS S (X + 1)) ((cnt (rootS S (X + 1)) (X + 1) : Nat) : Int)) := by
  have hI := hO.iv
  have hE := hO.ev
  have hnk := hI.n
  have al : Below w.heap.size w (w.alloc (.cells #[.int .i64 4, .int .i64 ((X : Int) + 1), .int .i64 b] 45)) := (Below.refl _ _).alloc (Nat.le_refl _) _
  have x0 : (w.alloc (.cells #[.int .i64 4, .int .i64 ((X : Int) + 1), .int .i64 b] 45)).cell? ⟨w.heap.size, 0, none⟩ = some (.int .i64 4) := by rw [World.cell?_alloc_at _ _ _ _ rfl]; rfl
  have x1 : (w.alloc (.cells #[.int .i64 4, .int .i64 ((X : Int) + 1), .int .i64 b] 45)).cell? ⟨w.heap.size, 1, none⟩ = some (.int .i64 ((X : Int) + 1)) := by rw [World.cell?_alloc_at _ _ _ _ rfl]; rfl
  have x2 : (w.alloc (.cells #[.int .i64 4, .int .i64 ((X : Int) + 1), .int .i64 b] 45)).cell? ⟨w.heap.size, 2, none⟩ = some (.int .i64 b) := by rw [World.cell?_alloc_at _ _ _ _ rfl]; rfl
  have hA := h.keep al
  have hTA : Ts sb w ov ew S hs ts (w.alloc (.cells #[.int .i64 4, .int .i64 ((X : Int) + 1), .int .i64 b] 45)) ov ew S hs ts := (h.trk al).ts0 (fun x hx => hx)
  have hszA : (w.alloc (.cells #[.int .i64 4, .int .i64 ((X : Int) + 1), .int .i64 b] 45)).heap.size = w.heap.size + 1 := by simp
  have HPG : Hid (¬ PFh sb ov ew S hs ts w.heap.size) := by
    rintro ((e | e | e) | ⟨x, hx, e | e⟩)
    · have := h.lt; omega
    · have := (h.out.lt _ e).2; omega
    · have := (h.ev.lt _ e).2; omega
    · have := ((h.hr x hx).lt _ e).2; omega
    · have := ((h.tr x hx).lt _ e).2; omega
  obtain ⟨GB, hGB⟩ : ∃ GB, w.heap.size = GB := ⟨_, rfl⟩
  go_enter Try.func33, Try.ntmps33
  go_upto_region 1 with fail
  generalize w.alloc _ = W1 at *
  rw [hGB] at x0 x1 x2 hszA HPG
  have hBW : B ≤ W1.heap.size := by omega
  have HTA : Hid (Ts sb w ov ew S hs ts W1 ov ew S hs ts) := hTA
  clear hTA al h
  have hOk := okS_any B sb K ov ew S hs ts ((X : Int) + 1) W1 hA hI (by omega) (by omega) (by omega)
  rw [okx_at, hax] at hOk
  go_wp2_with fail
  refine hOk.mono ?_
  rintro e w1 ⟨rfl, hw⟩
  obtain rfl : W1 = w1 := hw.symm
  clear hw hOk
  obtain ⟨ob, cap, hov, hobl, hobz⟩ := hA.shape (by omega)
  obtain ⟨c, b0, b1, b2, bf⟩ := hA.boxc
  have d3 := (hA.cells hov X hX).2.2.2.1
  have f3 := hA.frozen hov (X * 7 + 3)
  rw [hov] at b0
  have HOV : Hid (ov = .slice (some ⟨ob, 0, none⟩) S.n cap) := hov
  have hXi : (X : Int) < (S.n : Int) := by omega
  clear hov
  have hrt := hI.rt (X + 1)
  have hrb : S.rt (X + 1) ≤ 3000 := by split at hrt <;> omega
  obtain ⟨hS2, hT2⟩ := hA.setRt HOV.out X hX (S.rt (X + 1) + 1)
  have hS3 := hS2.keep (Below.refl _ _).drew
  have hTs := (hT2.trans (hS2.trk (Below.refl _ _).drew)).ts0 (S := S) (S' := rootS S (X + 1)) (hs := hs) (ts := ts) (fun x hx => hx)
  have HS3 : Hid (SS (W1.setCell ⟨ob, X * 7 + 3, none⟩ (.int .i64 ((S.rt (X + 1) : Int) + 1))).drew B sb ov ew (rootS S (X + 1)) hs ts) := hS3
  have HT3 : Hid (Ts sb w ov ew S hs ts (W1.setCell ⟨ob, X * 7 + 3, none⟩ (.int .i64 ((S.rt (X + 1) : Int) + 1))).drew ov ew (rootS S (X + 1)) hs ts) := HTA.out.trans hTs
  have HY1 : Hid ((W1.setCell ⟨ob, X * 7 + 3, none⟩ (.int .i64 ((S.rt (X + 1) : Int) + 1))).drew.cell? ⟨GB, 1, none⟩ = some (.int .i64 ((X : Int) + 1))) := (World.cell?_of_block (a := ⟨GB, 1, none⟩) (hTs.kp.block GB (by omega) HPG.out)).trans x1
  have hO2 := hO.root (X + 1)
  have hCn := countS_any B sb (K + 1) X ov ew (rootS S (X + 1)) hs ts _ HS3.out hO2.iv (by omega) hX
  obtain ⟨RT, hRT⟩ : ∃ RT : Nat, S.rt (X + 1) = RT := ⟨_, rfl⟩
  rw [hRT] at d3 hrb HS3 HT3 HY1 hCn
  clear hS2 hT2 hS3 hTs hRT hrt hA
  go_upto_region 29 with fail
  go_region
  generalize (W1.setCell ⟨ob, X * 7 + 3, none⟩ (.int .i64 ((RT : Int) + 1))).drew = W2 at *
  have y1 := HY1.out
  clear x0 x1 x2 b0 b1 b2 bf d3 f3
  go_wp2_with fail
  refine hCn.mono ?_
  rintro e w1 ⟨rfl, hw⟩
  obtain rfl : W2 = w1 := hw.symm
  clear hw hCn
  go_wp2
  go_ret
  exact StP.mk ⟨rfl, ov, ew, hs, ts, HS3.out, HT3.out⟩
set_option maxRecDepth 100000 in
set_option maxHeartbeats 1000000 in
theorem step_unroot0 (B sb K : Nat) (ov ew : Value) (S : Gs) (hs ts : Nat → Sl) (X : Nat) (b : Int) (w : World) (h : SS w B sb ov ew S hs ts) (hO : Ok K S) (hK : K ≤ 2400) (hBw : B ≤ w.heap.size) (hX : X < S.n) (hax : S.al (X + 1) = true) (hr0 : S.rt (X + 1) = 0) :
    Calls Try.prog 33 #[.pointer (some ⟨sb, 0, none⟩), .agg #[.int .i64 5, .int .i64 ((X : Int) + 1), .int .i64 b]] w (StP B sb w ov ew S hs ts S (-1)) := by
  have hI := hO.iv
  have hE := hO.ev
  have hnk := hI.n
  have al : Below w.heap.size w (w.alloc (.cells #[.int .i64 5, .int .i64 ((X : Int) + 1), .int .i64 b] 45)) := (Below.refl _ _).alloc (Nat.le_refl _) _
  have x0 : (w.alloc (.cells #[.int .i64 5, .int .i64 ((X : Int) + 1), .int .i64 b] 45)).cell? ⟨w.heap.size, 0, none⟩ = some (.int .i64 5) := by rw [World.cell?_alloc_at _ _ _ _ rfl]; rfl
  have x1 : (w.alloc (.cells #[.int .i64 5, .int .i64 ((X : Int) + 1), .int .i64 b] 45)).cell? ⟨w.heap.size, 1, none⟩ = some (.int .i64 ((X : Int) + 1)) := by rw [World.cell?_alloc_at _ _ _ _ rfl]; rfl
  have x2 : (w.alloc (.cells #[.int .i64 5, .int .i64 ((X : Int) + 1), .int .i64 b] 45)).cell? ⟨w.heap.size, 2, none⟩ = some (.int .i64 b) := by rw [World.cell?_alloc_at _ _ _ _ rfl]; rfl
  have hA := h.keep al
  have hTA : Ts sb w ov ew S hs ts (w.alloc (.cells #[.int .i64 5, .int .i64 ((X : Int) + 1), .int .i64 b] 45)) ov ew S hs ts := (h.trk al).ts0 (fun x hx => hx)
  have hszA : (w.alloc (.cells #[.int .i64 5, .int .i64 ((X : Int) + 1), .int .i64 b] 45)).heap.size = w.heap.size + 1 := by simp
  have HPG : Hid (¬ PFh sb ov ew S hs ts w.heap.size) := by
    rintro ((e | e | e) | ⟨x, hx, e | e⟩)
    · have := h.lt; omega
    · have := (h.out.lt _ e).2; omega
    · have := (h.ev.lt _ e).2; omega
    · have := ((h.hr x hx).lt _ e).2; omega
    · have := ((h.tr x hx).lt _ e).2; omega
  obtain ⟨GB, hGB⟩ : ∃ GB, w.heap.size = GB := ⟨_, rfl⟩
  go_enter Try.func33, Try.ntmps33
  go_upto_region 1 with fail
  generalize w.alloc _ = W1 at *
  rw [hGB] at x0 x1 x2 hszA HPG
  have hBW : B ≤ W1.heap.size := by omega
  have HTA : Hid (Ts sb w ov ew S hs ts W1 ov ew S hs ts) := hTA
  clear hTA al h
  have hOk := okS_any B sb K ov ew S hs ts ((X : Int) + 1) W1 hA hI (by omega) (by omega) (by omega)
  rw [okx_at, hax] at hOk
  go_wp2_with fail
  refine hOk.mono ?_
  rintro e w1 ⟨rfl, hw⟩
  obtain rfl : W1 = w1 := hw.symm
  clear hw hOk
  obtain ⟨ob, cap, hov, hobl, hobz⟩ := hA.shape (by omega)
  obtain ⟨c, b0, b1, b2, bf⟩ := hA.boxc
  have d3 := (hA.cells hov X hX).2.2.2.1
  have f3 := hA.frozen hov (X * 7 + 3)
  rw [hov] at b0
  have HOV : Hid (ov = .slice (some ⟨ob, 0, none⟩) S.n cap) := hov
  have hXi : (X : Int) < (S.n : Int) := by omega
  clear hov
  rw [hr0] at d3
  have HSd : Hid (SS W1.drew B sb ov ew S hs ts) := hA.keep (Below.refl _ _).drew
  have HTd : Hid (Ts sb w ov ew S hs ts W1.drew ov ew S hs ts) := HTA.out.trans ((hA.trk (Below.refl _ _).drew).ts0 (fun x hx => hx))
  clear hA hr0
  go_upto_region 32 with fail
  go_region
  go_wp2
  go_ret
  exact StP.mk ⟨rfl, ov, ew, hs, ts, HSd.out, HTd.out⟩
set_option maxRecDepth 100000 in
set_option maxHeartbeats 1000000 in
theorem step_unroot (B sb K : Nat) (ov ew : Value) (S : Gs) (hs ts : Nat → Sl) (X : Nat) (b : Int) (w : World) (h : SS w B sb ov ew S hs ts) (hO : Ok K S) (hK : K ≤ 2400) (hBw : B ≤ w.heap.size) (hX : X < S.n) (hax : S.al (X + 1) = true) (hr0 : S.rt (X + 1) ≠ 0) :
    Calls Try.prog 33 #[.pointer (some ⟨sb, 0, none⟩), .agg #[.int .i64 5, .int .i64 ((X : Int) + 1), .int .i64 b]] w (StP B sb w ov ew S hs ts (look S.n (unrootS S (X + 1)) (X + 1)) ((leftS (look S.n (unrootS S (X + 1)) (X + 1)) (X + 1) : Nat) : Int)) := by
  have hI := hO.iv
  have hE := hO.ev
  have hnk := hI.n
  have al : Below w.heap.size w (w.alloc (.cells #[.int .i64 5, .int .i64 ((X : Int) + 1), .int .i64 b] 45)) := (Below.refl _ _).alloc (Nat.le_refl _) _
  have x0 : (w.alloc (.cells #[.int .i64 5, .int .i64 ((X : Int) + 1), .int .i64 b] 45)).cell? ⟨w.heap.size, 0, none⟩ = some (.int .i64 5) := by rw [World.cell?_alloc_at _ _ _ _ rfl]; rfl
  have x1 : (w.alloc (.cells #[.int .i64 5, .int .i64 ((X : Int) + 1), .int .i64 b] 45)).cell? ⟨w.heap.size, 1, none⟩ = some (.int .i64 ((X : Int) + 1)) := by rw [World.cell?_alloc_at _ _ _ _ rfl]; rfl
  have x2 : (w.alloc (.cells #[.int .i64 5, .int .i64 ((X : Int) + 1), .int .i64 b] 45)).cell? ⟨w.heap.size, 2, none⟩ = some (.int .i64 b) := by rw [World.cell?_alloc_at _ _ _ _ rfl]; rfl
  have hA := h.keep al
  have hTA : Ts sb w ov ew S hs ts (w.alloc (.cells #[.int .i64 5, .int .i64 ((X : Int) + 1), .int .i64 b] 45)) ov ew S hs ts := (h.trk al).ts0 (fun x hx => hx)
  have hszA : (w.alloc (.cells #[.int .i64 5, .int .i64 ((X : Int) + 1), .int .i64 b] 45)).heap.size = w.heap.size + 1 := by simp
  have HPG : Hid (¬ PFh sb ov ew S hs ts w.heap.size) := by
    rintro ((e | e | e) | ⟨x, hx, e | e⟩)
    · have := h.lt; omega
    · have := (h.out.lt _ e).2; omega
    · have := (h.ev.lt _ e).2; omega
    · have := ((h.hr x hx).lt _ e).2; omega
    · have := ((h.tr x hx).lt _ e).2; omega
  obtain ⟨GB, hGB⟩ : ∃ GB, w.heap.size = GB := ⟨_, rfl⟩
  go_enter Try.func33, Try.ntmps33
  go_upto_region 1 with fail
  generalize w.alloc _ = W1 at *
  rw [hGB] at x0 x1 x2 hszA HPG
  have hBW : B ≤ W1.heap.size := by omega
  have HTA : Hid (Ts sb w ov ew S hs ts W1 ov ew S hs ts) := hTA
  clear hTA al h
  have hOk := okS_any B sb K ov ew S hs ts ((X : Int) + 1) W1 hA hI (by omega) (by omega) (by omega)
  rw [okx_at, hax] at hOk
  go_wp2_with fail
  refine hOk.mono ?_
  rintro e w1 ⟨rfl, hw⟩
  obtain rfl : W1 = w1 := hw.symm
  clear hw hOk
  obtain ⟨ob, cap, hov, hobl, hobz⟩ := hA.shape (by omega)
  obtain ⟨c, b0, b1, b2, bf⟩ := hA.boxc
  have d3 := (hA.cells hov X hX).2.2.2.1
  have f3 := hA.frozen hov (X * 7 + 3)
  rw [hov] at b0
  have HOV : Hid (ov = .slice (some ⟨ob, 0, none⟩) S.n cap) := hov
  have hXi : (X : Int) < (S.n : Int) := by omega
  clear hov
  have hrt := hI.rt (X + 1)
  have hrb : S.rt (X + 1) ≤ 3000 := by split at hrt <;> omega
  obtain ⟨RT, hRT⟩ : ∃ RT : Nat, S.rt (X + 1) = RT + 1 := ⟨S.rt (X + 1) - 1, by omega⟩
  obtain ⟨hS2, hT2⟩ := hA.setRt HOV.out X hX RT
  have hS3a := hS2.keep (Below.refl _ _).drew
  have hS3 := hS3a.keep (Below.refl _ _).drew
  have hun : unrootS S (X + 1) = { S with rt := upd S.rt (X + 1) RT } := by unfold unrootS; rw [hRT]; rfl
  have hTs := ((hT2.trans (hS2.trk (Below.refl _ _).drew)).trans (hS3a.trk (Below.refl _ _).drew)).ts0 (S := S) (S' := unrootS S (X + 1)) (hs := hs) (ts := ts) (fun x hx => hx)
  have HS3 : Hid (SS (W1.setCell ⟨ob, X * 7 + 3, none⟩ (.int .i64 (RT : Nat))).drew.drew B sb ov ew (unrootS S (X + 1)) hs ts) := by show SS _ _ _ _ _ _ _ _; rw [hun]; exact hS3
  have HT3 : Hid (Ts sb w ov ew S hs ts (W1.setCell ⟨ob, X * 7 + 3, none⟩ (.int .i64 (RT : Nat))).drew.drew ov ew (unrootS S (X + 1)) hs ts) := HTA.out.trans hTs
  have HY1 : Hid ((W1.setCell ⟨ob, X * 7 + 3, none⟩ (.int .i64 (RT : Nat))).drew.drew.cell? ⟨GB, 1, none⟩ = some (.int .i64 ((X : Int) + 1))) := (World.cell?_of_block (a := ⟨GB, 1, none⟩) (hTs.kp.block GB (by omega) HPG.out)).trans x1
  have hz2 := hTs.kp.size
  have hPG2 : ¬ PFh sb ov ew (unrootS S (X + 1)) hs ts GB := fun hp => by
    rcases hTs.nw GB hp with h1 | h1
    · exact HPG.out h1
    · omega
  have hO2 := hO.unroot (X + 1)
  rw [hRT, show ((RT + 1 : Nat) : Int) = (RT : Int) + 1 by omega] at d3
  have e3 : (((RT : Int) + 1) == 0) = false := by rw [beq_eq_false_iff_ne]; omega
  have hRb : RT ≤ 3000 := by omega
  clear hS2 hT2 hS3 hTs hrt hA hS3a hun hRT hr0 hrb
  go_upto_region 32 with fail
  go_region
  go_upto_region 34 with fail
  go_region
  generalize (W1.setCell ⟨ob, X * 7 + 3, none⟩ (.int .i64 (RT : Nat))).drew.drew = W2 at *
  have y1 := HY1.out
  have hS2 := HS3.out
  obtain ⟨hs2, hhs⟩ : ∃ hs2, hs = hs2 := ⟨_, rfl⟩
  obtain ⟨ts2, hts⟩ : ∃ ts2, ts = ts2 := ⟨_, rfl⟩
  subst hhs hts
  clear x0 x1 x2 b0 b1 b2 bf d3 f3
  have hLk := lookS_any B sb K ov (by omega) S.n X ew (unrootS S (X + 1)) hs ts W2 hS2 hO2.iv hO2.ev (alv_le _) hX
  have hO3 := hO2.look S.n (X + 1)
  have hLk2 := (look_all K S.n (unrootS S (X + 1)) (X + 1) hO2.iv hO2.ev).2.2
  go_wp2_with fail
  refine hLk.mono ?_
  rintro e W3 ⟨rfl, ew3, hs3, ts3, hS3, hT3, hD3⟩
  have hTs3 := hT3.ts (S := unrootS S (X + 1)) (S' := look S.n (unrootS S (X + 1)) (X + 1)) (hs := hs) (ts := ts) (hs' := hs3) (ts' := ts3) (fun x hx => ⟨hLk2.al x hx, (hD3 x (.inr hx)).1, (hD3 x (.inr hx)).2⟩)
  have y3 : W3.cell? ⟨GB, 1, none⟩ = some (.int .i64 ((X : Int) + 1)) := (World.cell?_of_block (a := ⟨GB, 1, none⟩) (hTs3.kp.block GB (by omega) hPG2)).trans y1
  have hT13 := HT3.out.trans hTs3
  have hLf := leftS_any B sb K X ov ew3 (look S.n (unrootS S (X + 1)) (X + 1)) hs3 ts3 W3 hS3 hO3.iv (by omega) (by rw [hLk2.n]; exact hX)
  clear hLk hTs3 hT3 hD3 y1 hPG2
  go_wp2_with fail
  refine hLf.mono ?_
  rintro e w1 ⟨rfl, hw⟩
  obtain rfl : W3 = w1 := hw.symm
  clear hw hLf
  go_wp2
  go_ret
  exact StP.mk ⟨rfl, ov, ew3, hs3, ts3, hS3, hT13⟩
set_option maxRecDepth 100000 in
set_option maxHeartbeats 1000000 in
theorem step_weak (B sb K : Nat) (ov ew : Value) (S : Gs) (hs ts : Nat → Sl) (X : Nat) (b : Int) (w : World) (h : SS w B sb ov ew S hs ts) (hO : Ok K S) (hK : K ≤ 2400) (hBw : B ≤ w.heap.size) (hX : X < S.n) (hax : S.al (X + 1) = true) :
    Calls Try.prog 33 #[.pointer (some ⟨sb, 0, none⟩), .agg #[.int .i64 6, .int .i64 ((X : Int) + 1), .int .i64 b]] w (StP B sb w ov ew S hs ts (weakenS S (X + 1)) ((S.wk (X + 1) + 1 : Nat) : Int)) := by
  have hI := hO.iv
  have hE := hO.ev
  have hnk := hI.n
  have al : Below w.heap.size w (w.alloc (.cells #[.int .i64 6, .int .i64 ((X : Int) + 1), .int .i64 b] 45)) := (Below.refl _ _).alloc (Nat.le_refl _) _
  have x0 : (w.alloc (.cells #[.int .i64 6, .int .i64 ((X : Int) + 1), .int .i64 b] 45)).cell? ⟨w.heap.size, 0, none⟩ = some (.int .i64 6) := by rw [World.cell?_alloc_at _ _ _ _ rfl]; rfl
  have x1 : (w.alloc (.cells #[.int .i64 6, .int .i64 ((X : Int) + 1), .int .i64 b] 45)).cell? ⟨w.heap.size, 1, none⟩ = some (.int .i64 ((X : Int) + 1)) := by rw [World.cell?_alloc_at _ _ _ _ rfl]; rfl
  have x2 : (w.alloc (.cells #[.int .i64 6, .int .i64 ((X : Int) + 1), .int .i64 b] 45)).cell? ⟨w.heap.size, 2, none⟩ = some (.int .i64 b) := by rw [World.cell?_alloc_at _ _ _ _ rfl]; rfl
  have hA := h.keep al
  have hTA : Ts sb w ov ew S hs ts (w.alloc (.cells #[.int .i64 6, .int .i64 ((X : Int) + 1), .int .i64 b] 45)) ov ew S hs ts := (h.trk al).ts0 (fun x hx => hx)
  have hszA : (w.alloc (.cells #[.int .i64 6, .int .i64 ((X : Int) + 1), .int .i64 b] 45)).heap.size = w.heap.size + 1 := by simp
  have HPG : Hid (¬ PFh sb ov ew S hs ts w.heap.size) := by
    rintro ((e | e | e) | ⟨x, hx, e | e⟩)
    · have := h.lt; omega
    · have := (h.out.lt _ e).2; omega
    · have := (h.ev.lt _ e).2; omega
    · have := ((h.hr x hx).lt _ e).2; omega
    · have := ((h.tr x hx).lt _ e).2; omega
  obtain ⟨GB, hGB⟩ : ∃ GB, w.heap.size = GB := ⟨_, rfl⟩
  go_enter Try.func33, Try.ntmps33
  go_upto_region 1 with fail
  generalize w.alloc _ = W1 at *
  rw [hGB] at x0 x1 x2 hszA HPG
  have hBW : B ≤ W1.heap.size := by omega
  have HTA : Hid (Ts sb w ov ew S hs ts W1 ov ew S hs ts) := hTA
  clear hTA al h
  have hOk := okS_any B sb K ov ew S hs ts ((X : Int) + 1) W1 hA hI (by omega) (by omega) (by omega)
  rw [okx_at, hax] at hOk
  go_wp2_with fail
  refine hOk.mono ?_
  rintro e w1 ⟨rfl, hw⟩
  obtain rfl : W1 = w1 := hw.symm
  clear hw hOk
  obtain ⟨ob, cap, hov, hobl, hobz⟩ := hA.shape (by omega)
  obtain ⟨c, b0, b1, b2, bf⟩ := hA.boxc
  have d4 := (hA.cells hov X hX).2.2.2.2.1
  have f4 := hA.frozen hov (X * 7 + 4)
  rw [hov] at b0
  have HOV : Hid (ov = .slice (some ⟨ob, 0, none⟩) S.n cap) := hov
  have hXi : (X : Int) < (S.n : Int) := by omega
  clear hov
  have hwb := hI.wk (X + 1)
  obtain ⟨hS2, hT2⟩ := hA.setWk HOV.out X hX (S.wk (X + 1) + 1)
  have hS3 := hS2.keep (Below.refl _ _).drew
  have hTs := (hT2.trans (hS2.trk (Below.refl _ _).drew)).ts0 (S := S) (S' := weakenS S (X + 1)) (hs := hs) (ts := ts) (fun x hx => hx)
  have HS3 : Hid (SS (W1.setCell ⟨ob, X * 7 + 4, none⟩ (.int .i64 ((S.wk (X + 1) : Int) + 1))).drew B sb ov ew (weakenS S (X + 1)) hs ts) := hS3
  have HT3 : Hid (Ts sb w ov ew S hs ts (W1.setCell ⟨ob, X * 7 + 4, none⟩ (.int .i64 ((S.wk (X + 1) : Int) + 1))).drew ov ew (weakenS S (X + 1)) hs ts) := HTA.out.trans hTs
  have HY1 : Hid ((W1.setCell ⟨ob, X * 7 + 4, none⟩ (.int .i64 ((S.wk (X + 1) : Int) + 1))).drew.cell? ⟨GB, 1, none⟩ = some (.int .i64 ((X : Int) + 1))) := (World.cell?_of_block (a := ⟨GB, 1, none⟩) (hTs.kp.block GB (by omega) HPG.out)).trans x1
  obtain ⟨c9, g0, -, -, -⟩ := hS3.boxc
  have g4 := (hS3.cells HOV.out X hX).2.2.2.2.1
  have g4' : (W1.setCell ⟨ob, X * 7 + 4, none⟩ (.int .i64 ((S.wk (X + 1) : Int) + 1))).drew.cell? ⟨ob, X * 7 + 4, none⟩ = some (.int .i64 ((S.wk (X + 1) : Int) + 1)) := by
    have : upd S.wk (X + 1) (S.wk (X + 1) + 1) (X + 1) = S.wk (X + 1) + 1 := upd_same _ _ _
    have h5 := g4
    simp only [this] at h5
    exact h5
  rw [HOV.out] at g0
  have HG0 : Hid ((W1.setCell ⟨ob, X * 7 + 4, none⟩ (.int .i64 ((S.wk (X + 1) : Int) + 1))).drew.cell? ⟨sb, 0, none⟩ = some (.slice (some ⟨ob, 0, none⟩) S.n cap)) := g0
  have HG4 : Hid ((W1.setCell ⟨ob, X * 7 + 4, none⟩ (.int .i64 ((S.wk (X + 1) : Int) + 1))).drew.cell? ⟨ob, X * 7 + 4, none⟩ = some (.int .i64 ((S.wk (X + 1) : Int) + 1))) := g4'
  obtain ⟨WK, hWK⟩ : ∃ WK : Nat, S.wk (X + 1) = WK := ⟨_, rfl⟩
  have HWK : Hid (S.wk (X + 1) = WK) := hWK
  rw [hWK] at d4 hwb HS3 HT3 HY1 HG0 HG4
  clear hS2 hT2 hS3 hTs hWK hA g0 g4 g4'
  go_upto_region 38 with fail
  go_region
  have HSd : Hid (SS (W1.setCell ⟨ob, X * 7 + 4, none⟩ (.int .i64 ((WK : Int) + 1))).drew.drew B sb ov ew (weakenS S (X + 1)) hs ts) := HS3.out.keep (Below.refl _ _).drew
  have HTd : Hid (Ts sb w ov ew S hs ts (W1.setCell ⟨ob, X * 7 + 4, none⟩ (.int .i64 ((WK : Int) + 1))).drew.drew ov ew (weakenS S (X + 1)) hs ts) := HT3.out.trans ((HS3.out.trk (Below.refl _ _).drew).ts0 (fun x hx => hx))
  generalize (W1.setCell ⟨ob, X * 7 + 4, none⟩ (.int .i64 ((WK : Int) + 1))).drew = W2 at *
  have y1 := HY1.out
  have g0 := HG0.out
  have g4 := HG4.out
  clear x0 x1 x2 b0 b1 b2 bf d4 f4
  go_upto_region 39 with fail
  go_region
  go_wp2
  go_ret
  exact StP.mk ⟨by rw [HWK.out]; first | rfl | simp, ov, ew, hs, ts, HSd.out, HTd.out⟩
set_option maxRecDepth 100000 in
set_option maxHeartbeats 1000000 in
theorem step_final0 (B sb K : Nat) (ov ew : Value) (S : Gs) (hs ts : Nat → Sl) (X : Nat) (b : Int) (w : World) (h : SS w B sb ov ew S hs ts) (hO : Ok K S) (hK : K ≤ 2400) (hBw : B ≤ w.heap.size) (hX : X < S.n) (hax : S.al (X + 1) = true) (hb : b < 0 ∨ 2 < b) :
    Calls Try.prog 33 #[.pointer (some ⟨sb, 0, none⟩), .agg #[.int .i64 7, .int .i64 ((X : Int) + 1), .int .i64 b]] w (StP B sb w ov ew S hs ts S (-1)) := by
  have hI := hO.iv
  have hE := hO.ev
  have hnk := hI.n
  have al : Below w.heap.size w (w.alloc (.cells #[.int .i64 7, .int .i64 ((X : Int) + 1), .int .i64 b] 45)) := (Below.refl _ _).alloc (Nat.le_refl _) _
  have x0 : (w.alloc (.cells #[.int .i64 7, .int .i64 ((X : Int) + 1), .int .i64 b] 45)).cell? ⟨w.heap.size, 0, none⟩ = some (.int .i64 7) := by rw [World.cell?_alloc_at _ _ _ _ rfl]; rfl
  have x1 : (w.alloc (.cells #[.int .i64 7, .int .i64 ((X : Int) + 1), .int .i64 b] 45)).cell? ⟨w.heap.size, 1, none⟩ = some (.int .i64 ((X : Int) + 1)) := by rw [World.cell?_alloc_at _ _ _ _ rfl]; rfl
  have x2 : (w.alloc (.cells #[.int .i64 7, .int .i64 ((X : Int) + 1), .int .i64 b] 45)).cell? ⟨w.heap.size, 2, none⟩ = some (.int .i64 b) := by rw [World.cell?_alloc_at _ _ _ _ rfl]; rfl
  have hA := h.keep al
  have hTA : Ts sb w ov ew S hs ts (w.alloc (.cells #[.int .i64 7, .int .i64 ((X : Int) + 1), .int .i64 b] 45)) ov ew S hs ts := (h.trk al).ts0 (fun x hx => hx)
  have hszA : (w.alloc (.cells #[.int .i64 7, .int .i64 ((X : Int) + 1), .int .i64 b] 45)).heap.size = w.heap.size + 1 := by simp
  have HPG : Hid (¬ PFh sb ov ew S hs ts w.heap.size) := by
    rintro ((e | e | e) | ⟨x, hx, e | e⟩)
    · have := h.lt; omega
    · have := (h.out.lt _ e).2; omega
    · have := (h.ev.lt _ e).2; omega
    · have := ((h.hr x hx).lt _ e).2; omega
    · have := ((h.tr x hx).lt _ e).2; omega
  obtain ⟨GB, hGB⟩ : ∃ GB, w.heap.size = GB := ⟨_, rfl⟩
  go_enter Try.func33, Try.ntmps33
  go_upto_region 1 with fail
  generalize w.alloc _ = W1 at *
  rw [hGB] at x0 x1 x2 hszA HPG
  have hBW : B ≤ W1.heap.size := by omega
  have HTA : Hid (Ts sb w ov ew S hs ts W1 ov ew S hs ts) := hTA
  clear hTA al h
  have hOk := okS_any B sb K ov ew S hs ts ((X : Int) + 1) W1 hA hI (by omega) (by omega) (by omega)
  rw [okx_at, hax] at hOk
  go_wp2_with fail
  refine hOk.mono ?_
  rintro e w1 ⟨rfl, hw⟩
  obtain rfl : W1 = w1 := hw.symm
  clear hw hOk
  rcases hb with hb | hb
  · go_wp2
    go_ret
    exact StP.mk ⟨rfl, ov, ew, hs, ts, hA, HTA.out⟩
  · have hb2 : ¬ b < 0 := by omega
    go_wp2
    go_ret
    exact StP.mk ⟨rfl, ov, ew, hs, ts, hA, HTA.out⟩
set_option maxRecDepth 100000 in
set_option maxHeartbeats 1000000 in
theorem step_final (B sb K : Nat) (ov ew : Value) (S : Gs) (hs ts : Nat → Sl) (X f : Nat) (w : World) (h : SS w B sb ov ew S hs ts) (hO : Ok K S) (hK : K ≤ 2400) (hBw : B ≤ w.heap.size) (hX : X < S.n) (hax : S.al (X + 1) = true) (hf : f ≤ 2) :
    Calls Try.prog 33 #[.pointer (some ⟨sb, 0, none⟩), .agg #[.int .i64 7, .int .i64 ((X : Int) + 1), .int .i64 ((f : Nat) : Int)]] w (StP B sb w ov ew S hs ts (finalS S (X + 1) f) ((f : Nat) : Int)) := by
  have hI := hO.iv
  have hE := hO.ev
  have hnk := hI.n
  have al : Below w.heap.size w (w.alloc (.cells #[.int .i64 7, .int .i64 ((X : Int) + 1), .int .i64 ((f : Nat) : Int)] 45)) := (Below.refl _ _).alloc (Nat.le_refl _) _
  have x0 : (w.alloc (.cells #[.int .i64 7, .int .i64 ((X : Int) + 1), .int .i64 ((f : Nat) : Int)] 45)).cell? ⟨w.heap.size, 0, none⟩ = some (.int .i64 7) := by rw [World.cell?_alloc_at _ _ _ _ rfl]; rfl
  have x1 : (w.alloc (.cells #[.int .i64 7, .int .i64 ((X : Int) + 1), .int .i64 ((f : Nat) : Int)] 45)).cell? ⟨w.heap.size, 1, none⟩ = some (.int .i64 ((X : Int) + 1)) := by rw [World.cell?_alloc_at _ _ _ _ rfl]; rfl
  have x2 : (w.alloc (.cells #[.int .i64 7, .int .i64 ((X : Int) + 1), .int .i64 ((f : Nat) : Int)] 45)).cell? ⟨w.heap.size, 2, none⟩ = some (.int .i64 ((f : Nat) : Int)) := by rw [World.cell?_alloc_at _ _ _ _ rfl]; rfl
  have hA := h.keep al
  have hTA : Ts sb w ov ew S hs ts (w.alloc (.cells #[.int .i64 7, .int .i64 ((X : Int) + 1), .int .i64 ((f : Nat) : Int)] 45)) ov ew S hs ts := (h.trk al).ts0 (fun x hx => hx)
  have hszA : (w.alloc (.cells #[.int .i64 7, .int .i64 ((X : Int) + 1), .int .i64 ((f : Nat) : Int)] 45)).heap.size = w.heap.size + 1 := by simp
  have HPG : Hid (¬ PFh sb ov ew S hs ts w.heap.size) := by
    rintro ((e | e | e) | ⟨x, hx, e | e⟩)
    · have := h.lt; omega
    · have := (h.out.lt _ e).2; omega
    · have := (h.ev.lt _ e).2; omega
    · have := ((h.hr x hx).lt _ e).2; omega
    · have := ((h.tr x hx).lt _ e).2; omega
  obtain ⟨GB, hGB⟩ : ∃ GB, w.heap.size = GB := ⟨_, rfl⟩
  go_enter Try.func33, Try.ntmps33
  go_upto_region 1 with fail
  generalize w.alloc _ = W1 at *
  rw [hGB] at x0 x1 x2 hszA HPG
  have hBW : B ≤ W1.heap.size := by omega
  have HTA : Hid (Ts sb w ov ew S hs ts W1 ov ew S hs ts) := hTA
  clear hTA al h
  have hOk := okS_any B sb K ov ew S hs ts ((X : Int) + 1) W1 hA hI (by omega) (by omega) (by omega)
  rw [okx_at, hax] at hOk
  go_wp2_with fail
  refine hOk.mono ?_
  rintro e w1 ⟨rfl, hw⟩
  obtain rfl : W1 = w1 := hw.symm
  clear hw hOk
  obtain ⟨ob, cap, hov, hobl, hobz⟩ := hA.shape (by omega)
  obtain ⟨c, b0, b1, b2, bf⟩ := hA.boxc
  have d5 := (hA.cells hov X hX).2.2.2.2.2.1
  have f5 := hA.frozen hov (X * 7 + 5)
  rw [hov] at b0
  have HOV : Hid (ov = .slice (some ⟨ob, 0, none⟩) S.n cap) := hov
  have hXi : (X : Int) < (S.n : Int) := by omega
  clear hov
  obtain ⟨hS2, hT2⟩ := hA.setFn HOV.out X hX f
  have hS3 := hS2.keep (Below.refl _ _).drew
  have hTs := (hT2.trans (hS2.trk (Below.refl _ _).drew)).ts0 (S := S) (S' := finalS S (X + 1) f) (hs := hs) (ts := ts) (fun x hx => hx)
  have HS3 : Hid (SS (W1.setCell ⟨ob, X * 7 + 5, none⟩ (.int .i64 (f : Nat))).drew B sb ov ew (finalS S (X + 1) f) hs ts) := hS3
  have HT3 : Hid (Ts sb w ov ew S hs ts (W1.setCell ⟨ob, X * 7 + 5, none⟩ (.int .i64 (f : Nat))).drew ov ew (finalS S (X + 1) f) hs ts) := HTA.out.trans hTs
  have HY2 : Hid ((W1.setCell ⟨ob, X * 7 + 5, none⟩ (.int .i64 (f : Nat))).drew.cell? ⟨GB, 2, none⟩ = some (.int .i64 (f : Nat))) := (World.cell?_of_block (a := ⟨GB, 2, none⟩) (hTs.kp.block GB (by omega) HPG.out)).trans x2
  have hf0 : ¬ ((f : Nat) : Int) < 0 := by omega
  have hf2 : ¬ (2 : Int) < ((f : Nat) : Int) := by omega
  clear hS2 hT2 hS3 hTs hA
  go_upto_region 43 with fail
  go_region
  generalize (W1.setCell ⟨ob, X * 7 + 5, none⟩ (.int .i64 (f : Nat))).drew = W2 at *
  have y2 := HY2.out
  clear x0 x1 x2 b0 b1 b2 bf d5 f5
  go_wp2
  go_ret
  exact StP.mk ⟨rfl, ov, ew, hs, ts, HS3.out, HT3.out⟩
set_option maxRecDepth 100000 in
set_option maxHeartbeats 1000000 in
theorem step_count (B sb K : Nat) (ov ew : Value) (S : Gs) (hs ts : Nat → Sl) (X : Nat) (b : Int) (w : World) (h : SS w B sb ov ew S hs ts) (hO : Ok K S) (hK : K ≤ 2400) (hBw : B ≤ w.heap.size) (hX : X < S.n) (hax : S.al (X + 1) = true) :
    Calls Try.prog 33 #[.pointer (some ⟨sb, 0, none⟩), .agg #[.int .i64 9, .int .i64 ((X : Int) + 1), .int .i64 b]] w (StP B sb w ov ew S hs ts S ((cnt S (X + 1) : Nat) : Int)) := by
  have hI := hO.iv
  have hE := hO.ev
  have hnk := hI.n
  have al : Below w.heap.size w (w.alloc (.cells #[.int .i64 9, .int .i64 ((X : Int) + 1), .int .i64 b] 45)) := (Below.refl _ _).alloc (Nat.le_refl _) _
  have x0 : (w.alloc (.cells #[.int .i64 9, .int .i64 ((X : Int) + 1), .int .i64 b] 45)).cell? ⟨w.heap.size, 0, none⟩ = some (.int .i64 9) := by rw [World.cell?_alloc_at _ _ _ _ rfl]; rfl
  have x1 : (w.alloc (.cells #[.int .i64 9, .int .i64 ((X : Int) + 1), .int .i64 b] 45)).cell? ⟨w.heap.size, 1, none⟩ = some (.int .i64 ((X : Int) + 1)) := by rw [World.cell?_alloc_at _ _ _ _ rfl]; rfl
  have x2 : (w.alloc (.cells #[.int .i64 9, .int .i64 ((X : Int) + 1), .int .i64 b] 45)).cell? ⟨w.heap.size, 2, none⟩ = some (.int .i64 b) := by rw [World.cell?_alloc_at _ _ _ _ rfl]; rfl
  have hA := h.keep al
  have hTA : Ts sb w ov ew S hs ts (w.alloc (.cells #[.int .i64 9, .int .i64 ((X : Int) + 1), .int .i64 b] 45)) ov ew S hs ts := (h.trk al).ts0 (fun x hx => hx)
  have hszA : (w.alloc (.cells #[.int .i64 9, .int .i64 ((X : Int) + 1), .int .i64 b] 45)).heap.size = w.heap.size + 1 := by simp
  have HPG : Hid (¬ PFh sb ov ew S hs ts w.heap.size) := by
    rintro ((e | e | e) | ⟨x, hx, e | e⟩)
    · have := h.lt; omega
    · have := (h.out.lt _ e).2; omega
    · have := (h.ev.lt _ e).2; omega
    · have := ((h.hr x hx).lt _ e).2; omega
    · have := ((h.tr x hx).lt _ e).2; omega
  obtain ⟨GB, hGB⟩ : ∃ GB, w.heap.size = GB := ⟨_, rfl⟩
  go_enter Try.func33, Try.ntmps33
  go_upto_region 1 with fail
  generalize w.alloc _ = W1 at *
  rw [hGB] at x0 x1 x2 hszA HPG
  have hBW : B ≤ W1.heap.size := by omega
  have HTA : Hid (Ts sb w ov ew S hs ts W1 ov ew S hs ts) := hTA
  clear hTA al h
  have hOk := okS_any B sb K ov ew S hs ts ((X : Int) + 1) W1 hA hI (by omega) (by omega) (by omega)
  rw [okx_at, hax] at hOk
  go_wp2_with fail
  refine hOk.mono ?_
  rintro e w1 ⟨rfl, hw⟩
  obtain rfl : W1 = w1 := hw.symm
  clear hw hOk
  have hCn := countS_any B sb K X ov ew S hs ts W1 hA hI (by omega) hX
  go_wp2_with fail
  refine hCn.mono ?_
  rintro e w1 ⟨rfl, hw⟩
  obtain rfl : W1 = w1 := hw.symm
  clear hw hCn
  go_wp2
  go_ret
  exact StP.mk ⟨rfl, ov, ew, hs, ts, hA, HTA.out⟩
set_option maxRecDepth 100000 in
set_option maxHeartbeats 1000000 in
theorem step_other (B sb K : Nat) (ov ew : Value) (S : Gs) (hs ts : Nat → Sl) (c : Int) (X : Nat) (b : Int) (w : World) (h : SS w B sb ov ew S hs ts) (hO : Ok K S) (hK : K ≤ 2400) (hBw : B ≤ w.heap.size) (hX : X < S.n) (hax : S.al (X + 1) = true) (hc : c ≠ 1 ∧ c ≠ 2 ∧ c ≠ 3 ∧ c ≠ 4 ∧ c ≠ 5 ∧ c ≠ 6 ∧ c ≠ 7 ∧ c ≠ 8 ∧ c ≠ 9 ∧ c ≠ 10) :
    Calls Try.prog 33 #[.pointer (some ⟨sb, 0, none⟩), .agg #[.int .i64 c, .int .i64 ((X : Int) + 1), .int .i64 b]] w (StP B sb w ov ew S hs ts S (-1)) := by
  have hI := hO.iv
  have hE := hO.ev
  have hnk := hI.n
  have al : Below w.heap.size w (w.alloc (.cells #[.int .i64 c, .int .i64 ((X : Int) + 1), .int .i64 b] 45)) := (Below.refl _ _).alloc (Nat.le_refl _) _
  have x0 : (w.alloc (.cells #[.int .i64 c, .int .i64 ((X : Int) + 1), .int .i64 b] 45)).cell? ⟨w.heap.size, 0, none⟩ = some (.int .i64 c) := by rw [World.cell?_alloc_at _ _ _ _ rfl]; rfl
  have x1 : (w.alloc (.cells #[.int .i64 c, .int .i64 ((X : Int) + 1), .int .i64 b] 45)).cell? ⟨w.heap.size, 1, none⟩ = some (.int .i64 ((X : Int) + 1)) := by rw [World.cell?_alloc_at _ _ _ _ rfl]; rfl
  have x2 : (w.alloc (.cells #[.int .i64 c, .int .i64 ((X : Int) + 1), .int .i64 b] 45)).cell? ⟨w.heap.size, 2, none⟩ = some (.int .i64 b) := by rw [World.cell?_alloc_at _ _ _ _ rfl]; rfl
  have hA := h.keep al
  have hTA : Ts sb w ov ew S hs ts (w.alloc (.cells #[.int .i64 c, .int .i64 ((X : Int) + 1), .int .i64 b] 45)) ov ew S hs ts := (h.trk al).ts0 (fun x hx => hx)
  have hszA : (w.alloc (.cells #[.int .i64 c, .int .i64 ((X : Int) + 1), .int .i64 b] 45)).heap.size = w.heap.size + 1 := by simp
  have HPG : Hid (¬ PFh sb ov ew S hs ts w.heap.size) := by
    rintro ((e | e | e) | ⟨x, hx, e | e⟩)
    · have := h.lt; omega
    · have := (h.out.lt _ e).2; omega
    · have := (h.ev.lt _ e).2; omega
    · have := ((h.hr x hx).lt _ e).2; omega
    · have := ((h.tr x hx).lt _ e).2; omega
  obtain ⟨GB, hGB⟩ : ∃ GB, w.heap.size = GB := ⟨_, rfl⟩
  go_enter Try.func33, Try.ntmps33
  go_upto_region 1 with fail
  generalize w.alloc _ = W1 at *
  rw [hGB] at x0 x1 x2 hszA HPG
  have hBW : B ≤ W1.heap.size := by omega
  have HTA : Hid (Ts sb w ov ew S hs ts W1 ov ew S hs ts) := hTA
  clear hTA al h
  have n1 : ((c : Int) == 1) = false := by rw [beq_eq_false_iff_ne]; omega
  have n2 : ((c : Int) == 2) = false := by rw [beq_eq_false_iff_ne]; omega
  have n3 : ((c : Int) == 3) = false := by rw [beq_eq_false_iff_ne]; omega
  have n4 : ((c : Int) == 4) = false := by rw [beq_eq_false_iff_ne]; omega
  have n5 : ((c : Int) == 5) = false := by rw [beq_eq_false_iff_ne]; omega
  have n6 : ((c : Int) == 6) = false := by rw [beq_eq_false_iff_ne]; omega
  have n7 : ((c : Int) == 7) = false := by rw [beq_eq_false_iff_ne]; omega
  have n8 : ((c : Int) == 8) = false := by rw [beq_eq_false_iff_ne]; omega
  have n9 : ((c : Int) == 9) = false := by rw [beq_eq_false_iff_ne]; omega
  have n10 : ((c : Int) == 10) = false := by rw [beq_eq_false_iff_ne]; omega
  clear hc
  have hOk := okS_any B sb K ov ew S hs ts ((X : Int) + 1) W1 hA hI (by omega) (by omega) (by omega)
  rw [okx_at, hax] at hOk
  go_wp2_with fail
  refine hOk.mono ?_
  rintro e w1 ⟨rfl, hw⟩
  obtain rfl : W1 = w1 := hw.symm
  clear hw hOk
  go_wp2
  go_ret
  exact StP.mk ⟨rfl, ov, ew, hs, ts, hA, HTA.out⟩
end Go.Proofs.Ytjnalkeopehlbaa
