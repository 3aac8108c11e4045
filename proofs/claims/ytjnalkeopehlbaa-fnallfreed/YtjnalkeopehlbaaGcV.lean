import Derived.Test.YtjnalkeopehlbaaGcU
namespace Go.Proofs.Ytjnalkeopehlbaa
open Go.RowKit Go.Maps
set_option linter.unusedVariables false
set_option linter.unusedSimpArgs false

theorem txA_ne {S S' : Gs} {hs ts hs' ts' : Nat → Sl} {i : Nat} (h1 : S'.al (i + 1) = S.al (i + 1)) (h2 : hs' (i + 1) = hs (i + 1)) (h3 : ts' (i + 1) = ts (i + 1)) (h4 : S'.rt (i + 1) = S.rt (i + 1)) (h5 : S'.wk (i + 1) = S.wk (i + 1)) (h6 : S'.fn (i + 1) = S.fn (i + 1)) (h7 : S'.rn (i + 1) = S.rn (i + 1)) : txA S' hs' ts' i = txA S hs ts i := by
  unfold txA
  rw [h1, h2, h3, h4, h5, h6, h7]
section
variable {w : World} {B sb : Nat} {ov ew : Value} {S : Gs} {hs ts : Nat → Sl}
/-- One field turned. -/
theorem SS.setRn (h : SS w B sb ov ew S hs ts) {ob cap : Nat} (hov : ov = .slice (some ⟨ob, 0, none⟩) S.n cap) (k : Nat) (hk : k < S.n) (b : Bool) :
    SS (w.setCell ⟨ob, k * 7 + 6, none⟩ (.bool b)) B sb ov ew { S with rn := upd S.rn (k + 1) b } hs ts ∧ Tr sb ov w ew (w.setCell ⟨ob, k * 7 + 6, none⟩ (.bool b)) ew := by
  have h1 := h.put hov k 6 hk (by omega) (.bool b) { S with rn := upd S.rn (k + 1) b } hs ts rfl (fun i hi => txA_ne rfl rfl rfl rfl rfl rfl (upd_ne _ _ (by omega))) (by unfold txA Tx.cs; simp [upd_same]) rfl (fun x hx => ⟨hx, rfl, rfl, rfl⟩)
  exact ⟨h1.1, Tr.put (by rw [hov]; rfl) h1.2⟩
theorem SS.setRt (h : SS w B sb ov ew S hs ts) {ob cap : Nat} (hov : ov = .slice (some ⟨ob, 0, none⟩) S.n cap) (k : Nat) (hk : k < S.n) (r : Nat) :
    SS (w.setCell ⟨ob, k * 7 + 3, none⟩ (.int .i64 (r : Nat))) B sb ov ew { S with rt := upd S.rt (k + 1) r } hs ts ∧ Tr sb ov w ew (w.setCell ⟨ob, k * 7 + 3, none⟩ (.int .i64 (r : Nat))) ew := by
  have h1 := h.put hov k 3 hk (by omega) (.int .i64 (r : Nat)) { S with rt := upd S.rt (k + 1) r } hs ts rfl (fun i hi => txA_ne rfl rfl rfl (upd_ne _ _ (by omega)) rfl rfl rfl) (by unfold txA Tx.cs; simp [upd_same]) rfl (fun x hx => ⟨hx, rfl, rfl, rfl⟩)
  exact ⟨h1.1, Tr.put (by rw [hov]; rfl) h1.2⟩
theorem SS.setWk (h : SS w B sb ov ew S hs ts) {ob cap : Nat} (hov : ov = .slice (some ⟨ob, 0, none⟩) S.n cap) (k : Nat) (hk : k < S.n) (r : Nat) :
    SS (w.setCell ⟨ob, k * 7 + 4, none⟩ (.int .i64 (r : Nat))) B sb ov ew { S with wk := upd S.wk (k + 1) r } hs ts ∧ Tr sb ov w ew (w.setCell ⟨ob, k * 7 + 4, none⟩ (.int .i64 (r : Nat))) ew := by
  have h1 := h.put hov k 4 hk (by omega) (.int .i64 (r : Nat)) { S with wk := upd S.wk (k + 1) r } hs ts rfl (fun i hi => txA_ne rfl rfl rfl rfl (upd_ne _ _ (by omega)) rfl rfl) (by unfold txA Tx.cs; simp [upd_same]) rfl (fun x hx => ⟨hx, rfl, rfl, rfl⟩)
  exact ⟨h1.1, Tr.put (by rw [hov]; rfl) h1.2⟩
theorem SS.setFn (h : SS w B sb ov ew S hs ts) {ob cap : Nat} (hov : ov = .slice (some ⟨ob, 0, none⟩) S.n cap) (k : Nat) (hk : k < S.n) (r : Nat) :
    SS (w.setCell ⟨ob, k * 7 + 5, none⟩ (.int .i64 (r : Nat))) B sb ov ew { S with fn := upd S.fn (k + 1) r } hs ts ∧ Tr sb ov w ew (w.setCell ⟨ob, k * 7 + 5, none⟩ (.int .i64 (r : Nat))) ew := by
  have h1 := h.put hov k 5 hk (by omega) (.int .i64 (r : Nat)) { S with fn := upd S.fn (k + 1) r } hs ts rfl (fun i hi => txA_ne rfl rfl rfl rfl rfl (upd_ne _ _ (by omega)) rfl) (by unfold txA Tx.cs; simp [upd_same]) rfl (fun x hx => ⟨hx, rfl, rfl, rfl⟩)
  exact ⟨h1.1, Tr.put (by rw [hov]; rfl) h1.2⟩
theorem SS.setAl (h : SS w B sb ov ew S hs ts) {ob cap : Nat} (hov : ov = .slice (some ⟨ob, 0, none⟩) S.n cap) (k : Nat) (hk : k < S.n) :
    SS (w.setCell ⟨ob, k * 7, none⟩ (.bool false)) B sb ov ew { S with al := upd S.al (k + 1) false } hs ts ∧ Tr sb ov w ew (w.setCell ⟨ob, k * 7, none⟩ (.bool false)) ew := by
  have h1 := h.put hov k 0 hk (by omega) (.bool false) { S with al := upd S.al (k + 1) false } hs ts rfl (fun i hi => txA_ne (upd_ne _ _ (by omega)) rfl rfl rfl rfl rfl rfl) (by unfold txA Tx.cs; simp [upd_same]) rfl (fun x hx => by
    by_cases e : x = k + 1
    · subst e; simp [upd_same] at hx
    · exact ⟨by simpa [upd_ne _ _ e] using hx, rfl, rfl, rfl⟩)
  exact ⟨h1.1, Tr.put (by rw [hov]; rfl) h1.2⟩
end
theorem SS.trk {w w' : World} {B sb : Nat} {ov ew : Value} {S : Gs} {hs ts : Nat → Sl} (h : SS w B sb ov ew S hs ts) (hb : Below w.heap.size w w') : Tr sb ov w ew w' ew := ⟨Kp.of_below hb, fun b e => .inl e⟩
set_option maxRecDepth 100000 in
set_option maxHeartbeats 1000000 in
theorem finalizeS_any (B sb K X : Nat) (ov ew : Value) (S : Gs) (hs ts : Nat → Sl) (w : World) (h : SS w B sb ov ew S hs ts) (hI : Iv K S) (hE : S.ev.length ≤ 100000) (hK : K ≤ 10000) (hX : X < S.n) :
    Calls Try.prog 54 #[.pointer (some ⟨sb, 0, none⟩), .int .i64 ((X : Int) + 1)] w fun e w' => e = .returned (.tuple #[]) ∧ ∃ ew', SS w' B sb ov ew' (finS S (X + 1)) hs ts ∧ Tr sb ov w ew w' ew' := by
  obtain ⟨c, b0, b1, b2, bf⟩ := h.boxc
  have hnk := hI.n
  obtain ⟨ob, cap, hov, hobl, hobz⟩ := h.shape (by omega)
  obtain ⟨c0, c1, c2, c3, c4, c5, c6⟩ := h.cells hov X hX
  rw [hov] at b0
  have HOV : Hid (ov = .slice (some ⟨ob, 0, none⟩) S.n cap) := hov
  have hXi : (X : Int) < (S.n : Int) := by omega
  have al : Below w.heap.size w (w.alloc (.cells #[.bool (S.al (X + 1)), (hs (X + 1)).val, (ts (X + 1)).val, .int .i64 (S.rt (X + 1) : Nat), .int .i64 (S.wk (X + 1) : Nat), .int .i64 (S.fn (X + 1) : Nat), .bool (S.rn (X + 1))] 80)) := (Below.refl _ _).alloc (Nat.le_refl _) _
  have hA := h.keep al
  have hT0 := h.trk al
  have q5 : (w.alloc (.cells #[.bool (S.al (X + 1)), (hs (X + 1)).val, (ts (X + 1)).val, .int .i64 (S.rt (X + 1) : Nat), .int .i64 (S.wk (X + 1) : Nat), .int .i64 (S.fn (X + 1) : Nat), .bool (S.rn (X + 1))] 80)).cell? ⟨w.heap.size, 5, none⟩ = some (.int .i64 (S.fn (X + 1) : Nat)) := by rw [World.cell?_alloc_at _ _ _ _ rfl]; rfl
  have q6 : (w.alloc (.cells #[.bool (S.al (X + 1)), (hs (X + 1)).val, (ts (X + 1)).val, .int .i64 (S.rt (X + 1) : Nat), .int .i64 (S.wk (X + 1) : Nat), .int .i64 (S.fn (X + 1) : Nat), .bool (S.rn (X + 1))] 80)).cell? ⟨w.heap.size, 6, none⟩ = some (.bool (S.rn (X + 1))) := by rw [World.cell?_alloc_at _ _ _ _ rfl]; rfl
  have hfn := hI.fn (X + 1)
  have hrtb := hI.rt (X + 1)
  have hrb : S.rt (X + 1) ≤ 10001 := by split at hrtb <;> omega
  have hszA : (w.alloc (.cells #[.bool (S.al (X + 1)), (hs (X + 1)).val, (ts (X + 1)).val, .int .i64 (S.rt (X + 1) : Nat), .int .i64 (S.wk (X + 1) : Nat), .int .i64 (S.fn (X + 1) : Nat), .bool (S.rn (X + 1))] 80)).heap.size = w.heap.size + 1 := by simp
  obtain ⟨GB, hGB⟩ : ∃ GB, w.heap.size = GB := ⟨_, rfl⟩
  obtain ⟨ha, hn, hc, hhv⟩ : ∃ a n c, (hs (X + 1)).val = .slice a n c := ⟨_, _, _, rfl⟩
  obtain ⟨ta, tn, tc, htv⟩ : ∃ a n c, (ts (X + 1)).val = .slice a n c := ⟨_, _, _, rfl⟩
  obtain ⟨FS, hFS⟩ : ∃ FS, finS S (X + 1) = FS := ⟨_, rfl⟩
  have HFS : Hid (finS S (X + 1) = FS) := hFS
  rw [hFS]
  clear hFS
  rw [hhv, htv] at hA hT0 q5 q6 hszA
  rw [hhv] at c1
  rw [htv] at c2
  have hGob : ob < GB := by omega
  clear hov al hhv htv hrtb
  go_enter Try.func54, Try.ntmps54
  go_upto_region 1 with fail
  generalize w.alloc _ = W1 at *
  rw [hGB] at q5 q6 hszA
  clear c0 c1 c2 c3 c4 c5 c6 b0 b1 b2 bf
  by_cases hf0 : S.fn (X + 1) = 0
  · have HF : Hid (finS S (X + 1) = S) := by show _ = _; unfold finS; rw [if_pos (.inl hf0)]
    rw [hf0] at q5
    clear hf0
    go_wp2
    refine bodyPost_ret (results_none rfl _ _ _) rfl ?_
    exact ⟨rfl, ew, by rw [← HFS.out, HF.out]; exact hA, hT0⟩
  · have e5 : (((S.fn (X + 1) : Nat) : Int) == 0) = false := by rw [beq_eq_false_iff_ne]; omega
    cases hrn : S.rn (X + 1) with
    | true =>
      have HF : Hid (finS S (X + 1) = S) := by show _ = _; unfold finS; rw [if_pos (.inr hrn)]
      rw [hrn] at q6
      clear hf0
      go_wp2
      refine bodyPost_ret (results_none rfl _ _ _) rfl ?_
      exact ⟨rfl, ew, by rw [← HFS.out, HF.out]; exact hA, hT0⟩
    | false =>
      rw [hrn] at q6
      have hne : ¬ (S.fn (X + 1) = 0 ∨ S.rn (X + 1) = true) := by rw [hrn]; simp [hf0]
      have HF : Hid (finS S (X + 1) = { S with rn := upd S.rn (X + 1) true, rt := if S.fn (X + 1) = 2 then upd S.rt (X + 1) (S.rt (X + 1) + 1) else S.rt, ev := S.ev ++ [(1, X + 1)] }) := by show _ = _; unfold finS; rw [if_neg hne]
      obtain ⟨hR, hTR⟩ := hA.setRn HOV.out X hX true
      obtain ⟨c, b0, b1, b2, bf⟩ := hA.boxc
      have f6 := hA.frozen HOV.out (X * 7 + 6)
      have d6 : W1.cell? ⟨ob, X * 7 + 6, none⟩ = some (.bool false) := by have := (hA.cells HOV.out X hX).2.2.2.2.2.2; rw [hrn] at this; exact this
      rw [HOV.out] at b0
      have q5' : (W1.setCell ⟨ob, X * 7 + 6, none⟩ (.bool true)).cell? ⟨GB, 5, none⟩ = some (.int .i64 (S.fn (X + 1) : Nat)) := by rw [World.cell?_of_block (a := ⟨GB, 5, none⟩) (Below.heap_setCell _ _ _ _ (show GB ≠ ob by omega))]; exact q5
      have hszR : (W1.setCell ⟨ob, X * 7 + 6, none⟩ (.bool true)).heap.size = GB + 1 := by rw [World.size_setCell]; exact hszA
      have hTel := tell_any B sb 1 (X + 1) ov ew { S with rn := upd S.rn (X + 1) true } hs ts (W1.setCell ⟨ob, X * 7 + 6, none⟩ (.bool true)) hR hE (by omega) (by omega)
      rw [show ((1 : Nat) : Int) = 1 from rfl, show ((X + 1 : Nat) : Int) = (X : Int) + 1 by omega] at hTel
      have hT1 := hT0.trans hTR
      have HPF : Hid (¬ PF sb ov ew GB) := by
        rintro (e | e | e)
        · have := h.lt; omega
        · rw [HOV.out] at e; have : ob = GB := Option.some.inj e; omega
        · have := (h.ev.lt GB e).2; omega
      clear hA hT0 hTR hrn hf0 hne
      go_upto_region 3 with fail
      generalize W1.setCell ⟨ob, X * 7 + 6, none⟩ (.bool true) = W2 at *
      clear b0 b1 b2 bf f6 d6 q5 q6
      go_wp2_with fail
      refine hTel.mono ?_
      rintro e W3 ⟨rfl, ew3, hS3, hT3⟩
      have hT13 := hT1.trans hT3
      have q3 : W3.cell? ⟨GB, 5, none⟩ = some (.int .i64 (S.fn (X + 1) : Nat)) := by
        rw [World.cell?_of_block (a := ⟨GB, 5, none⟩) (hT3.kp.block GB (by omega) HPF.out)]; exact q5'
      clear hTel hT1 hT3 q5' hR
      by_cases hf2 : S.fn (X + 1) = 2
      · obtain ⟨c, b0, b1, b2, bf⟩ := hS3.boxc
        have f3 := hS3.frozen HOV.out (X * 7 + 3)
        have d3 : W3.cell? ⟨ob, X * 7 + 3, none⟩ = some (.int .i64 (S.rt (X + 1) : Nat)) := (hS3.cells HOV.out X hX).2.2.2.1
        obtain ⟨hS4, hT4⟩ := hS3.setRt HOV.out X hX (S.rt (X + 1) + 1)
        rw [HOV.out] at b0
        rw [hf2] at q3
        have HE : Hid (SS (W3.setCell ⟨ob, X * 7 + 3, none⟩ (.int .i64 ((S.rt (X + 1) : Int) + 1))) B sb ov ew3 { S with rn := upd S.rn (X + 1) true, rt := if S.fn (X + 1) = 2 then upd S.rt (X + 1) (S.rt (X + 1) + 1) else S.rt, ev := S.ev ++ [(1, X + 1)] } hs ts) := by
          show SS _ _ _ _ _ _ _ _
          rw [if_pos hf2]
          exact hS4
        have HT : Hid (Tr sb ov w ew (W3.setCell ⟨ob, X * 7 + 3, none⟩ (.int .i64 ((S.rt (X + 1) : Int) + 1))) ew3) := hT13.trans hT4
        generalize S.rt (X + 1) = RT at f3 d3 HE HT hrb HF
        clear hS3 hS4 hT4 hT13 hf2
        go_wp2
        go_end0
        exact ⟨rfl, ew3, by rw [← HFS.out, HF.out]; exact HE.out, HT.out⟩
      · have e2 : (((S.fn (X + 1) : Nat) : Int) == 2) = false := by rw [beq_eq_false_iff_ne]; omega
        have HE : Hid (SS W3 B sb ov ew3 { S with rn := upd S.rn (X + 1) true, rt := if S.fn (X + 1) = 2 then upd S.rt (X + 1) (S.rt (X + 1) + 1) else S.rt, ev := S.ev ++ [(1, X + 1)] } hs ts) := by
          show SS _ _ _ _ _ _ _ _
          rw [if_neg hf2]
          exact hS3
        clear hS3 hf2
        go_wp2
        go_end0
        exact ⟨rfl, ew3, by rw [← HFS.out, HF.out]; exact HE.out, hT13⟩
set_option maxRecDepth 100000 in
set_option maxHeartbeats 1000000 in
theorem freeS_any (B sb K X : Nat) (ov ew : Value) (S : Gs) (hs ts : Nat → Sl) (w : World) (h : SS w B sb ov ew S hs ts) (hI : Iv K S) (hE : S.ev.length ≤ 90000) (hK : K ≤ 10000) (hX : X < S.n) :
    Calls Try.prog 56 #[.pointer (some ⟨sb, 0, none⟩), .int .i64 ((X : Int) + 1)] w fun e w' => e = .returned (.tuple #[]) ∧ ∃ ew', SS w' B sb ov ew' (freeS S (X + 1)) hs ts ∧ Tr sb ov w ew w' ew' := by
  obtain ⟨c, b0, b1, b2, bf⟩ := h.boxc
  have hnk := hI.n
  obtain ⟨ob, cap, hov, hobl, hobz⟩ := h.shape (by omega)
  obtain ⟨-, -, -, -, c4, -⟩ := h.cells hov X hX
  rw [hov] at b0
  have HOV : Hid (ov = .slice (some ⟨ob, 0, none⟩) S.n cap) := hov
  have hXi : (X : Int) < (S.n : Int) := by omega
  have hwk := hI.wk (X + 1)
  have HTL := fun (S' : Gs) (ew' : Value) (W : World) (kd : Nat) (h' : SS W B sb ov ew' S' hs ts) (hl : S'.ev.length ≤ 100000) (hk : kd ≤ 3) => tell_any B sb kd (X + 1) ov ew' S' hs ts W h' hl hk (by omega)
  rw [show ((X + 1 : Nat) : Int) = (X : Int) + 1 by omega] at HTL
  obtain ⟨FS, hFS⟩ : ∃ FS, freeS S (X + 1) = FS := ⟨_, rfl⟩
  have HFS : Hid (freeS S (X + 1) = FS) := hFS
  rw [hFS]
  clear hFS hov
  go_enter Try.func56, Try.ntmps56
  by_cases hw0 : S.wk (X + 1) = 0
  · have HW : Hid (wkE S (X + 1) = []) := by show _ = _; unfold wkE; rw [if_neg (by omega)]
    rw [hw0] at c4
    have H3 := HTL S ew w 3 h (by omega) (by omega)
    rw [show ((3 : Nat) : Int) = 3 from rfl] at H3
    clear HTL hw0
    go_wp2_with fail
    refine H3.mono ?_
    rintro e W3 ⟨rfl, ew3, hS3, hT3⟩
    clear H3 b0 b1 b2 bf c4 h
    obtain ⟨c3, b0, b1, b2, bf⟩ := hS3.boxc
    have f0 := hS3.frozen HOV.out (X * 7)
    have d0 := (hS3.cells HOV.out X hX).1
    obtain ⟨hS4, hT4⟩ := hS3.setAl HOV.out X hX
    obtain ⟨c4, g0, g1, g2, gf⟩ := hS4.boxc
    obtain ⟨hS5, hT5⟩ := hS4.cutc (wrap64 (c4 + 1))
    have gf2 := gf 2
    rw [HOV.out] at b0
    have HE : Hid (SS ((W3.setCell ⟨ob, X * 7, none⟩ (.bool false)).setCell ⟨sb, 2, none⟩ (.int .i64 (wrap64 (c4 + 1)))) B sb ov ew3 (freeS S (X + 1)) hs ts) := by
      show SS _ _ _ _ _ _ _ _
      unfold freeS
      rw [HW.out, List.append_nil]
      exact hS5
    have HT : Hid (Tr sb ov w ew ((W3.setCell ⟨ob, X * 7, none⟩ (.bool false)).setCell ⟨sb, 2, none⟩ (.int .i64 (wrap64 (c4 + 1)))) ew3) := (hT3.trans hT4).trans hT5
    clear hS3 hT3 hS4 hT4 hS5 hT5 HW
    go_wp2
    go_end0
    exact ⟨rfl, ew3, by rw [← HFS.out]; exact HE.out, HT.out⟩
  · have HW : Hid (wkE S (X + 1) = [(2, X + 1)]) := by show _ = _; unfold wkE; rw [if_pos (by omega)]
    have e4 : (0 : Int) < ((S.wk (X + 1) : Nat) : Int) := by omega
    have H2 := HTL S ew w 2 h (by omega) (by omega)
    rw [show ((2 : Nat) : Int) = 2 from rfl] at H2
    clear hw0
    go_wp2_with fail
    refine H2.mono ?_
    rintro e W2 ⟨rfl, ew2, hS2, hT2⟩
    have H3 := HTL _ ew2 W2 3 hS2 (by simp; omega) (by omega)
    rw [show ((3 : Nat) : Int) = 3 from rfl] at H3
    clear HTL H2 hS2
    go_wp2_with fail
    refine H3.mono ?_
    rintro e W3 ⟨rfl, ew3, hS3, hT3⟩
    clear H3 b0 b1 b2 bf c4 h
    obtain ⟨c3, b0, b1, b2, bf⟩ := hS3.boxc
    have f0 := hS3.frozen HOV.out (X * 7)
    have d0 := (hS3.cells HOV.out X hX).1
    obtain ⟨hS4, hT4⟩ := hS3.setAl HOV.out X hX
    obtain ⟨c4, g0, g1, g2, gf⟩ := hS4.boxc
    obtain ⟨hS5, hT5⟩ := hS4.cutc (wrap64 (c4 + 1))
    have gf2 := gf 2
    rw [HOV.out] at b0
    have HE : Hid (SS ((W3.setCell ⟨ob, X * 7, none⟩ (.bool false)).setCell ⟨sb, 2, none⟩ (.int .i64 (wrap64 (c4 + 1)))) B sb ov ew3 (freeS S (X + 1)) hs ts) := by
      show SS _ _ _ _ _ _ _ _
      unfold freeS
      rw [HW.out]
      exact hS5
    have HT : Hid (Tr sb ov w ew ((W3.setCell ⟨ob, X * 7, none⟩ (.bool false)).setCell ⟨sb, 2, none⟩ (.int .i64 (wrap64 (c4 + 1)))) ew3) := ((hT2.trans hT3).trans hT4).trans hT5
    clear hS3 hT3 hS4 hT4 hS5 hT5 HW hT2
    go_wp2
    go_end0
    exact ⟨rfl, ew3, by rw [← HFS.out]; exact HE.out, HT.out⟩
end Go.Proofs.Ytjnalkeopehlbaa
