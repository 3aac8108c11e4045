import Derived.Test.YtjnalkeopehlbaaGdA
namespace Go.Proofs.Ytjnalkeopehlbaa
open Go.RowKit Go.Maps
set_option linter.unusedVariables false
set_option linter.unusedSimpArgs false

theorem Kp.grown2 {P : Nat → Prop} {a b c : World} {row : Option Nat} (h : Kp P a b) (hg : b.grownBy c row) (hr : ∀ g, row = some g → g < a.heap.size → P g) : Kp P a c :=
  ⟨hg.os.trans h.os, hg.tape.trans h.tape, hg.output.trans h.output, Nat.le_trans h.size hg.size, fun g hg1 hp => (hg.block g (Nat.lt_of_lt_of_le hg1 h.size) (fun e => hp (hr g e.symm hg1))).trans (h.block g hg1 hp)⟩
theorem Kp.below2 {P : Nat → Prop} {a b c : World} (h : Kp P a b) (hb : Below b.heap.size b c) : Kp P a c :=
  ⟨hb.os.trans h.os, hb.tape.trans h.tape, hb.output.trans h.output, Nat.le_trans h.size hb.size, fun g hg1 hp => (hb.block g (Nat.lt_of_lt_of_le hg1 h.size)).trans (h.block g hg1 hp)⟩
theorem txs_setH {S : Gs} {hs ts : Nat → Sl} (k : Nat) (h' : Sl) : (txs S hs ts).set k (txA S (upd hs (k + 1) h') ts k) = txs S (upd hs (k + 1) h') ts := by
  unfold txs
  exact range_set S.n k (txA S hs ts) (txA S (upd hs (k + 1) h') ts) (fun i hi => txA_ne rfl (upd_ne _ _ (by omega)) rfl rfl rfl rfl rfl)
theorem txs_setT {S : Gs} {hs ts : Nat → Sl} (k : Nat) (t' : Sl) : (txs S hs ts).set k (txA S hs (upd ts (k + 1) t') k) = txs S hs (upd ts (k + 1) t') := by
  unfold txs
  exact range_set S.n k (txA S hs ts) (txA S hs (upd ts (k + 1) t')) (fun i hi => txA_ne rfl rfl (upd_ne _ _ (by omega)) rfl rfl rfl rfl)
/-- The outer row with one of its slices turned. -/
theorem out_setH {w : World} {B ob n cap : Nat} {S : Gs} {hs ts : Nat → Sl} (h : OwnG shX 80 w B (.slice (some ⟨ob, 0, none⟩) n cap) (txs S hs ts)) (k : Nat) (hk : k < S.n) (h' : Sl) : OwnG shX 80 (w.setCell ⟨ob, k * 7 + 1, none⟩ h'.val) B (.slice (some ⟨ob, 0, none⟩) n cap) (txs S (upd hs (k + 1) h') ts) := by
  have := h.put k (by rw [txs_len]; exact hk) 1 (by decide) h'.val (txA S (upd hs (k + 1) h') ts k) trivial (by rw [txs_get]; show (txA S (upd hs (k + 1) h') ts k).cs = (txA S hs ts k).cs.set 1 h'.val; unfold txA Tx.cs; simp [upd_same])
  rw [txs_setH] at this
  exact this
theorem out_setT {w : World} {B ob n cap : Nat} {S : Gs} {hs ts : Nat → Sl} (h : OwnG shX 80 w B (.slice (some ⟨ob, 0, none⟩) n cap) (txs S hs ts)) (k : Nat) (hk : k < S.n) (t' : Sl) : OwnG shX 80 (w.setCell ⟨ob, k * 7 + 2, none⟩ t'.val) B (.slice (some ⟨ob, 0, none⟩) n cap) (txs S hs (upd ts (k + 1) t')) := by
  have := h.put k (by rw [txs_len]; exact hk) 2 (by decide) t'.val (txA S hs (upd ts (k + 1) t') k) trivial (by rw [txs_get]; show (txA S hs (upd ts (k + 1) t') k).cs = (txA S hs ts k).cs.set 2 t'.val; unfold txA Tx.cs; simp [upd_same])
  rw [txs_setT] at this
  exact this
theorem upd_id {α : Type} (f : Nat → α) (i : Nat) : upd f i (f i) = f := by
  funext k
  unfold upd
  split
  · rename_i e; rw [e]
  · rfl
/-- One count of a row, in place. -/
theorem SS.times {w : World} {B sb : Nat} {ov ew : Value} {S : Gs} {hs ts : Nat → Sl} (h : SS w B sb ov ew S hs ts) (x : Nat) (hx : S.al x = true) (g k n c v : Nat) (et : (ts x).val = .slice (some ⟨g, 0, none⟩) n c) (hk : k < (S.hl x).length) (hv : v ≤ 1000000) :
    SS (w.setCell ⟨g, k, none⟩ (.int .i64 (v : Nat))) B sb ov ew { S with hl := upd S.hl x ((S.hl x).set k ((S.hl x)[k].1, v)) } hs ts ∧ Ts sb w ov ew S hs ts (w.setCell ⟨g, k, none⟩ (.int .i64 (v : Nat))) ov ew { S with hl := upd S.hl x ((S.hl x).set k ((S.hl x)[k].1, v)) } hs ts := by
  have hg := gb_set w g k (.int .i64 (v : Nat))
  have hgo : (ts x).val.ownBlock = some g := by rw [et]; rfl
  obtain ⟨e1, e2⟩ := ks_set (S.hl x) k v hk
  have h1 := h.hr x hx
  have h2 := h.tr x hx
  have h2' := h2
  rw [et] at h2'
  have h3 := h2'.store k (z := (v : Int)) (by omega) (by omega)
  have := h.rebuild (w' := w.setCell ⟨g, k, none⟩ (.int .i64 (v : Nat))) x hx ((S.hl x).set k ((S.hl x)[k].1, v)) (hs x) (ts x) (Kp.of_grown hg (fun b e => .inr (.inr (by rw [hgo]; exact e)))) (by rw [upd_id, upd_id]; exact h.out.but hg (.inr (fun e => h.pf_int h2 hgo (.inr (.inl e))))) (by rw [e1]; exact h1.but hg (by
      rcases h.aht x x hx hx with h5 | h5
      · exact .inl h5
      · exact .inr (by rw [← hgo]; exact h5))) (by rw [e2, et]; exact h3) (fun b e => .inl e) (fun b e => .inl e) (h.aht x x hx hx)
  rw [upd_id, upd_id] at this
  exact this
set_option maxRecDepth 100000 in
set_option maxHeartbeats 2000000 in
theorem holdG_any (B sb K X Y : Nat) (ov ew : Value) (S : Gs) (hs ts : Nat → Sl) (w : World) (h : SS w B sb ov ew S hs ts) (hI : Iv K S) (hK : K ≤ 2500) (hX : X < S.n) (hY : Y < S.n) (hax : S.al (X + 1) = true) (hBw : B ≤ w.heap.size) :
    Calls Try.prog 42 #[.pointer (some ⟨sb, 0, none⟩), .int .i64 ((X : Int) + 1), .int .i64 ((Y : Int) + 1)] w fun e w' => e = .returned (.tuple #[]) ∧ ∃ hs' ts', SS w' B sb ov ew (holdS S (X + 1) (Y + 1)) hs' ts' ∧ Ts sb w ov ew S hs ts w' ov ew (holdS S (X + 1) (Y + 1)) hs' ts' := by
  have hnk := hI.n
  obtain ⟨ob, cap, hov, hobl, hobz⟩ := h.shape (by omega)
  obtain ⟨c, b0, b1, b2, bf⟩ := h.boxc
  obtain ⟨c0, c1, c2, c3, c4, c5, c6⟩ := h.cells hov X hX
  obtain ⟨ah, ch, at', ct, eh, et, hcell⟩ := h.rows (X + 1) hax
  rw [hov] at b0
  rw [eh] at c1
  rw [et] at c2
  have HOV : Hid (ov = .slice (some ⟨ob, 0, none⟩) S.n cap) := hov
  have hXi : (X : Int) < (S.n : Int) := by omega
  obtain ⟨O, hO⟩ : ∃ O, Obj.cells #[.bool true, .slice ah (S.hl (X + 1)).length ch, .slice at' (S.hl (X + 1)).length ct, .int .i64 (S.rt (X + 1) : Nat), .int .i64 (S.wk (X + 1) : Nat), .int .i64 (S.fn (X + 1) : Nat), .bool (S.rn (X + 1))] 80 = O := ⟨_, rfl⟩
  have q1 : (w.alloc O).cell? ⟨w.heap.size, 1, none⟩ = some (.slice ah (S.hl (X + 1)).length ch) := by rw [← hO, World.cell?_alloc_at _ _ _ _ rfl]; rfl
  have q2 : (w.alloc O).cell? ⟨w.heap.size, 2, none⟩ = some (.slice at' (S.hl (X + 1)).length ct) := by rw [← hO, World.cell?_alloc_at _ _ _ _ rfl]; rfl
  have al : Below w.heap.size w (w.alloc O) := (Below.refl _ _).alloc (Nat.le_refl _) _
  have hszA : (w.alloc O).heap.size = w.heap.size + 1 := by simp
  have hA := h.keep al
  have HA : Hid (SS (w.alloc O) B sb ov ew S hs ts) := hA
  have HTA : Hid (Ts sb w ov ew S hs ts (w.alloc O) ov ew S hs ts) := (h.trk al).ts (fun x hx => ⟨hx, rfl, rfl⟩)
  obtain ⟨GB, hGB⟩ : ∃ GB, w.heap.size = GB := ⟨_, rfl⟩
  have hll := hI.len (X + 1)
  have hkb : ∀ p ∈ S.hl (X + 1), p.1 ≤ 2500 ∧ p.2 ≤ 2500 := fun p hp => by have := hI.hl _ p hp; omega
  obtain ⟨HS', hHS⟩ : ∃ H, holdS S (X + 1) (Y + 1) = H := ⟨_, rfl⟩
  have HHS : Hid (holdS S (X + 1) (Y + 1) = HS') := hHS
  rw [hHS]
  have HEH : Hid ((hs (X + 1)).val = .slice ah (S.hl (X + 1)).length ch) := eh
  have HET : Hid ((ts (X + 1)).val = .slice at' (S.hl (X + 1)).length ct) := et
  obtain ⟨L, hL⟩ : ∃ L, S.hl (X + 1) = L := ⟨_, rfl⟩
  have HL : Hid (S.hl (X + 1) = L) := hL
  have hcell2 : 0 < L.length → ∃ g g', ah = some ⟨g, 0, none⟩ ∧ at' = some ⟨g', 0, none⟩ ∧ ∀ k (hk : k < L.length), (w.alloc O).cell? ⟨g, k, none⟩ = some (.int .i64 ((L[k].1 : Nat) : Int)) ∧ (w.alloc O).cell? ⟨g', k, none⟩ = some (.int .i64 ((L[k].2 : Nat) : Int)) := by
    obtain ⟨a1, c1', a2, c2', e1, e2, h3⟩ := hA.rows (X + 1) hax
    rw [eh] at e1
    rw [et] at e2
    simp only [Value.slice.injEq, true_and] at e1 e2
    rw [hL] at h3
    obtain ⟨rfl, -⟩ := e1
    obtain ⟨rfl, -⟩ := e2
    exact h3
  rw [hL] at c1 c2 hcell q1 q2 hll hkb hO
  obtain ⟨LL, hLL⟩ : ∃ LL, L.length = LL := ⟨_, rfl⟩
  have HLL : Hid (L.length = LL) := hLL
  rw [hLL] at c1 c2 q1 q2 hll hO
  have HHG : Hid (∀ g, (hs (X + 1)).val.ownBlock = some g → g < GB) := fun g e => by have := ((h.hr (X + 1) hax).lt g e).2; omega
  have HTG : Hid (∀ g, (ts (X + 1)).val.ownBlock = some g → g < GB) := fun g e => by have := ((h.tr (X + 1) hax).lt g e).2; omega
  have hsbG : sb < GB := by have := h.lt; omega
  have hobG : ob < GB := by omega
  clear hov al eh et hL hLL hcell hHS hA h
  go_enter Try.func42, Try.ntmps42
  go_upto_region 1 with fail
  try simp only [hO]
  generalize w.alloc O = W1 at *
  rw [hGB] at q1 q2 hszA
  clear c0 c1 c2 c3 c4 c5 c6 b0 b1 b2 bf
  have HC2 : Hid (0 < L.length → ∃ g g', ah = some ⟨g, 0, none⟩ ∧ at' = some ⟨g', 0, none⟩ ∧ ∀ k (hk : k < L.length), W1.cell? ⟨g, k, none⟩ = some (.int .i64 ((L[k].1 : Nat) : Int)) ∧ W1.cell? ⟨g', k, none⟩ = some (.int .i64 ((L[k].2 : Nat) : Int))) := hcell2
  clear hcell2
  go_wp2_with fail
  go_loopw [7] (fun i wq => ∃ k : Nat, k ≤ LL ∧ i = .int .i64 k ∧ (∀ q (hq : q < L.length), q < k → L[q].1 ≠ Y + 1) ∧ wq = W1) (fun i _ => LL - (intOf i).toNat)
  case atStart => exact ⟨0, Nat.zero_le _, rfl, fun q hq h => by omega, rfl⟩
  case round =>
    obtain ⟨k, hk, rfl, hne, hw⟩ := hrel
    obtain rfl : W1 = wr := hw.symm
    clear hw
    have HNE : Hid (∀ q (hq : q < L.length), q < k → L[q].1 ≠ Y + 1) := hne
    clear hne
    by_cases hlt : k < LL
    · have hkL : k < L.length := by rw [HLL.out]; exact hlt
      have hki : (k : Int) < (LL : Int) := by omega
      obtain ⟨g, g', rfl, rfl, hcc⟩ := HC2.out (by omega)
      obtain ⟨r1, r2⟩ := hcc k hkL
      obtain ⟨v1, v2⟩ := hkb L[k] (List.getElem_mem hkL)
      by_cases heq : L[k].1 = Y + 1
      · rw [heq, show ((Y + 1 : Nat) : Int) = (Y : Int) + 1 by omega] at r1
        obtain ⟨c, b0, b1, b2, bf⟩ := HA.out.boxc
        have d2 := (HA.out.cells HOV.out X hX).2.2.1
        rw [HET.out, HL.out, HLL.out] at d2
        rw [HOV.out] at b0
        obtain ⟨V, hV⟩ : ∃ V, L[k].2 = V := ⟨_, rfl⟩
        have hT := HA.out.times (X + 1) hax g' k _ _ (V + 1) HET.out (by rw [HL.out]; exact hkL) (by omega)
        have f2 : W1.frozen? ⟨g', k, none⟩ = false := by
          have := HA.out.tr (X + 1) hax
          rw [HET.out] at this
          exact this.frozen k
        have HE : Hid ({ S with hl := upd S.hl (X + 1) ((S.hl (X + 1)).set k ((S.hl (X + 1))[k]'(by rw [HL.out]; exact hkL) |>.1, V + 1)) } = HS') := by
          show _ = _
          rw [← HHS.out]
          unfold holdS
          have : ∀ (L2 : List (Nat × Nat)) (h2 : k < L2.length), L2 = L → incL L2 (Y + 1) = L2.set k (L2[k].1, V + 1) := fun L2 h2 e => by
            subst e
            rw [inc_at L2 (Y + 1) k h2 heq HNE.out, hV, heq]
          rw [this _ (by rw [HL.out]; exact hkL) HL.out]
        rw [HE.out] at hT
        have HT1 : Hid (SS (W1.setCell ⟨g', k, none⟩ (.int .i64 ((V : Int) + 1))) B sb ov ew HS' hs ts) := hT.1
        have HT2 : Hid (Ts sb w ov ew S hs ts (W1.setCell ⟨g', k, none⟩ (.int .i64 ((V : Int) + 1))) ov ew HS' hs ts) := HTA.out.trans hT.2
        rw [hV] at r2 v2
        clear hT HE hcc heq hV
        go_wp2
        refine bodyPost_ret (results_none rfl _ _ _) rfl ?_
        exact ⟨rfl, hs, ts, HT1.out, HT2.out⟩
      · have e1 : (((L[k].1 : Nat) : Int) == (Y : Int) + 1) = false := by rw [beq_eq_false_iff_ne]; omega
        obtain ⟨Z, hZ⟩ : ∃ Z, L[k].1 = Z := ⟨_, rfl⟩
        have HN2 : Hid (∀ q (hq : q < L.length), q < k + 1 → L[q].1 ≠ Y + 1) := fun q hq hqk => by
          by_cases e : q = k
          · subst e; exact heq
          · exact HNE.out q hq (by omega)
        rw [hZ] at r1 e1 v1
        clear heq hcc r2 hZ
        go_wp2
        go_roundw
        case rel => exact ⟨k + 1, by omega, by go_num, HN2.out, by first | rfl | trivial⟩
        case measure => simp [intOf]; omega
    · obtain rfl : k = LL := by omega
      have hki : ¬ (k : Int) < (k : Int) := by omega
      obtain ⟨c, b0, b1, b2, bf⟩ := HA.out.boxc
      have d1 := (HA.out.cells HOV.out X hX).2.1
      have f1 := HA.out.frozen HOV.out (X * 7 + 1)
      rw [HEH.out, HL.out, HLL.out] at d1
      rw [HOV.out] at b0
      obtain ⟨KL, hKL⟩ : ∃ KL, ksL L = KL := ⟨_, rfl⟩
      have HKL : Hid (ksL L = KL) := hKL
      obtain ⟨VL, hVL⟩ : ∃ VL, vsL L = VL := ⟨_, rfl⟩
      have HVL : Hid (vsL L = VL) := hVL
      have HKN : Hid (KL.length = k) := by show _ = _; rw [← hKL, ksL_len]; exact HLL.out
      have HVN : Hid (VL.length = k) := by show _ = _; rw [← hVL, vsL_len]; exact HLL.out
      have oH0 := HA.out.hr (X + 1) hax
      have oT0 := HA.out.tr (X + 1) hax
      rw [HEH.out, HL.out, HLL.out, hKL] at oH0
      rw [HET.out, HL.out, HLL.out, hVL] at oT0
      clear hKL hVL
      have al6 : Below W1.heap.size W1 (W1.drew.alloc (.cells #[.int .i64 ((Y : Int) + 1)] 2)) := (Below.refl _ _).drew.alloc (Nat.le_refl _) _
      have oH6 := oH0.keep al6
      have oT6 := oT0.keep al6
      have cA : (W1.drew.alloc (.cells #[.int .i64 ((Y : Int) + 1)] 2)).cell? ⟨GB + 1, 0, none⟩ = some (.int .i64 ((Y : Int) + 1)) := by rw [World.cell?_alloc_at _ _ _ _ (by show GB + 1 = W1.heap.size; omega)]; rfl
      have hsz6 : (W1.drew.alloc (.cells #[.int .i64 ((Y : Int) + 1)] 2)).heap.size = GB + 2 := by rw [World.size_alloc]; show W1.heap.size + 1 = _; omega
      have HOE : Hid (ov.ownBlock = some ob) := by show _ = _; rw [HOV.out]; rfl
      have HPH : Hid (∀ g, (Value.slice ah k ch).ownBlock = some g → g ≠ sb ∧ g ≠ ob ∧ g < GB) := fun g e => by
        have hn := HA.out.pf_int oH0 e
        exact ⟨fun e2 => hn (.inl e2), fun e2 => hn (.inr (.inl (by rw [HOE.out, e2]))), HHG.out g (by rw [HEH.out, HL.out, HLL.out]; exact e)⟩
      have HPT : Hid (∀ g, (Value.slice at' k ct).ownBlock = some g → g ≠ sb ∧ g ≠ ob ∧ g < GB) := fun g e => by
        have hn := HA.out.pf_int oT0 e
        exact ⟨fun e2 => hn (.inl e2), fun e2 => hn (.inr (.inl (by rw [HOE.out, e2]))), HTG.out g (by rw [HET.out, HL.out, HLL.out]; exact e)⟩
      have HAP : Hid (NoSh (Value.slice ah k ch) (Value.slice at' k ct)) := by
        have := HA.out.aht (X + 1) (X + 1) hax hax
        rw [HEH.out, HET.out, HL.out, HLL.out] at this
        exact this
      have b0' : (W1.drew.alloc (.cells #[.int .i64 ((Y : Int) + 1)] 2)).cell? ⟨sb, 0, none⟩ = some (.slice (some ⟨ob, 0, none⟩) S.n cap) := (World.cell?_of_block (a := ⟨sb, 0, none⟩) (al6.block sb (by omega))).trans b0
      have q1' : (W1.drew.alloc (.cells #[.int .i64 ((Y : Int) + 1)] 2)).cell? ⟨GB, 1, none⟩ = some (.slice ah k ch) := (World.cell?_of_block (a := ⟨GB, 1, none⟩) (al6.block GB (by omega))).trans q1
      have q2' : (W1.drew.alloc (.cells #[.int .i64 ((Y : Int) + 1)] 2)).cell? ⟨GB, 2, none⟩ = some (.slice at' k ct) := (World.cell?_of_block (a := ⟨GB, 2, none⟩) (al6.block GB (by omega))).trans q2
      have d1' : (W1.drew.alloc (.cells #[.int .i64 ((Y : Int) + 1)] 2)).cell? ⟨ob, X * 7 + 1, none⟩ = some (.slice ah k ch) := (World.cell?_of_block (a := ⟨ob, X * 7 + 1, none⟩) (al6.block ob (by omega))).trans d1
      have f1' : (W1.drew.alloc (.cells #[.int .i64 ((Y : Int) + 1)] 2)).frozen? ⟨ob, X * 7 + 1, none⟩ = false := (World.frozen?_of_block (a := ⟨ob, X * 7 + 1, none⟩) (al6.block ob (by omega))).trans f1
      have hszA6 : B ≤ (W1.drew.alloc (.cells #[.int .i64 ((Y : Int) + 1)] 2)).heap.size := by omega
      have HO1 : Hid (OwnG shX 80 (W1.drew.alloc (.cells #[.int .i64 ((Y : Int) + 1)] 2)) B (.slice (some ⟨ob, 0, none⟩) S.n cap) (txs S hs ts)) := by
        have := HA.out.out.keep al6
        rw [HOV.out] at this
        exact this
      have HK1 : Hid (Kp (fun b => ov.ownBlock = some b ∨ (hs (X + 1)).val.ownBlock = some b ∨ (ts (X + 1)).val.ownBlock = some b) W1 (W1.drew.alloc (.cells #[.int .i64 ((Y : Int) + 1)] 2))) := Kp.of_below al6
      have hYb : -9223372036854775808 ≤ (Y : Int) + 1 ∧ (Y : Int) + 1 < 9223372036854775808 := by omega
      have hlen6 : KL.length + 1 ≤ 16777216 := by have := HKN.out; omega
      have d2 := (HA.out.cells HOV.out X hX).2.2.1
      have f2 := HA.out.frozen HOV.out (X * 7 + 2)
      rw [HET.out, HL.out, HLL.out] at d2
      have d2' : (W1.drew.alloc (.cells #[.int .i64 ((Y : Int) + 1)] 2)).cell? ⟨ob, X * 7 + 2, none⟩ = some (.slice at' k ct) := (World.cell?_of_block (a := ⟨ob, X * 7 + 2, none⟩) (al6.block ob (by omega))).trans d2
      have f2' : (W1.drew.alloc (.cells #[.int .i64 ((Y : Int) + 1)] 2)).frozen? ⟨ob, X * 7 + 2, none⟩ = false := (World.frozen?_of_block (a := ⟨ob, X * 7 + 2, none⟩) (al6.block ob (by omega))).trans f2
      have hobsb : sb ≠ ob := fun e => HA.out.out_sb (by rw [HOE.out, e])
      have HKE : Hid (∀ w' v, (W1.drew.alloc (.cells #[.int .i64 ((Y : Int) + 1)] 2)).grownBy w' (Value.slice ah k ch).ownBlock → (w'.cell? ⟨sb, 0, none⟩ = some (.slice (some ⟨ob, 0, none⟩) S.n cap) ∧ w'.cell? ⟨GB, 1, none⟩ = some (.slice ah k ch) ∧ w'.cell? ⟨ob, X * 7 + 1, none⟩ = some (.slice ah k ch) ∧ w'.frozen? ⟨ob, X * 7 + 1, none⟩ = false) ∧
          (w'.setCell ⟨ob, X * 7 + 1, none⟩ v).cell? ⟨sb, 0, none⟩ = some (.slice (some ⟨ob, 0, none⟩) S.n cap) ∧ (w'.setCell ⟨ob, X * 7 + 1, none⟩ v).cell? ⟨GB, 1, none⟩ = some (.slice ah k ch) ∧ (w'.setCell ⟨ob, X * 7 + 1, none⟩ v).cell? ⟨GB, 2, none⟩ = some (.slice at' k ct) ∧ (w'.setCell ⟨ob, X * 7 + 1, none⟩ v).cell? ⟨ob, X * 7 + 2, none⟩ = some (.slice at' k ct) ∧ (w'.setCell ⟨ob, X * 7 + 1, none⟩ v).frozen? ⟨ob, X * 7 + 2, none⟩ = false) := fun w' v hg => by
        have e1 := hg.block sb (by omega) (fun e => (HPH.out sb e.symm).1 rfl)
        have e2 := hg.block ob (by omega) (fun e => (HPH.out ob e.symm).2.1 rfl)
        have e3 := hg.block GB (by omega) (fun e => by have := (HPH.out GB e.symm).2.2; omega)
        have k1 := (World.cell?_of_block (a := ⟨sb, 0, none⟩) e1).trans b0'
        have k2 := (World.cell?_of_block (a := ⟨GB, 1, none⟩) e3).trans q1'
        have k3 := (World.cell?_of_block (a := ⟨GB, 2, none⟩) e3).trans q2'
        have k4 := (World.cell?_of_block (a := ⟨ob, X * 7 + 1, none⟩) e2).trans d1'
        have k5 := (World.frozen?_of_block (a := ⟨ob, X * 7 + 1, none⟩) e2).trans f1'
        have k6 := (World.cell?_of_block (a := ⟨ob, X * 7 + 2, none⟩) e2).trans d2'
        have k7 := (World.frozen?_of_block (a := ⟨ob, X * 7 + 2, none⟩) e2).trans f2'
        have hgs := gb_set w' ob (X * 7 + 1) v
        have hsw := hg.size
        refine ⟨⟨k1, k2, k4, k5⟩, (World.cell?_of_block (a := ⟨sb, 0, none⟩) (hgs.block sb (by omega) (fun e => hobsb (Option.some.inj e)))).trans k1, (World.cell?_of_block (a := ⟨GB, 1, none⟩) (hgs.block GB (by omega) (fun e => by have e2 : GB = ob := Option.some.inj e; omega))).trans k2, (World.cell?_of_block (a := ⟨GB, 2, none⟩) (hgs.block GB (by omega) (fun e => by have e2 : GB = ob := Option.some.inj e; omega))).trans k3, ?_, ?_⟩
        · exact (World.cell?_setCell_other w' (a := ⟨ob, X * 7 + 1, none⟩) (b := ⟨ob, X * 7 + 2, none⟩) v (fun e => by injection e with _ e2; omega)).trans k6
        · rw [World.frozen?_setCell]; exact k7
      clear d2 f2 d2' f2' b1 b2 bf q2
      have wX : IntKind.i64.wrap ((X : Int) + 1 - 1) = (X : Int) := by simp [IntKind.wrap, IntKind.bits, IntKind.signed]; omega
      have wX2 : IntKind.i64.wrap (X : Int) = (X : Int) := by simp [IntKind.wrap, IntKind.bits, IntKind.signed]; omega
      have hX0 : (0 : Int) ≤ (X : Int) := by omega
      go_wp2_with fail
      generalize hWA : W1.drew.alloc (.cells #[.int .i64 ((Y : Int) + 1)] 2) = WA at *
      go_region_held3 (fun W => W.cell? ⟨sb, 0, none⟩ = some (.slice (some ⟨ob, 0, none⟩) S.n cap) ∧ W.cell? ⟨GB, 1, none⟩ = some (.slice ah k ch)) (go_keep) (first | (refine step_append_intL rfl (.tmp 51) (.tmp 53) 23 rfl Try.underlying23 B (.slice ah k ch) KL ((Y : Int) + 1) hYb (GB + 1) 1 (by simp [Act.eval, Act.put]) (by simp [Act.eval, Act.put]) oH6 cA hlen6 hszA6 ?_; intro b' c' w' hO' hg' hl' hz'; obtain ⟨⟨k1, k2, k3, k4⟩, m1, m5, m2, m3, m4⟩ := HKE.out w' (.slice (some ⟨b', 0, none⟩) (KL.length + 1) c') hg'))
      have hsw := hg'.size
      have HO2 : Hid (OwnG shX 80 (w'.setCell ⟨ob, X * 7 + 1, none⟩ (.slice (some ⟨b', 0, none⟩) (KL.length + 1) c')) B (.slice (some ⟨ob, 0, none⟩) S.n cap) (txs S (upd hs (X + 1) ⟨some ⟨b', 0, none⟩, KL.length + 1, c'⟩) ts)) := out_setH (HO1.out.but hg' (.inr (fun e => (HPH.out ob (by rw [← e]; rfl)).2.1 rfl))) X hX ⟨some ⟨b', 0, none⟩, KL.length + 1, c'⟩
      have hgs := gb_set w' ob (X * 7 + 1) (.slice (some ⟨b', 0, none⟩) (KL.length + 1) c')
      have hb'ob : b' ≠ ob := by
        rcases hl' with h5 | h5
        · exact (HPH.out b' h5).2.1
        · omega
      have HH2 : Hid (Own (w'.setCell ⟨ob, X * 7 + 1, none⟩ (.slice (some ⟨b', 0, none⟩) (KL.length + 1) c')) B (.slice (some ⟨b', 0, none⟩) (KL.length + 1) c') (KL ++ [(Y : Int) + 1])) := hO'.but hgs (.inr (fun e => hb'ob (Option.some.inj e)))
      have oT7 : Own (w'.setCell ⟨ob, X * 7 + 1, none⟩ (.slice (some ⟨b', 0, none⟩) (KL.length + 1) c')) B (.slice at' k ct) (VL) := (oT6.but hg' HAP.out.symm).but hgs (.inr (fun e => (HPT.out ob e).2.1 rfl))
      have HK2 : Hid (Kp (fun b => ov.ownBlock = some b ∨ (hs (X + 1)).val.ownBlock = some b ∨ (ts (X + 1)).val.ownBlock = some b) W1 (w'.setCell ⟨ob, X * 7 + 1, none⟩ (.slice (some ⟨b', 0, none⟩) (KL.length + 1) c'))) := (HK1.out.grown2 hg' (fun g e _ => .inr (.inl (by rw [HEH.out, HL.out, HLL.out]; exact e)))).grown2 hgs (fun g e _ => .inl (by rw [HOE.out]; exact e))
      have hszW2 : (w'.setCell ⟨ob, X * 7 + 1, none⟩ (.slice (some ⟨b', 0, none⟩) (KL.length + 1) c')).heap.size = w'.heap.size := World.size_setCell _ _ _
      clear k1 k2 k3 k4 m5 hO' hg' hgs HKE HO1 HK1 cA oH6 oT6 b0' q1' q2' d1' f1' al6 hWA d1 f1 b0 q1
      have hb'lt : b' < (w'.setCell ⟨ob, X * 7 + 1, none⟩ (.slice (some ⟨b', 0, none⟩) (KL.length + 1) c')).heap.size := by rw [hszW2]; exact hz'
      have HBN : Hid ((Value.slice ah k ch).ownBlock = some b' ∨ b' = GB + 2) := by
        rcases hl' with h5 | h5
        · exact .inl h5
        · exact .inr (by omega)
      have hszG : GB + 2 ≤ (w'.setCell ⟨ob, X * 7 + 1, none⟩ (.slice (some ⟨b', 0, none⟩) (KL.length + 1) c')).heap.size := by rw [hszW2]; omega
      clear hl' hz' hszW2 hsz6 hszA6 hlen6
      generalize w'.setCell ⟨ob, X * 7 + 1, none⟩ (.slice (some ⟨b', 0, none⟩) (KL.length + 1) c') = W2 at *
      obtain ⟨M2, hM2⟩ : ∃ M2, W2.heap.size = M2 := ⟨_, rfl⟩
      rw [hM2] at hb'lt hszG
      have al7 : Below W2.heap.size W2 (W2.drew.alloc (.cells #[.int .i64 1] 2)) := (Below.refl _ _).drew.alloc (Nat.le_refl _) _
      have oT8 := oT7.keep al7
      have cB : (W2.drew.alloc (.cells #[.int .i64 1] 2)).cell? ⟨M2, 0, none⟩ = some (.int .i64 1) := by rw [World.cell?_alloc_at _ _ _ _ (by show M2 = W2.heap.size; omega)]; rfl
      have hsz8 : (W2.drew.alloc (.cells #[.int .i64 1] 2)).heap.size = M2 + 1 := by rw [World.size_alloc]; show W2.heap.size + 1 = _; omega
      have m1' : (W2.drew.alloc (.cells #[.int .i64 1] 2)).cell? ⟨sb, 0, none⟩ = some (.slice (some ⟨ob, 0, none⟩) S.n cap) := (World.cell?_of_block (a := ⟨sb, 0, none⟩) (al7.block sb (by omega))).trans m1
      have m2' : (W2.drew.alloc (.cells #[.int .i64 1] 2)).cell? ⟨GB, 2, none⟩ = some (.slice at' k ct) := (World.cell?_of_block (a := ⟨GB, 2, none⟩) (al7.block GB (by omega))).trans m2
      have m3' : (W2.drew.alloc (.cells #[.int .i64 1] 2)).cell? ⟨ob, X * 7 + 2, none⟩ = some (.slice at' k ct) := (World.cell?_of_block (a := ⟨ob, X * 7 + 2, none⟩) (al7.block ob (by omega))).trans m3
      have m4' : (W2.drew.alloc (.cells #[.int .i64 1] 2)).frozen? ⟨ob, X * 7 + 2, none⟩ = false := (World.frozen?_of_block (a := ⟨ob, X * 7 + 2, none⟩) (al7.block ob (by omega))).trans m4
      have HKE : Hid (∀ w' v, (W2.drew.alloc (.cells #[.int .i64 1] 2)).grownBy w' (Value.slice at' k ct).ownBlock → (w'.cell? ⟨sb, 0, none⟩ = some (.slice (some ⟨ob, 0, none⟩) S.n cap) ∧ w'.cell? ⟨GB, 2, none⟩ = some (.slice at' k ct) ∧ w'.cell? ⟨ob, X * 7 + 2, none⟩ = some (.slice at' k ct) ∧ w'.frozen? ⟨ob, X * 7 + 2, none⟩ = false) ∧
          (w'.setCell ⟨ob, X * 7 + 2, none⟩ v).cell? ⟨sb, 0, none⟩ = some (.slice (some ⟨ob, 0, none⟩) S.n cap) ∧ (w'.setCell ⟨ob, X * 7 + 2, none⟩ v).cell? ⟨GB, 2, none⟩ = some (.slice at' k ct)) := fun w' v hg => by
        have e1 := hg.block sb (by omega) (fun e => (HPT.out sb e.symm).1 rfl)
        have e2 := hg.block ob (by omega) (fun e => (HPT.out ob e.symm).2.1 rfl)
        have e3 := hg.block GB (by omega) (fun e => by have := (HPT.out GB e.symm).2.2; omega)
        have k1 := (World.cell?_of_block (a := ⟨sb, 0, none⟩) e1).trans m1'
        have k3 := (World.cell?_of_block (a := ⟨GB, 2, none⟩) e3).trans m2'
        have k6 := (World.cell?_of_block (a := ⟨ob, X * 7 + 2, none⟩) e2).trans m3'
        have k7 := (World.frozen?_of_block (a := ⟨ob, X * 7 + 2, none⟩) e2).trans m4'
        have hgs := gb_set w' ob (X * 7 + 2) v
        have hsw := hg.size
        exact ⟨⟨k1, k3, k6, k7⟩, (World.cell?_of_block (a := ⟨sb, 0, none⟩) (hgs.block sb (by omega) (fun e => hobsb (Option.some.inj e)))).trans k1, (World.cell?_of_block (a := ⟨GB, 2, none⟩) (hgs.block GB (by omega) (fun e => by have e2 : GB = ob := Option.some.inj e; omega))).trans k3⟩
      have HO3 : Hid (OwnG shX 80 (W2.drew.alloc (.cells #[.int .i64 1] 2)) B (.slice (some ⟨ob, 0, none⟩) S.n cap) (txs S (upd hs (X + 1) ⟨some ⟨b', 0, none⟩, KL.length + 1, c'⟩) ts)) := HO2.out.keep al7
      have HH3 : Hid (Own (W2.drew.alloc (.cells #[.int .i64 1] 2)) B (.slice (some ⟨b', 0, none⟩) (KL.length + 1) c') (KL ++ [(Y : Int) + 1])) := HH2.out.keep al7
      have HK3 : Hid (Kp (fun b => ov.ownBlock = some b ∨ (hs (X + 1)).val.ownBlock = some b ∨ (ts (X + 1)).val.ownBlock = some b) W1 (W2.drew.alloc (.cells #[.int .i64 1] 2))) := HK2.out.below2 al7
      have hlen8 : VL.length + 1 ≤ 16777216 := by have := HVN.out; omega
      have hB8 : B ≤ (W2.drew.alloc (.cells #[.int .i64 1] 2)).heap.size := by omega
      have h1b : -9223372036854775808 ≤ (1 : Int) ∧ (1 : Int) < 9223372036854775808 := by decide
      clear HO2 HH2 HK2 m3 m4 oT7 oH0 oT0
      go_wp2_with fail
      generalize hWB : W2.drew.alloc (.cells #[.int .i64 1] 2) = WB at *
      go_region_held3 (fun W => W.cell? ⟨sb, 0, none⟩ = some (.slice (some ⟨ob, 0, none⟩) S.n cap) ∧ W.cell? ⟨GB, 2, none⟩ = some (.slice at' k ct)) (go_keep) (first | (refine step_append_intL rfl (.tmp 64) (.tmp 65) 23 rfl Try.underlying23 B (.slice at' k ct) VL 1 h1b M2 1 (by simp [Act.eval, Act.put]) (by simp [Act.eval, Act.put]) oT8 cB hlen8 hB8 ?_; intro b2' c2' w2' hO2' hg2' hl2' hz2'; obtain ⟨⟨k1, k2, k3, k4⟩, n1, n2⟩ := HKE.out w2' (.slice (some ⟨b2', 0, none⟩) (VL.length + 1) c2') hg2'))
      have hgs := gb_set w2' ob (X * 7 + 2) (.slice (some ⟨b2', 0, none⟩) (VL.length + 1) c2')
      have hb2ob : b2' ≠ ob := by
        rcases hl2' with h5 | h5
        · exact (HPT.out b2' h5).2.1
        · omega
      have hHne : NoSh (.slice (some ⟨b', 0, none⟩) (KL.length + 1) c') (Value.slice at' k ct) := by
        rcases HBN.out with h5 | h5
        · rcases HAP.out with h6 | h6
          · rw [h5] at h6; cases h6
          · exact .inr (by show some b' ≠ _; rw [← h5]; exact h6)
        · exact .inr (fun e => by have := (HPT.out b' e.symm).2.2; omega)
      have oF := out_setT (HO3.out.but hg2' (.inr (fun e => (HPT.out ob (by rw [← e]; rfl)).2.1 rfl))) X hX ⟨some ⟨b2', 0, none⟩, VL.length + 1, c2'⟩
      have oHF : Own (w2'.setCell ⟨ob, X * 7 + 2, none⟩ (.slice (some ⟨b2', 0, none⟩) (VL.length + 1) c2')) B (.slice (some ⟨b', 0, none⟩) (KL.length + 1) c') (KL ++ [(Y : Int) + 1]) := (HH3.out.but hg2' hHne).but hgs (.inr (fun e => hb'ob (Option.some.inj e)))
      have oTF : Own (w2'.setCell ⟨ob, X * 7 + 2, none⟩ (.slice (some ⟨b2', 0, none⟩) (VL.length + 1) c2')) B (.slice (some ⟨b2', 0, none⟩) (VL.length + 1) c2') (VL ++ [1]) := hO2'.but hgs (.inr (fun e => hb2ob (Option.some.inj e)))
      have hKF := (HK3.out.grown2 hg2' (fun g e _ => .inr (.inr (by rw [HET.out, HL.out, HLL.out]; exact e)))).grown2 hgs (fun g e _ => .inl (by rw [HOE.out]; exact e))
      have hF := HA.out.rebuild (w' := w2'.setCell ⟨ob, X * 7 + 2, none⟩ (.slice (some ⟨b2', 0, none⟩) (VL.length + 1) c2')) (X + 1) hax (L ++ [(Y + 1, 1)]) ⟨some ⟨b', 0, none⟩, KL.length + 1, c'⟩ ⟨some ⟨b2', 0, none⟩, VL.length + 1, c2'⟩ hKF (by rw [HOV.out]; exact oF) (by rw [show ksL (L ++ [(Y + 1, 1)]) = KL ++ [(Y : Int) + 1] by rw [← HKL.out]; unfold ksL; simp]; exact oHF) (by rw [show vsL (L ++ [(Y + 1, 1)]) = VL ++ [1] by rw [← HVL.out]; unfold vsL; simp]; exact oTF) (fun b e => by
          have e2 : b' = b := Option.some.inj e
          rcases HBN.out with h5 | h5
          · exact .inl (by rw [HEH.out, HL.out, HLL.out, h5, e2])
          · exact .inr (by omega)) (fun b e => by
          have e2 : b2' = b := Option.some.inj e
          rcases hl2' with h5 | h5
          · exact .inl (by rw [HET.out, HL.out, HLL.out, h5, e2])
          · exact .inr (by omega)) (.inr (fun e => by
          have e2 : b' = b2' := Option.some.inj e
          rcases hl2' with h5 | h5
          · rcases hHne with h6 | h6
            · cases h6
            · exact h6 (by rw [h5, ← e2]; rfl)
          · omega))
      have HE : Hid ({ S with hl := upd S.hl (X + 1) (L ++ [(Y + 1, 1)]) } = HS') := by
        show _ = _
        rw [← HHS.out]
        unfold holdS
        rw [HL.out, inc_none L (Y + 1) (fun q hq => HNE.out q hq (by rw [← HLL.out]; exact hq))]
      rw [HE.out] at hF
      have HF1 : Hid (SS (w2'.setCell ⟨ob, X * 7 + 2, none⟩ (.slice (some ⟨b2', 0, none⟩) (VL.length + 1) c2')) B sb ov ew HS' (upd hs (X + 1) ⟨some ⟨b', 0, none⟩, KL.length + 1, c'⟩) (upd ts (X + 1) ⟨some ⟨b2', 0, none⟩, VL.length + 1, c2'⟩)) := hF.1
      have HF2 : Hid (Ts sb w ov ew S hs ts (w2'.setCell ⟨ob, X * 7 + 2, none⟩ (.slice (some ⟨b2', 0, none⟩) (VL.length + 1) c2')) ov ew HS' (upd hs (X + 1) ⟨some ⟨b', 0, none⟩, KL.length + 1, c'⟩) (upd ts (X + 1) ⟨some ⟨b2', 0, none⟩, VL.length + 1, c2'⟩)) := HTA.out.trans hF.2
      clear hF HE hKF oF oHF oTF hHne hgs k1 k2 k3 k4 n1 n2 m1 m2 hO2' hg2' HKE HO3 HH3 HK3 cB oT8 m1' m2' m3' m4'
      go_wp2
      go_end0
      exact ⟨rfl, _, _, HF1.out, HF2.out⟩
end Go.Proofs.Ytjnalkeopehlbaa
