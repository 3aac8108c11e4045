import Derived.Test.YtgbkniliojpejaaDoorBrdK
namespace Go.Proofs.YtgbkniliojpejaaDoor
open Go.RowKit Go.Shelf
attribute [local go_sem] Oper.semAt_some
set_option linter.unusedVariables false
set_option linter.unusedSimpArgs false

set_option maxRecDepth 100000 in
set_option maxHeartbeats 1000000 in
theorem readLimbs_any (s : ByteArray) (b : Nat) (w : World) (hs : s.size ≤ 5000) (hb0 : 2 ≤ b) (hb1 : b ≤ 36) (hne : 0 < s.size) :
    Calls Tryd.prog 19 #[.string s, .int .u32 (b : Int)] w fun e w' => ∃ a c, e = .returned (.tuple #[.slice a (rlL (rlA b s.data.toList)).length c, .bool (rlA b s.data.toList).isSome]) ∧
      Own w' w.heap.size (.slice a (rlL (rlA b s.data.toList)).length c) (rlL (rlA b s.data.toList)) ∧ Below w.heap.size w w' := by
  have hne2 : s.data.toList ≠ [] := fun h => by have : s.data.toList.length = s.size := by simp
                                                rw [h] at this; simp at this; omega
  generalize hR : rlA b s.data.toList = R
  have hL := fun W => limbOfDigitsR_any b W hb0 hb1
  have hC := fun a len cap wd h W => chunk_any a len cap wd h W
  refine (callsIn_wide (n := 4)).1 ?_
  refine callsIn_of_wp_marks Tryd.func19 rfl trivial ?_ rfl
  simp only [Tryd.ntmps19, List.size_toArray, List.length_cons, List.length_nil, Nat.reduceAdd, Nat.reduceSub, Array.replicate_succ, Array.replicate_zero, List.push_toArray, List.append_toArray, List.nil_append, List.cons_append]
  have hse : s.toList.isEmpty = false := by
    rw [ByteArray.toList_eq]
    cases h : s.data.toList with
    | nil => exact absurd h hne2
    | cons _ _ => rfl
  gi_wp2_with fail
  refine ⟨trivial, ?_⟩
  refine (callsIn_wide.2 (hL _)).mono ?_
  rintro e w1 ⟨wd, u, rfl, hu, hwd, hul, rfl⟩
  have HU : Hid (u = b ^ wd) := hu
  have hwd2 : wd ≤ 31 := pow_boundR hb0 (hu ▸ hul)
  clear hu hL
  obtain ⟨cap, w4, hcv, hcap, hz4, hcells, hB4⟩ := bytes_ofR s ((((w.alloc (Obj.cells #[.int .u32 (b : Int)] 43)).alloc (Obj.cells #[.slice none 0 0] 41)).alloc (Obj.cells #[.bool false] 4)).alloc (Obj.cells #[.slice none 0 0] 41))
  simp only [World.size_alloc] at hcv hz4 hcells hB4
  gi_wp2_with fail
  refine ⟨trivial, ?_⟩
  refine (callsIn_wide.2 (hC _ _ _ _ hwd _)).mono ?_
  rintro e w5 ⟨rfl, rfl⟩
  gi_wp2_with fail
  have hz5 : ((w4.alloc (Obj.cells #[.slice (some ⟨w.heap.size + 1 + 1 + 1 + 1, 0, none⟩) s.size cap] 22)).alloc (Obj.cells #[.int .i64 (wd : Int)] 3)).heap.size = w.heap.size + 7 := by simp [hz4]
  have hB5 : Below w4.heap.size w4 ((w4.alloc (Obj.cells #[.slice (some ⟨w.heap.size + 1 + 1 + 1 + 1, 0, none⟩) s.size cap] 22)).alloc (Obj.cells #[.int .i64 (wd : Int)] 3)) := ((Below.refl _ w4).alloc (Nat.le_refl _) _).alloc (by simp) _
  have x0 := (((Boxed.new w 43 (.int .u32 (b : Int))).alloc (Obj.cells #[.slice none 0 0] 41)).alloc (Obj.cells #[.bool false] 4)).alloc (Obj.cells #[.slice none 0 0] 41)
  have x1 := ((Boxed.new (w.alloc (Obj.cells #[.int .u32 (b : Int)] 43)) 41 (.slice none 0 0)).alloc (Obj.cells #[.bool false] 4)).alloc (Obj.cells #[.slice none 0 0] 41)
  have x2 := (Boxed.new ((w.alloc (Obj.cells #[.int .u32 (b : Int)] 43)).alloc (Obj.cells #[.slice none 0 0] 41)) 4 (.bool false)).alloc (Obj.cells #[.slice none 0 0] 41)
  have x3 := Boxed.new (((w.alloc (Obj.cells #[.int .u32 (b : Int)] 43)).alloc (Obj.cells #[.slice none 0 0] 41)).alloc (Obj.cells #[.bool false] 4)) 41 (.slice none 0 0)
  simp only [World.size_alloc] at x1 x2 x3
  have z0 : Boxed w4 _ _ _ := (hB4.block _ (show w.heap.size < _ by omega)).trans x0
  have z1 : Boxed w4 _ _ _ := (hB4.block _ (show w.heap.size + 1 < _ by omega)).trans x1
  have z2 : Boxed w4 _ _ _ := (hB4.block _ (show w.heap.size + 1 + 1 < _ by omega)).trans x2
  have z3 : Boxed w4 _ _ _ := (hB4.block _ (show w.heap.size + 1 + 1 + 1 < _ by omega)).trans x3
  have hBw : Below w.heap.size w w4 := (((((Below.refl _ w).alloc (Nat.le_refl _) _).alloc (by simp) _).alloc (by simp; omega) _).alloc (by simp; omega) _).trans (hB4.mono (by omega))
  have q5 := ((Boxed.new w4 22 (.slice (some ⟨w.heap.size + 1 + 1 + 1 + 1, 0, none⟩) s.size cap)).alloc (Obj.cells #[.int .i64 (wd : Int)] 3)).cell
  have q6 := (Boxed.new (w4.alloc (Obj.cells #[.slice (some ⟨w.heap.size + 1 + 1 + 1 + 1, 0, none⟩) s.size cap] 22)) 3 (.int .i64 (wd : Int))).cell
  simp only [World.size_alloc, hz4] at q5 q6
  have hR0 : RI w.heap.size b wd s.data.toList w [] ((w4.alloc (Obj.cells #[.slice (some ⟨w.heap.size + 1 + 1 + 1 + 1, 0, none⟩) s.size cap] 22)).alloc (Obj.cells #[.int .i64 (wd : Int)] 3)) := by
    have e0 : lim (dval b (chC wd s.data.toList [])) = [] := by simp [chC, dval, lim_zero]
    exact ⟨(z0.alloc _).alloc _, (z1.alloc _).alloc _, (z2.alloc _).alloc _, ⟨none, 0, by rw [e0]; exact (z3.alloc _).alloc _, by rw [e0]; exact Own.nil _ _⟩, rfl,
      fun k h => (hB5.cell (p := ⟨w.heap.size + 1 + 1 + 1 + 1, k, none⟩) (show w.heap.size + 1 + 1 + 1 + 1 < _ by omega)).trans (hcells k h), by omega, hBw.trans (hB5.mono (by omega))⟩
  have hSq := chunk_stops 3 (by omega) (w.heap.size + 5) (w.heap.size + 6) (w.heap.size + 4) s.size cap wd hs hcap hwd (by omega) ((w4.alloc (Obj.cells #[.slice (some ⟨w.heap.size + 1 + 1 + 1 + 1, 0, none⟩) s.size cap] 22)).alloc (Obj.cells #[.int .i64 (wd : Int)] 3)) (by omega) (by omega) q5 q6
  clear q5 q6 hB5 hBw z0 z1 z2 z3 x0 x1 x2 x3
  try simp only [hz4]
  generalize ((w4.alloc (Obj.cells #[.slice (some ⟨w.heap.size + 1 + 1 + 1 + 1, 0, none⟩) s.size cap] 22)).alloc (Obj.cells #[.int .i64 (wd : Int)] 3)) = W5 at hz5 hR0 hSq ⊢
  refine wpIn_rangeFunc_ownF rfl (by omega) (gf := 45) (lb := #[.pointer (some ⟨w.heap.size + 5, 0, none⟩), .pointer (some ⟨w.heap.size + 6, 0, none⟩)]) rfl trivial (enters_of Tryd.func45 (by kernel_rfl) rfl)
    hSq Kp2.trans (fun W l o o' h1 h2 h3 h4 => Kp2.below (belowK_b (Nat.le_refl _) W l o o' h1 h2 h3 h4) (by omega) (by omega)) (Below.refl _ _) (fun _ => rfl)
    (RI w.heap.size b wd s.data.toList w) (RX w.heap.size b wd s.data.toList w) (by rw [hz5]; exact RI.own _ _ _ _ _ (Nat.le_refl _)) (fun c => by rw [hz5]; exact RX.own _ _ _ _ _ (Nat.le_refl _) c) hR0 ?act1 ?assign ?body ?done ?stop
  case assign =>
    intro l x W K hK
    gi_wp2
    exact hK
  case body =>
    rintro l pre x W hI hpl
    obtain ⟨L, hL⟩ : ∃ L, chB wd s.data.toList x = L := ⟨_, rfl⟩
    have hLl : min wd (s.size - x * wd) = L.length := by rw [← hL]; simp [chB]
    have hLw : L.length ≤ wd := by omega
    have hLc : ∀ k (h : k < L.length), W.cell? ⟨w.heap.size + 1 + 1 + 1 + 1, x * wd + k, none⟩ = some (.int .u8 (L[k].toNat : Int)) := by
      intro k h
      subst hL
      have h2 : x * wd + k < s.data.toList.length := by simp [chB] at h ⊢; omega
      rw [hI.bytes _ h2]
      simp [chB]
    obtain ⟨am, cm, hm1, hm2⟩ := hI.m
    have kB := hI.bB.cell
    have k0 := hI.b0.cell
    have k0f := hI.b0.frozen
    have k1 := hI.b1.cell
    have k1f := hI.b1.frozen
    have km := hm1.cell
    have kmf := hm1.frozen
    have hdg := fun y W => digitOf_any y W
    unfold chunkV
    rw [hLl]
    clear hcv hcells hB4 hSq hR0 hC
    gi_wp2_with fail
    gi_loopw [10, 11, 29] (fun un va i wr => ∃ (k U V : Nat), k ≤ L.length ∧ un = .int .u32 (U : Int) ∧ va = .int .u32 (V : Int) ∧ i = .int .i64 k ∧ U = b ^ k ∧ V = dval b (L.take k) ∧ goodD b (L.take k) = true ∧ Below W.heap.size W wr ∧ KeepsOthers W wr) (fun _ _ i _ => L.length - (intOf i).toNat)
    case atStart => exact ⟨0, 1, 0, Nat.zero_le _, rfl, rfl, rfl, rfl, rfl, rfl, Below.refl _ _, KeepsOthers.refl _⟩
    case round =>
      obtain ⟨k, U, V, hk, rfl, rfl, rfl, hU, hV, hg, hBr, hKr⟩ := hrel
      have ltB := hI.bB.lt
      have lt0 := hI.b0.lt
      have lt1 := hI.b1.lt
      have ltm := hm1.lt
      have hsz := hI.sz
      replace kB := (hBr.cell (p := ⟨w.heap.size, 0, none⟩) ltB).trans kB
      replace k0 := (hBr.cell (p := ⟨w.heap.size + 1, 0, none⟩) lt0).trans k0
      replace k0f := (hBr.frozen (p := ⟨w.heap.size + 1, 0, none⟩) lt0).trans k0f
      replace k1 := (hBr.cell (p := ⟨w.heap.size + 1 + 1, 0, none⟩) lt1).trans k1
      replace k1f := (hBr.frozen (p := ⟨w.heap.size + 1 + 1, 0, none⟩) lt1).trans k1f
      replace km := (hBr.cell (p := ⟨w.heap.size + 1 + 1 + 1, 0, none⟩) ltm).trans km
      replace kmf := (hBr.frozen (p := ⟨w.heap.size + 1 + 1 + 1, 0, none⟩) ltm).trans kmf
      by_cases hlt : k < L.length
      · have hck : wr.cell? ⟨w.heap.size + 1 + 1 + 1 + 1, x * wd + k, none⟩ = some (.int .u8 (L[k].toNat : Int)) := (hBr.cell (p := ⟨w.heap.size + 1 + 1 + 1 + 1, x * wd + k, none⟩) (by show w.heap.size + 1 + 1 + 1 + 1 < _; omega)).trans (hLc k hlt)
        have hz1 : (k : Int) < (L.length : Int) := by omega
        obtain ⟨y, hy⟩ : ∃ y, L[k] = y := ⟨_, rfl⟩
        rw [hy] at hck
        clear hLc
        have HT : Hid (L.take (k + 1) = L.take k ++ [y]) := by show _ = _; rw [List.take_succ_eq_append_getElem hlt, hy]
        have hUl : b ^ (k + 1) < 4294967296 := by
          have h1 : b ^ (k + 1) ≤ b ^ wd := Nat.pow_le_pow_right (by omega) (by omega)
          have := HU.out; omega
        have hVl : V < U := by
          have := dval_lt hg
          rw [List.length_take, Nat.min_eq_left hk] at this
          omega
        have HG : Hid (goodD b (L.take k) = true) := hg
        have HV : Hid (V = dval b (L.take k)) := hV
        have HUk : Hid (U = b ^ k) := hU
        obtain ⟨ub, hub⟩ : ∃ ub, U * b = ub := ⟨_, rfl⟩
        obtain ⟨vb, hvb⟩ : ∃ vb, V * b = vb := ⟨_, rfl⟩
        have hubl : ub < 4294967296 := by rw [← hub, hU, ← Nat.pow_succ]; exact hUl
        have hubz : (U : Int) * (b : Int) = (ub : Int) := by rw [← hub, Int.natCast_mul]
        have hvbz : (V : Int) * (b : Int) = (vb : Int) := by rw [← hvb, Int.natCast_mul]
        have hvu : vb + b ≤ ub := by
          have : (V + 1) * b ≤ U * b := Nat.mul_le_mul_right b hVl
          rw [Nat.add_mul] at this
          omega
        have HUB : Hid (ub = b ^ (k + 1)) := by show _ = _; rw [← hub, hU, ← Nat.pow_succ]
        have HVB : Hid (V * b = vb) := hvb
        have HLT : Hid (k < L.length) := hlt
        clear hub hvb hU hV hg hUl
        gi_wp2_with fail
        refine ⟨trivial, ?_⟩
        refine (CallsIn.inRound l (callsIn_wide.2 (hdg y _))).mono ?_
        rintro e w2 ⟨rfl, rfl⟩
        by_cases hd : digN y < b
        · rw [if_pos (by omega)]
          have hdz : (digN y : Int) < (b : Int) := by omega
          have HG2 : Hid (goodD b (L.take (k + 1)) = true) := by
            show _ = _
            rw [HT.out, goodD_snoc, HG.out, decide_eq_true hd]; rfl
          have HV2 : Hid (vb + digN y = dval b (L.take (k + 1))) := by
            show _ = _
            rw [HT.out, dval_snoc, ← HV.out, HVB.out]
          generalize digN y = dy at hd hdz HV2 ⊢
          gi_wp2
          go_roundw
          case rel => exact ⟨k + 1, ub, vb + dy, by have := HLT.out; omega, rfl, by go_num, by go_num, HUB.out, HV2.out, HG2.out, hBr, hKr⟩
          case measure => have := HLT.out; simp [intOf]; omega
        · have HB : Hid (goodD b (chC wd s.data.toList (pre ++ [x])) = false) := by
            show _ = _
            rw [chC_snoc, hL, goodD_append, goodD_bad HLT.out (by rw [hy]; omega), Bool.and_false]
          have hsz2 : w.heap.size + 7 ≤ w2.heap.size := Nat.le_trans hsz hBr.size
          have hbel := hI.bel.trans (hBr.mono (Nat.le_trans (Nat.le_refl _) (by omega)))
          have bx0 : Boxed w2 (w.heap.size + 1) 41 (.slice none 0 0) := (hBr.block _ lt0).trans hI.b0
          have bx1 : Boxed w2 (w.heap.size + 1 + 1) 4 (.bool false) := (hBr.block _ lt1).trans hI.b1
          by_cases hd2 : digN y < 36
          · rw [if_pos hd2]
            have hdz : (b : Int) ≤ (digN y : Int) := by omega
            gi_wp2
            exact ⟨(hKr.trans (KeepsOthers.setCell _ _ _)).trans (KeepsOthers.setCell _ _ _), rfl, HB.out, (bx0.set _).other (by omega) _, (bx1.other (by omega) _).set _, by simpa using hsz2, (hbel.setCell (Nat.le_succ _) _).setCell (Nat.le_add_right _ 2) _⟩
          · rw [if_neg hd2]
            gi_wp2
            exact ⟨(hKr.trans (KeepsOthers.setCell _ _ _)).trans (KeepsOthers.setCell _ _ _), rfl, HB.out, (bx0.set _).other (by omega) _, (bx1.other (by omega) _).set _, by simpa using hsz2, (hbel.setCell (Nat.le_succ _) _).setCell (Nat.le_add_right _ 2) _⟩
      · obtain rfl : k = L.length := by omega
        have hz1 : ¬ (L.length : Int) < (L.length : Int) := by omega
        have hN := lim_chC HU.out hul (by omega) hI.good
        have hUl : U < 4294967296 := by
          have h1 : b ^ L.length ≤ b ^ wd := Nat.pow_le_pow_right (by omega) hLw
          have := HU.out; omega
        rw [List.take_of_length_le (Nat.le_refl _)] at hV hg
        have hVl : V < U := by have := dval_lt hg; omega
        have hO := hm2.keep hBr
        have hTP := timesPlus_any _ _ U V wr hO.rd (by omega) hUl (by omega)
        rw [val_lim] at hTP
        have HE : Hid (dval b (chC wd s.data.toList pre) * U + V = dval b (chC wd s.data.toList (pre ++ [x]))) := by
          show _ = _
          rw [chC_snoc, hL, dval_append, ← hU, ← hV]
        rw [HE.out] at hTP
        have HG : Hid (goodD b (chC wd s.data.toList (pre ++ [x])) = true) := by
          show _ = _
          rw [chC_snoc, hL, goodD_append, hI.good, hg]; rfl
        generalize hQ : lim (dval b (chC wd s.data.toList (pre ++ [x]))) = Q at hTP
        generalize lim (dval b (chC wd s.data.toList pre)) = Q0 at hTP hm1 hm2 hO km
        clear hU hV hLc hN
        gi_wp2_with fail
        refine ⟨trivial, ?_⟩
        refine (CallsIn.inRound l (callsIn_wide.2 hTP)).mono ?_
        rintro e w7 ⟨a7, c7, rfl, o7, hB7⟩
        have hWB : Below W.heap.size W w7 := hBr.trans (hB7.mono hBr.size)
        have hsz7 := hB7.size
        have hszr := hBr.size
        have km7 := (hB7.cell (p := ⟨w.heap.size + 1 + 1 + 1, 0, none⟩) (show w.heap.size + 1 + 1 + 1 < _ by omega)).trans km
        have kmf7 := (hB7.frozen (p := ⟨w.heap.size + 1 + 1 + 1, 0, none⟩) (show w.heap.size + 1 + 1 + 1 < _ by omega)).trans kmf
        have bxm : Boxed w7 (w.heap.size + 1 + 1 + 1) 41 _ := (hWB.block _ ltm).trans hm1
        gi_wp2
        have hks : KeepsOthers W w7 := hKr.trans ⟨hB7.size, fun k o h ho => (hB7.block k (Array.getElem?_eq_some_iff.1 h).1).trans h⟩
        have hoc : ∀ q k, q ≠ w.heap.size + 1 + 1 + 1 → q < W.heap.size → (w7.setCell ⟨w.heap.size + 1 + 1 + 1, 0, none⟩ (.slice a7 Q.length c7)).cell? ⟨q, k, none⟩ = W.cell? ⟨q, k, none⟩ := by
          intro q k h1 h2
          rw [← hWB.cell (p := ⟨q, k, none⟩) h2]
          unfold World.cell?
          rw [Below.heap_setCell _ _ _ _ h1]
        refine ⟨hks.trans (KeepsOthers.setCell _ _ _), ⟨hoc _ _ (by omega) (by omega), hoc _ _ (by omega) (by omega)⟩, ?_⟩
        exact ⟨Boxed.other ((hWB.block _ ltB).trans hI.bB) (by omega) _, Boxed.other ((hWB.block _ lt0).trans hI.b0) (by omega) _, Boxed.other ((hWB.block _ lt1).trans hI.b1) (by omega) _,
          ⟨a7, c7, by rw [hQ]; exact bxm.set _, by rw [hQ]; exact (o7.setBelow (a := ⟨w.heap.size + 1 + 1 + 1, 0, none⟩) (show w.heap.size + 1 + 1 + 1 < _ by omega) _).mono (by omega)⟩, HG.out,
          fun k h => (hoc _ _ (by omega) (by omega)).trans (hI.bytes k h), by show _ ≤ (w7.setCell _ _).heap.size; simp; omega,
          hI.bel.trans ((hWB.mono (show w.heap.size ≤ W.heap.size by omega)).setCell (p := ⟨w.heap.size + 1 + 1 + 1, 0, none⟩) (show w.heap.size ≤ w.heap.size + 1 + 1 + 1 by omega) _)⟩
  case done =>
    rintro D ys W hD ⟨k, h1, h2, rfl⟩ hI hK
    obtain ⟨am, cm, hm1, hm2⟩ := hI.m
    have hgd := hI.good
    have hCe : chC wd s.data.toList (upto id k) = s.data.toList := by rw [chC_upto, List.take_of_length_le]; simpa using h1
    rw [hCe] at hm1 hm2 hgd
    obtain ⟨N, hN⟩ : ∃ N, dval b s.data.toList = N := ⟨_, rfl⟩
    obtain rfl : R = some N := by
      rw [← hR, ← hN]
      unfold rlA
      rw [if_neg hne2, if_pos hgd]
    rw [hN] at hm1 hm2
    have k0 := hI.b0.cell
    have k0f := hI.b0.frozen
    have k1 := hI.b1.cell
    have k1f := hI.b1.frozen
    have km := hm1.cell
    have hsz := hI.sz
    have bv0 := (hI.b0.set (.slice am (lim N).length cm)).other (B' := w.heap.size + 1 + 1) (by omega) (.bool true)
    have bv1 := (hI.b1.other (B' := w.heap.size + 1) (by omega) (.slice am (lim N).length cm)).set (.bool true)
    have hK' := ((KeepsOthers.setCell W ⟨w.heap.size + 1, 0, none⟩ (.slice am (lim N).length cm)).trans (KeepsOthers.setCell _ ⟨w.heap.size + 1 + 1, 0, none⟩ (.bool true))).same D _ hK rfl
    have oV := (hm2.setBelow (a := ⟨w.heap.size + 1, 0, none⟩) (show w.heap.size + 1 < _ by omega) (.slice am (lim N).length cm)).setBelow (a := ⟨w.heap.size + 1 + 1, 0, none⟩) (show w.heap.size + 1 + 1 < _ by omega) (.bool true)
    have hBv := (hI.bel.setCell (p := ⟨w.heap.size + 1, 0, none⟩) (Nat.le_succ _) (.slice am (lim N).length cm)).setCell (p := ⟨w.heap.size + 1 + 1, 0, none⟩) (Nat.le_add_right _ 2) (.bool true)
    gi_wp2
    refine ⟨by simp, .inl ⟨_, _, rfl, run_takeDeferred hK', ?_⟩⟩
    have c0 := (bv0.kept (grownBy_putObj' _ D (.deferred none)) (fun e => by cases e; omega)).cell
    have c1 := (bv1.kept (grownBy_putObj' _ D (.deferred none)) (fun e => by cases e; omega)).cell
    refine ⟨.tuple #[.slice am (lim N).length cm, .bool true], ?_, am, cm, rfl, ?_, hBv.trans (belowK_b (w := w) (Nat.le_refl _) _ D _ _ (by omega) hK' rfl rfl)⟩
    · simp [results, Tryd.results19, go_sem, c0, c1]
    · have o2 : Go.Proofs.YtgbkniliojpejaaDoor.Own _ _ _ _ := ⟨ownsRow_putObj oV.1 (.deferred none) hK' rfl, oV.2⟩
      exact o2.mono (by omega)
  case stop =>
    rintro D c pre W hD ⟨k, hk, hj, rfl⟩ ⟨rfl, hbad, b0, b1, hsz, hB⟩ hK
    obtain rfl : R = none := by
      rw [← hR]
      unfold rlA
      rw [if_neg hne2, if_neg]
      intro hg
      have := goodD_take (k * wd) hg
      rw [chC_upto] at hbad
      rw [hbad] at this
      cases this
    have k0 := b0.cell
    have k1 := b1.cell
    gi_wp2
    refine ⟨by simp, .inl ⟨_, _, rfl, run_takeDeferred hK, ?_⟩⟩
    have c0 := (b0.kept (grownBy_putObj' _ D (.deferred none)) (fun e => by cases e; omega)).cell
    have c1 := (b1.kept (grownBy_putObj' _ D (.deferred none)) (fun e => by cases e; omega)).cell
    refine ⟨.tuple #[.slice none 0 0, .bool false], ?_, none, 0, rfl, Own.nil _ _, hB.trans (belowK_b (w := w) (Nat.le_refl _) _ D _ _ (by omega) hK rfl rfl)⟩
    simp [results, Tryd.results19, go_sem, c0, c1]
end Go.Proofs.YtgbkniliojpejaaDoor
