import Derived.Test.YtjnalkeopehlbaaGcX
namespace Go.Proofs.Ytjnalkeopehlbaa
open Go.RowKit Go.Maps
set_option linter.unusedVariables false
set_option linter.unusedSimpArgs false

/-- Numbers that are chosen, up to one. -/
def lsU (f : Nat → Bool) (i : Nat) : List Nat := ((List.range i).map (· + 1)).filter f
theorem lsU_succ (f : Nat → Bool) (i : Nat) : lsU f (i + 1) = if f (i + 1) = true then lsU f i ++ [i + 1] else lsU f i := by
  unfold lsU
  rw [List.range_succ, List.map_append, List.filter_append]
  by_cases h : f (i + 1) = true
  · rw [if_pos h]; simp [h]
  · rw [if_neg h]; simp [h]
theorem lsU_len (f : Nat → Bool) (i : Nat) : (lsU f i).length ≤ i := by
  unfold lsU
  have := List.length_filter_le f ((List.range i).map (· + 1))
  simpa using this
def nI (l : List Nat) : List Int := l.map fun x : Nat => (x : Int)
theorem nI_len (l : List Nat) : (nI l).length = l.length := by unfold nI; simp
theorem nI_app (l : List Nat) (x : Nat) : nI (l ++ [x]) = nI l ++ [(x : Int)] := by unfold nI; simp
theorem nI_getD (l : List Nat) (k : Nat) (h : k < l.length) : (nI l).getD k 0 = (l[k] : Int) := by unfold nI; simp [List.getD, h]
theorem lost_sn {S : Gs} {sn : List Bool} (h : ∀ k, sn.getD k false = true ↔ Rc S (k + 1)) : lsU (fun x => S.al x && !sn.getD (x - 1) false) S.n = lostL S := by
  unfold lsU lostL
  apply List.filter_congr
  intro x hx
  obtain ⟨j, _, rfl⟩ := List.mem_map.1 hx
  have := h j
  rw [show j + 1 - 1 = j by omega]
  by_cases h1 : Rc S (j + 1)
  · rw [this.2 h1]; simp [h1]
  · have : sn.getD j false = false := by
      cases e : sn.getD j false with
      | false => rfl
      | true => exact absurd (this.1 e) h1
    rw [this]; simp [h1]
theorem dead_sn {K : Nat} {S : Gs} (hI : Iv K S) (hE : EvB S) {sn : List Bool} (h : ∀ k, sn.getD k false = true ↔ Rc (S1 S) (k + 1)) : (lostL S).filter (fun x => !sn.getD (x - 1) false) = deadL S := by
  rw [dead_filter hI hE]
  apply List.filter_congr
  intro x hx
  have hx1 := (lost_mem.1 hx).1.1
  have := h (x - 1)
  rw [show x - 1 + 1 = x by omega] at this
  by_cases h1 : Rc (S1 S) x
  · rw [this.2 h1]; simp [h1]
  · have : sn.getD (x - 1) false = false := by
      cases e : sn.getD (x - 1) false with
      | false => rfl
      | true => exact absurd (this.1 e) h1
    rw [this]; simp [h1]
theorem take_filter_succ (f : Nat → Bool) (l : List Nat) (j : Nat) (h : j < l.length) : (l.take (j + 1)).filter f = if f l[j] = true then (l.take j).filter f ++ [l[j]] else (l.take j).filter f := by
  rw [List.take_succ_eq_append_getElem h, List.filter_append]
  by_cases h1 : f l[j] = true
  · rw [if_pos h1]; simp [h1]
  · rw [if_neg h1]; simp [h1]
theorem weak_none {S : Gs} {x : Nat} (h : S.wk x = 0) : weakS S x = S := by
  unfold weakS wkE
  rw [if_neg (by omega), List.append_nil]
theorem weak_one {S : Gs} {x : Nat} (h : wkE S x = [(2, x)]) : weakS S x = { S with ev := S.ev ++ [(2, x)] } := by unfold weakS; rw [h]
theorem foldl_take_succ {α : Type} (f : α → Nat → α) (l : List Nat) (j : Nat) (h : j < l.length) (a : α) : (l.take (j + 1)).foldl f a = f ((l.take j).foldl f a) l[j] := by
  rw [List.take_succ_eq_append_getElem h, List.foldl_append]; rfl
theorem weaks_ev (S : Gs) (l : List Nat) : (l.foldl weakS S).ev.length ≤ S.ev.length + l.length := by
  rw [weaks_eq]
  simp only [List.length_append]
  have := wkE_len S l
  omega
theorem frees_ev (S : Gs) (l : List Nat) : (l.foldl freeO S).ev.length ≤ S.ev.length + l.length := by
  rw [frees_eq]
  simp
/-- A row of numbers outside of the state stays. -/
theorem Own.tr {sb : Nat} {ov ew ew' : Value} {w w' : World} {B B' : Nat} {S : Gs} {hs ts : Nat → Sl} {v : Value} {xs : List Int} (h : Own w B' v xs) (hS : SS w B sb ov ew S hs ts) (ht : Tr sb ov w ew w' ew') : Own w' B' v xs :=
  h.same (fun g e => ht.kp.block g (h.lt g e).2 (hS.pf_int h e))
theorem OwnG.trB {sb : Nat} {ov ew ew' : Value} {w w' : World} {B B' : Nat} {S : Gs} {hs ts : Nat → Sl} {v : Value} {xs : List Bool} (h : OwnG shB 4 w B' v xs) (hS : SS w B sb ov ew S hs ts) (ht : Tr sb ov w ew w' ew') : OwnG shB 4 w' B' v xs :=
  h.same (fun g e => ht.kp.block g (h.lt g e).2 (fun hp => by
    obtain ⟨cur, h1⟩ := h.objT e
    rcases hp with e2 | e2 | e2
    · obtain ⟨c, hc⟩ := hS.box
      rw [e2, hc] at h1
      simp only [Option.some.injEq, Obj.cells.injEq] at h1
      exact absurd h1.2.1 (by decide)
    · obtain ⟨cur', h2⟩ := hS.out.objT e2
      rw [h1] at h2
      simp only [Option.some.injEq, Obj.cells.injEq] at h2
      exact absurd h2.2.1 (by decide)
    · obtain ⟨cur', h2⟩ := hS.ev.objT e2
      rw [h1] at h2
      simp only [Option.some.injEq, Obj.cells.injEq] at h2
      exact absurd h2.2.1 (by decide)))
set_option maxRecDepth 100000 in
set_option maxHeartbeats 2000000 in
theorem collectS_any (B sb K : Nat) (ov ew : Value) (S : Gs) (hs ts : Nat → Sl) (w : World) (h : SS w B sb ov ew S hs ts) (hI : Iv K S) (hE : EvB S) (hK : K ≤ 2500) (hBw : B ≤ w.heap.size) :
    Calls Try.prog 40 #[.pointer (some ⟨sb, 0, none⟩)] w fun e w' => e = .returned (.int .i64 ((deadL S).length : Nat)) ∧ ∃ ew', SS w' B sb ov ew' (coll S) hs ts ∧ Tr sb ov w ew w' ew' := by
  have hnk := hI.n
  have hR1 := reachG_any B sb K ov ew S hs ts w h hI hK
  obtain ⟨hI1, hE1, hF1⟩ := S1_all hI hE
  obtain ⟨CS, hCS⟩ : ∃ CS, coll S = CS := ⟨_, rfl⟩
  have HCS : Hid (coll S = CS) := hCS
  rw [hCS]
  obtain ⟨DN, hDN⟩ : ∃ DN, (deadL S).length = DN := ⟨_, rfl⟩
  have HDN : Hid ((deadL S).length = DN) := hDN
  rw [hDN]
  have hll := lost_len S
  obtain ⟨LO, hLO⟩ : ∃ LO, lostL S = LO := ⟨_, rfl⟩
  have HLO : Hid (lostL S = LO) := hLO
  rw [hLO] at hll
  have HLM : Hid (∀ x ∈ LO, (1 ≤ x ∧ x ≤ S.n)) := fun x hx => by rw [← hLO] at hx; exact (lost_mem.1 hx).1
  obtain ⟨oa, oc, hov⟩ : ∃ a c, ov = .slice a S.n c := by
    obtain ⟨a, c, e⟩ := h.out.form
    rw [txs_len] at e
    exact ⟨a, c, e⟩
  have HOV : Hid (ov = .slice oa S.n oc) := hov
  obtain ⟨N, hN⟩ : ∃ N, S.n = N := ⟨_, rfl⟩
  have HN : Hid (S.n = N) := hN
  rw [hN] at hnk hll hR1
  clear hCS hDN hLO hov hN
  go_enter Try.func40, Try.ntmps40
  go_wp2_with fail
  refine hR1.mono ?_
  rintro e W1 ⟨mb, sn, hmb, rfl, oM, hsl, hsn, b1⟩
  clear hR1
  have hS1 := h.keep b1
  have hT1 := h.trk b1
  have hLs := lost_sn hsn
  rw [HN.out, HLO.out] at hLs
  have oL0 := Own.empty W1
  have hmW : mb < W1.heap.size := (oM.lt mb rfl).2
  have hszA : (W1.alloc (.cells #[] 2)).heap.size = W1.heap.size + 1 := by simp
  have al : Below W1.heap.size W1 (W1.alloc (.cells #[] 2)) := (Below.refl _ _).alloc (Nat.le_refl _) _
  obtain ⟨lb, hlb⟩ : ∃ lb, W1.heap.size = lb := ⟨_, rfl⟩
  rw [hlb] at oL0 hszA al
  obtain ⟨F, hF⟩ : ∃ F : Nat → Bool, (fun x => S.al x && !sn.getD (x - 1) false) = F := ⟨_, rfl⟩
  have hFk : ∀ k, F (k + 1) = (S.al (k + 1) && !sn.getD k false) := fun k => by rw [← hF]; rfl
  rw [hF] at hLs
  have HLS : Hid (lsU F N = LO) := hLs
  have HFK : Hid (∀ k, F (k + 1) = (S.al (k + 1) && !sn.getD k false)) := hFk
  have HS1 : Hid (SS W1 B sb ov ew S hs ts) := hS1
  have HT1 : Hid (Tr sb ov w ew W1 ew) := hT1
  have HM1 : Hid (OwnG shB 4 W1 mb (.slice (some ⟨mb, 0, none⟩) N N) sn) := oM
  have hsl2 : sn.length = N := hsl
  clear hLs hF hFk hS1 hT1 oM hsl
  go_upto_region 3 with fail
  generalize W1.alloc _ = W2 at *
  have hlbm : mb < lb := by omega
  have hBlb : B ≤ lb := by have := b1.size; omega
  have HL0 : Hid (Own W2 lb (.slice (some ⟨lb, 0, none⟩) 0 0) []) := oL0
  clear oL0 h b1
  go_wp2_with fail
  go_loopw [4, 5] (fun q i wq => ∃ (k xb xc : Nat), k ≤ N ∧ i = .int .i64 k ∧ q = .slice (some ⟨xb, 0, none⟩) (lsU F k).length xc ∧ Own wq lb (.slice (some ⟨xb, 0, none⟩) (lsU F k).length xc) (nI (lsU F k)) ∧ Below lb W1 wq) (fun _ i _ => N - (intOf i).toNat)
  case atStart => exact ⟨0, lb, 0, Nat.zero_le _, rfl, rfl, HL0.out, al⟩
  case round =>
    obtain ⟨k, xb, xc, hk, rfl, rfl, oL, hB⟩ := hrel
    generalize wr = R1 at *
    clear HL0 al hszA
    have hSS := HS1.out.keep (by rw [hlb]; exact hB)
    have hlen := lsU_len F k
    obtain ⟨c, b0, b1, b2, bf⟩ := hSS.boxc
    rw [HOV.out, HN.out] at b0
    by_cases hlt : k < N
    · have hki : (k : Int) < (N : Int) := by omega
      obtain ⟨ob, cap, hov2, -, -⟩ := hSS.shape (by rw [HN.out]; omega)
      have d0 := (hSS.cells hov2 k (by rw [HN.out]; omega)).1
      have hoe : Value.slice oa N oc = Value.slice (some ⟨ob, 0, none⟩) N cap := by have := HOV.out.symm.trans hov2; rw [HN.out] at this; exact this
      rw [hoe] at b0
      have hkl : k < sn.length := by omega
      have m0 : R1.cell? ⟨mb, k, none⟩ = some (.bool (sn.getD k false)) := by
        have h5 := (HM1.out.keep (by rw [hlb]; exact hB)).cell k hkl 0 (by decide)
        rw [show k * shB.n + 0 = k by show k * 1 + 0 = k; omega] at h5
        have h6 : sn.getD k false = sn[k] := by simp [List.getD, hkl]
        rw [h6]
        exact h5
      have HUS : Hid (lsU F (k + 1) = if F (k + 1) = true then lsU F k ++ [k + 1] else lsU F k) := lsU_succ F k
      have hFv := HFK.out k
      obtain ⟨LK, hLK⟩ : ∃ LK, lsU F k = LK := ⟨_, rfl⟩
      rw [hLK] at oL hlen HUS
      simp only [hLK]
      have HL : Hid (Own R1 lb (.slice (some ⟨xb, 0, none⟩) LK.length xc) (nI LK)) := oL
      clear hSS hoe hov2 hLK oL
      obtain ⟨sk, hsk⟩ : ∃ sk, sn.getD k false = sk := ⟨_, rfl⟩
      rw [hsk] at m0 hFv
      clear hsk
      cases hal : S.al (k + 1) with
      | false =>
        rw [hal] at d0 hFv
        have HU2 : Hid (lsU F (k + 1) = LK) := by show _ = _; rw [HUS.out, hFv]; rfl
        clear hFv HUS
        go_wp2
        go_roundw
        case rel => exact ⟨k + 1, xb, xc, by omega, by go_num, by rw [HU2.out], by rw [HU2.out]; exact HL.out, hB⟩
        case measure => simp [intOf]; omega
      | true =>
        rw [hal] at d0 hFv
        cases sk with
        | true =>
          have HU2 : Hid (lsU F (k + 1) = LK) := by show _ = _; rw [HUS.out, hFv]; rfl
          clear hFv HUS
          go_wp2
          go_roundw
          case rel => exact ⟨k + 1, xb, xc, by omega, by go_num, by rw [HU2.out], by rw [HU2.out]; exact HL.out, hB⟩
          case measure => simp [intOf]; omega
        | false =>
          have HU2 : Hid (lsU F (k + 1) = LK ++ [k + 1]) := by show _ = _; rw [HUS.out, hFv]; rfl
          clear hFv HUS
          have alA : Below R1.heap.size R1 (R1.alloc (.cells #[.int .i64 ((k : Int) + 1)] 2)) := (Below.refl _ _).alloc (Nat.le_refl _) _
          have oA := HL.out.alloc (.cells #[.int .i64 ((k : Int) + 1)] 2)
          have cA : (R1.alloc (.cells #[.int .i64 ((k : Int) + 1)] 2)).cell? ⟨R1.heap.size, 0, none⟩ = some (.int .i64 ((k : Int) + 1)) := by rw [World.cell?_alloc_at _ _ _ _ rfl]; rfl
          have hlt1 := (HL.out.lt xb rfl)
          have hnl := nI_len LK
          have HEQ : Hid (nI LK ++ [(k : Int) + 1] = nI (LK ++ [k + 1])) := by show _ = _; rw [nI_app]; rfl
          have hlbR : lb ≤ (R1.alloc (.cells #[.int .i64 ((k : Int) + 1)] 2)).heap.size := by have := alA.size; omega
          go_wp2_with (at_builtin; refine wpList_append_intL rfl (.tmp 38) (.tmp 41) 23 rfl Try.underlying23 lb _ (nI LK) ((k : Int) + 1) (by omega) R1.heap.size 1 rfl rfl oA cA (by omega) hlbR ?_; intro xb' xc' w' oT hg hl hz)
          go_roundw
          case rel =>
            refine ⟨k + 1, xb', xc', by omega, by go_num, ?_, ?_, ?_⟩
            · rw [HU2.out]; simp [hnl]
            · rw [HU2.out, ← HEQ.out]
              have : (LK ++ [k + 1]).length = (nI LK).length + 1 := by simp [hnl]
              rw [this]; exact oT
            · exact (hB.trans (alA.mono (by omega))).trans (gb_to hg (fun q hq => by have := Option.some.inj hq; have : xb = q := this; omega) hlbR)
          case measure => simp [intOf]; omega
    · obtain rfl : k = N := by omega
      rw [HLS.out] at oL hlen
      simp only [HLS.out]
      have hTr := HT1.out.trans (HS1.out.trk (by rw [hlb]; exact hB))
      have hszR : lb ≤ R1.heap.size := by have := hB.size; omega
      obtain ⟨LN, hLN⟩ : ∃ LN, LO.length = LN := ⟨_, rfl⟩
      have HLN : Hid (LO.length = LN) := hLN
      rw [hLN] at oL hlen
      simp only [hLN]
      have HL : Hid (Own R1 lb (.slice (some ⟨xb, 0, none⟩) LN xc) (nI LO)) := oL
      have HS : Hid (SS R1 B sb ov ew S hs ts) := hSS
      have HTr : Hid (Tr sb ov w ew R1 ew) := hTr
      clear hLN oL hSS hTr HM1 HS1 HT1 b1 b2 bf hB HLS HFK hsn
      have hki : ¬ (k : Int) < (k : Int) := by omega
      go_wp2_with fail
      go_loopw [6] (fun i wq => ∃ (j : Nat) (ewj : Value), j ≤ LN ∧ i = .int .i64 j ∧ SS wq B sb ov ewj ((LO.take j).foldl finS S) hs ts ∧ Tr sb ov w ew wq ewj ∧ Own wq lb (.slice (some ⟨xb, 0, none⟩) LN xc) (nI LO) ∧ lb ≤ wq.heap.size) (fun i _ => LN - (intOf i).toNat)
      case atStart => exact ⟨0, ew, Nat.zero_le _, rfl, HS.out, HTr.out, HL.out, hszR⟩
      case round =>
        obtain ⟨j, ewj, hj, rfl, hSj, hTj, oL, hzq⟩ := hrel
        generalize wr = R2 at *
        clear HL HS HTr
        by_cases hjl : j < LN
        · have hjL : j < LO.length := by rw [HLN.out]; exact hjl
          have hji : (j : Int) < (LN : Int) := by omega
          have hxb := HLM.out LO[j] (List.getElem_mem hjL)
          obtain ⟨Y, hY⟩ : ∃ Y : Nat, LO[j] = Y + 1 := ⟨LO[j] - 1, by omega⟩
          have q1 : R2.cell? ⟨xb, j, none⟩ = some (.int .i64 ((Y : Int) + 1)) := by
            have h5 := oL.cell j (by rw [nI_len]; exact hjL)
            rw [nI_getD _ _ hjL, hY] at h5
            rw [h5]; rfl
          obtain ⟨hIj, hEj, hFj⟩ := fins_all (k := K) (LO.take j) S hI hE (fun x hx => HLM.out x (List.mem_of_mem_take hx))
          have hnj : ((LO.take j).foldl finS S).n = k := hFj.n.trans HN.out
          have hevj : ((LO.take j).foldl finS S).ev.length ≤ 10000 := by have := evb_le ((LO.take j).foldl finS S); unfold EvB at hEj; omega
          have hFi := finalizeS_any B sb K Y ov ewj ((LO.take j).foldl finS S) hs ts R2 hSj hIj (by omega) (by omega) (by rw [hnj]; have := HN.out; omega)
          have HSt : Hid ((LO.take (j + 1)).foldl finS S = finS ((LO.take j).foldl finS S) (Y + 1)) := by show _ = _; rw [foldl_take_succ finS LO j hjL S, hY]
          have HSj : Hid (SS R2 B sb ov ewj ((LO.take j).foldl finS S) hs ts) := hSj
          clear hSj hY hIj hEj hFj hevj hnj
          go_wp2_with fail
          refine hFi.mono ?_
          rintro e R3 ⟨rfl, ew3, hS3, hT3⟩
          have oL3 := Own.tr oL HSj.out hT3
          have hT13 := hTj.trans hT3
          have hz3 := hT3.kp.size
          have HS3 : Hid (SS R3 B sb ov ew3 ((LO.take (j + 1)).foldl finS S) hs ts) := by show SS _ _ _ _ _ _ _ _; rw [HSt.out]; exact hS3
          clear hFi hS3 HSt
          go_wp2
          go_roundw
          case rel => exact ⟨j + 1, ew3, by omega, by go_num, HS3.out, hT13, oL3, by omega⟩
          case measure => simp [intOf]; omega
        · obtain rfl : j = LN := by omega
          have hst : (LO.take j).foldl finS S = S1 S := by unfold S1; rw [HLO.out, List.take_of_length_le (by rw [HLN.out]; omega)]
          rw [hst] at hSj
          have hn1 : (S1 S).n = k := hF1.n.trans HN.out
          have hRe := reachG_any B sb K ov ewj (S1 S) hs ts R2 hSj hI1 hK
          rw [hn1] at hRe
          clear hst
          have hji : ¬ (j : Int) < (j : Int) := by omega
          go_wp2_with fail
          refine hRe.mono ?_
          rintro e R3 ⟨mb2, sn2, hmb2, rfl, oM, hsl, hsn, b3⟩
          clear hRe
          have hS3 := hSj.keep b3
          have hT3 := hTj.trans (hSj.trk b3)
          have oL3 := oL.keep b3
          have hDs := dead_sn hI hE hsn
          rw [HLO.out] at hDs
          obtain ⟨G, hG⟩ : ∃ G : Nat → Bool, (fun x => !sn2.getD (x - 1) false) = G := ⟨_, rfl⟩
          have HGK : Hid (∀ k, G (k + 1) = !sn2.getD k false) := fun k => by rw [← hG]; rfl
          rw [hG] at hDs
          obtain ⟨DL, hDL⟩ : ∃ DL, deadL S = DL := ⟨_, rfl⟩
          rw [hDL] at hDs
          have HDS : Hid (LO.filter G = DL) := hDs
          have HDL : Hid (deadL S = DL) := hDL
          have HDM : Hid (∀ x ∈ DL, 1 ≤ x ∧ x ≤ S.n) := fun x hx => by rw [← hDs] at hx; exact HLM.out x (List.mem_filter.1 hx).1
          have hdl : DL.length ≤ j := by rw [← hDs, ← HLN.out]; exact List.length_filter_le _ _
          clear hDs hG hDL hSj hTj oL
          have oD0 := Own.empty R3
          have alD : Below R3.heap.size R3 (R3.alloc (.cells #[] 2)) := (Below.refl _ _).alloc (Nat.le_refl _) _
          have hz3 : lb ≤ R3.heap.size := by have := b3.size; omega
          obtain ⟨lb2, hlb2⟩ : ∃ lb2, R3.heap.size = lb2 := ⟨_, rfl⟩
          rw [hlb2] at oD0 alD hz3
          have HS3 : Hid (SS R3 B sb ov ewj (S1 S) hs ts) := hS3
          have HT3 : Hid (Tr sb ov w ew R3 ewj) := hT3
          have HM3 : Hid (OwnG shB 4 R3 mb2 (.slice (some ⟨mb2, 0, none⟩) k k) sn2) := oM
          have HL3 : Hid (Own R3 lb (.slice (some ⟨xb, 0, none⟩) j xc) (nI LO)) := oL3
          clear hS3 hT3 oM oL3 b3 hsn
          go_upto_region 14 with fail
          generalize R3.alloc _ = R4 at *
          have HD0 : Hid (Own R4 lb2 (.slice (some ⟨lb2, 0, none⟩) 0 0) []) := oD0
          clear oD0
          go_wp2_with fail
          go_loopw [7, 8] (fun q i wq => ∃ (p yb yc : Nat), p ≤ j ∧ i = .int .i64 p ∧ q = .slice (some ⟨yb, 0, none⟩) ((LO.take p).filter G).length yc ∧ Own wq lb2 (.slice (some ⟨yb, 0, none⟩) ((LO.take p).filter G).length yc) (nI ((LO.take p).filter G)) ∧ Below lb2 R3 wq) (fun _ i _ => j - (intOf i).toNat)
          case atStart => exact ⟨0, lb2, 0, Nat.zero_le _, rfl, rfl, HD0.out, alD⟩
          case round =>
            obtain ⟨p, yb, yc, hp, rfl, rfl, oD, hB⟩ := hrel
            generalize wr = R5 at *
            clear HD0 alD
            by_cases hpl : p < j
            · have hpL : p < LO.length := by rw [HLN.out]; exact hpl
              have hpi : (p : Int) < (j : Int) := by omega
              have hxb := HLM.out LO[p] (List.getElem_mem hpL)
              obtain ⟨Y, hY⟩ : ∃ Y : Nat, LO[p] = Y + 1 := ⟨LO[p] - 1, by omega⟩
              have oL5 := HL3.out.keep (by rw [hlb2]; exact hB)
              have q1 : R5.cell? ⟨xb, p, none⟩ = some (.int .i64 ((Y : Int) + 1)) := by
                have h5 := oL5.cell p (by rw [nI_len]; exact hpL)
                rw [nI_getD _ _ hpL, hY] at h5
                rw [h5]; rfl
              have hYk : Y < k := by have := HN.out; omega
              have hYi : (Y : Int) < (k : Int) := by omega
              have hYl : Y < sn2.length := by omega
              have m0 : R5.cell? ⟨mb2, Y, none⟩ = some (.bool (sn2.getD Y false)) := by
                have h5 := (HM3.out.keep (by rw [hlb2]; exact hB)).cell Y hYl 0 (by decide)
                rw [show Y * shB.n + 0 = Y by show Y * 1 + 0 = Y; omega] at h5
                have h6 : sn2.getD Y false = sn2[Y] := by simp [List.getD, hYl]
                rw [h6]
                exact h5
              have HUS : Hid ((LO.take (p + 1)).filter G = if G (Y + 1) = true then (LO.take p).filter G ++ [Y + 1] else (LO.take p).filter G) := by show _ = _; rw [take_filter_succ G LO p hpL, hY]
              have hGv := HGK.out Y
              have hfl : ((LO.take p).filter G).length ≤ p := by have := List.length_filter_le G (LO.take p); rw [List.length_take] at this; omega
              obtain ⟨LK, hLK⟩ : ∃ LK, (LO.take p).filter G = LK := ⟨_, rfl⟩
              rw [hLK] at oD HUS hfl
              simp only [hLK]
              have HD : Hid (Own R5 lb2 (.slice (some ⟨yb, 0, none⟩) LK.length yc) (nI LK)) := oD
              clear hLK oD oL5 hY
              obtain ⟨sk, hsk⟩ : ∃ sk, sn2.getD Y false = sk := ⟨_, rfl⟩
              rw [hsk] at m0 hGv
              clear hsk
              cases sk with
              | true =>
                have HU2 : Hid ((LO.take (p + 1)).filter G = LK) := by show _ = _; rw [HUS.out, hGv]; rfl
                clear hGv HUS
                go_wp2
                go_roundw
                case rel => exact ⟨p + 1, yb, yc, by omega, by go_num, by rw [HU2.out], by rw [HU2.out]; exact HD.out, hB⟩
                case measure => simp [intOf]; omega
              | false =>
                have HU2 : Hid ((LO.take (p + 1)).filter G = LK ++ [Y + 1]) := by show _ = _; rw [HUS.out, hGv]; rfl
                clear hGv HUS
                have alA : Below R5.heap.size R5 (R5.alloc (.cells #[.int .i64 ((Y : Int) + 1)] 2)) := (Below.refl _ _).alloc (Nat.le_refl _) _
                have oA := HD.out.alloc (.cells #[.int .i64 ((Y : Int) + 1)] 2)
                have cA : (R5.alloc (.cells #[.int .i64 ((Y : Int) + 1)] 2)).cell? ⟨R5.heap.size, 0, none⟩ = some (.int .i64 ((Y : Int) + 1)) := by rw [World.cell?_alloc_at _ _ _ _ rfl]; rfl
                have hlt1 := (HD.out.lt yb rfl)
                have hnl := nI_len LK
                have HEQ : Hid (nI LK ++ [(Y : Int) + 1] = nI (LK ++ [Y + 1])) := by show _ = _; rw [nI_app]; rfl
                have hlbR : lb2 ≤ (R5.alloc (.cells #[.int .i64 ((Y : Int) + 1)] 2)).heap.size := by have := alA.size; omega
                go_wp2_with (at_builtin; refine wpList_append_intL rfl (.tmp 73) (.tmp 78) 23 rfl Try.underlying23 lb2 _ (nI LK) ((Y : Int) + 1) (by omega) R5.heap.size 1 rfl rfl oA cA (by omega) hlbR ?_; intro xb' xc' w' oT hg hl hz)
                go_roundw
                case rel =>
                  refine ⟨p + 1, xb', xc', by omega, by go_num, ?_, ?_, ?_⟩
                  · rw [HU2.out]; simp [hnl]
                  · rw [HU2.out, ← HEQ.out]
                    have : (LK ++ [Y + 1]).length = (nI LK).length + 1 := by simp [hnl]
                    rw [this]; exact oT
                  · exact (hB.trans (alA.mono (by omega))).trans (gb_to hg (fun q hq => by have := Option.some.inj hq; have : yb = q := this; omega) hlbR)
                case measure => simp [intOf]; omega
            · obtain rfl : p = j := by omega
              have hfd : (LO.take p).filter G = DL := by rw [List.take_of_length_le (by rw [HLN.out]; omega)]; exact HDS.out
              rw [hfd] at oD
              simp only [hfd]
              obtain ⟨DD, hDD⟩ : ∃ DD, DL.length = DD := ⟨_, rfl⟩
              have HDD : Hid (DL.length = DD) := hDD
              rw [hDD] at oD hdl
              simp only [hDD]
              have hS5 := HS3.out.keep (by rw [hlb2]; exact hB)
              have hT5 := HT3.out.trans (HS3.out.trk (by rw [hlb2]; exact hB))
              have HD : Hid (Own R5 lb2 (.slice (some ⟨yb, 0, none⟩) DD yc) (nI DL)) := oD
              have HS5 : Hid (SS R5 B sb ov ewj (S1 S) hs ts) := hS5
              have HT5 : Hid (Tr sb ov w ew R5 ewj) := hT5
              clear hfd oD hS5 hT5 HS3 HT3 HM3 HL3 hB hDD HDS HGK
              have hpi : ¬ (p : Int) < (p : Int) := by omega
              have hn1 : (S1 S).n = k := hF1.n.trans HN.out
              have hev1 : (S1 S).ev.length ≤ 10000 := by have := evb_le (S1 S); unfold EvB at hE1; omega
              have hwk1 : ∀ x, (S1 S).wk x ≤ 2500 := fun x => by have := hI1.wk x; omega
              obtain ⟨SA, hSA⟩ : ∃ SA, S1 S = SA := ⟨_, rfl⟩
              have HSA : Hid (S1 S = SA) := hSA
              rw [hSA] at HS5 hn1 hev1 hwk1
              clear hSA hI1 hE1 hF1
              have hwf : ∀ l : List Nat, (l.foldl weakS SA).n = k ∧ (l.foldl weakS SA).wk = SA.wk ∧ (l.foldl weakS SA).al = SA.al := fun l => by rw [weaks_eq]; exact ⟨hn1, rfl, rfl⟩
              go_wp2_with fail
              go_loopw [9] (fun i wq => ∃ (q : Nat) (ewq : Value), q ≤ DD ∧ i = .int .i64 q ∧ SS wq B sb ov ewq ((DL.take q).foldl weakS SA) hs ts ∧ Tr sb ov w ew wq ewq ∧ Own wq lb2 (.slice (some ⟨yb, 0, none⟩) DD yc) (nI DL)) (fun i _ => DD - (intOf i).toNat)
              case atStart => exact ⟨0, ewj, Nat.zero_le _, rfl, HS5.out, HT5.out, HD.out⟩
              case round =>
                obtain ⟨q, ewq, hq, rfl, hSq, hTq, oD⟩ := hrel
                generalize wr = R6 at *
                clear HS5 HT5 HD
                by_cases hql : q < DD
                · have hqL : q < DL.length := by rw [HDD.out]; exact hql
                  have hqi : (q : Int) < (DD : Int) := by omega
                  have hxb := HDM.out DL[q] (List.getElem_mem hqL)
                  obtain ⟨Y, hY⟩ : ∃ Y : Nat, DL[q] = Y + 1 := ⟨DL[q] - 1, by omega⟩
                  have q1 : R6.cell? ⟨yb, q, none⟩ = some (.int .i64 ((Y : Int) + 1)) := by
                    have h5 := oD.cell q (by rw [nI_len]; exact hqL)
                    rw [nI_getD _ _ hqL, hY] at h5
                    rw [h5]; rfl
                  have hYk : Y < k := by have := HN.out; omega
                  have hYi : (Y : Int) < (k : Int) := by omega
                  obtain ⟨e1, e2, e3⟩ := hwf (DL.take q)
                  obtain ⟨c, b0, b1, b2, bf⟩ := hSq.boxc
                  obtain ⟨ob, cap, hov2, -, -⟩ := hSq.shape (by rw [e1]; omega)
                  have d4 := (hSq.cells hov2 Y (by rw [e1]; exact hYk)).2.2.2.2.1
                  rw [e2] at d4
                  rw [hov2, e1] at b0
                  have HSt : Hid ((DL.take (q + 1)).foldl weakS SA = weakS ((DL.take q).foldl weakS SA) (Y + 1)) := by show _ = _; rw [foldl_take_succ weakS DL q hqL SA, hY]
                  have hevq : ((DL.take q).foldl weakS SA).ev.length ≤ 20000 := by
                    have h5 := weaks_ev SA (DL.take q)
                    rw [List.length_take] at h5
                    omega
                  have hwkY := hwk1 (Y + 1)
                  have hSqd := hSq.keep (Below.refl _ _).drew
                  have hTqd := hTq.trans (hSq.trk (Below.refl _ _).drew)
                  have oDd := oD.drew
                  have q1d : R6.drew.cell? ⟨yb, q, none⟩ = some (.int .i64 ((Y : Int) + 1)) := q1
                  have HW2 : Hid (((DL.take q).foldl weakS SA).wk = SA.wk) := e2
                  clear hSq hTq oD hY e1 e2 e3 hov2
                  by_cases hw0 : SA.wk (Y + 1) = 0
                  · rw [hw0] at d4
                    have HE2 : Hid (SS R6.drew B sb ov ewq ((DL.take (q + 1)).foldl weakS SA) hs ts) := by show SS _ _ _ _ _ _ _ _; rw [HSt.out, weak_none (by rw [HW2.out]; exact hw0)]; exact hSqd
                    clear hw0 HSt hSqd
                    go_upto_region 22 with fail
                    go_region
                    go_wp2
                    go_roundw
                    case rel => exact ⟨q + 1, ewq, by omega, by go_num, HE2.out, hTqd, oDd⟩
                    case measure => simp [intOf]; omega
                  · have e4 : (0 : Int) < ((SA.wk (Y + 1) : Nat) : Int) := by omega
                    have hTel := tell_any B sb 2 (Y + 1) ov ewq ((DL.take q).foldl weakS SA) hs ts R6.drew hSqd (by omega) (by omega) (by omega)
                    rw [show ((2 : Nat) : Int) = 2 from rfl, show ((Y + 1 : Nat) : Int) = (Y : Int) + 1 by omega] at hTel
                    have HWE : Hid (wkE ((DL.take q).foldl weakS SA) (Y + 1) = [(2, Y + 1)]) := by show _ = _; unfold wkE; rw [HW2.out, if_pos (by omega)]
                    have HSqd : Hid (SS R6.drew B sb ov ewq ((DL.take q).foldl weakS SA) hs ts) := hSqd
                    clear hSqd hw0
                    go_upto_region 22 with fail
                    go_region
                    go_wp2_with fail
                    refine hTel.mono ?_
                    rintro e R7 ⟨rfl, ew7, hS7, hT7⟩
                    have HE2 : Hid (SS R7 B sb ov ew7 ((DL.take (q + 1)).foldl weakS SA) hs ts) := by
                      show SS _ _ _ _ _ _ _ _
                      rw [HSt.out, weak_one HWE.out]
                      exact hS7
                    have oD7 := Own.tr oDd HSqd.out hT7
                    have hT8 := hTqd.trans hT7
                    clear hTel hS7 hT7 hTqd HSt HWE HSqd
                    go_wp2
                    go_roundw
                    case rel => exact ⟨q + 1, ew7, by omega, by go_num, HE2.out, hT8, oD7⟩
                    case measure => simp [intOf]; omega
                · obtain rfl : q = DD := by omega
                  rw [List.take_of_length_le (by rw [HDD.out]; omega)] at hSq
                  obtain ⟨e1, e2, e3⟩ := hwf DL
                  have hev2 : (DL.foldl weakS SA).ev.length ≤ 20000 := by have h5 := weaks_ev SA DL; have := HDD.out; omega
                  obtain ⟨SB, hSB⟩ : ∃ SB, DL.foldl weakS SA = SB := ⟨_, rfl⟩
                  have HSB : Hid (DL.foldl weakS SA = SB) := hSB
                  rw [hSB] at hSq e1 hev2
                  have HSq : Hid (SS R6 B sb ov ewq SB hs ts) := hSq
                  have hff : ∀ l : List Nat, (l.foldl freeO SB).n = k := fun l => by rw [frees_eq]; exact e1
                  have HD : Hid (Own R6 lb2 (.slice (some ⟨yb, 0, none⟩) q yc) (nI DL)) := oD
                  have HTq : Hid (Tr sb ov w ew R6 ewq) := hTq
                  clear hSB hSq e2 e3 hwf oD hTq
                  have hqi : ¬ (q : Int) < (q : Int) := by omega
                  go_wp2_with fail
                  go_loopw [10] (fun i wq => ∃ (v : Nat) (ewv : Value), v ≤ q ∧ i = .int .i64 v ∧ SS wq B sb ov ewv ((DL.take v).foldl freeO SB) hs ts ∧ Tr sb ov w ew wq ewv ∧ Own wq lb2 (.slice (some ⟨yb, 0, none⟩) q yc) (nI DL)) (fun i _ => q - (intOf i).toNat)
                  case atStart => exact ⟨0, ewq, Nat.zero_le _, rfl, HSq.out, HTq.out, HD.out⟩
                  case round =>
                    obtain ⟨v, ewv, hv, rfl, hSv, hTv, oD⟩ := hrel
                    generalize wr = R8 at *
                    clear HSq HTq HD
                    by_cases hvl : v < q
                    · have hvL : v < DL.length := by rw [HDD.out]; exact hvl
                      have hvi : (v : Int) < (q : Int) := by omega
                      have hxb := HDM.out DL[v] (List.getElem_mem hvL)
                      obtain ⟨Y, hY⟩ : ∃ Y : Nat, DL[v] = Y + 1 := ⟨DL[v] - 1, by omega⟩
                      have q1 : R8.cell? ⟨yb, v, none⟩ = some (.int .i64 ((Y : Int) + 1)) := by
                        have h5 := oD.cell v (by rw [nI_len]; exact hvL)
                        rw [nI_getD _ _ hvL, hY] at h5
                        rw [h5]; rfl
                      have hYk : Y < k := by have := HN.out; omega
                      have hYi : (Y : Int) < (k : Int) := by omega
                      have hnv := hff (DL.take v)
                      have hevv : ((DL.take v).foldl freeO SB).ev.length ≤ 30000 := by
                        have h5 := frees_ev SB (DL.take v)
                        rw [List.length_take] at h5
                        omega
                      have hTel := tell_any B sb 3 (Y + 1) ov ewv ((DL.take v).foldl freeO SB) hs ts R8 hSv (by omega) (by omega) (by omega)
                      rw [show ((3 : Nat) : Int) = 3 from rfl, show ((Y + 1 : Nat) : Int) = (Y : Int) + 1 by omega] at hTel
                      have HSt : Hid ((DL.take (v + 1)).foldl freeO SB = freeO ((DL.take v).foldl freeO SB) (Y + 1)) := by show _ = _; rw [foldl_take_succ freeO DL v hvL SB, hY]
                      have HSv : Hid (SS R8 B sb ov ewv ((DL.take v).foldl freeO SB) hs ts) := hSv
                      clear hSv
                      go_wp2_with fail
                      refine hTel.mono ?_
                      rintro e R9 ⟨rfl, ew9, hS9, hT9⟩
                      have oD9 := Own.tr oD HSv.out hT9
                      have hT10 := hTv.trans hT9
                      have q1' : R9.cell? ⟨yb, v, none⟩ = some (.int .i64 ((Y : Int) + 1)) := by
                        have h5 := oD9.cell v (by rw [nI_len]; exact hvL)
                        rw [nI_getD _ _ hvL, hY] at h5
                        rw [h5]; rfl
                      obtain ⟨c, b0, b1, b2, bf⟩ := hS9.boxc
                      obtain ⟨ob, cap, hov2, -, -⟩ := hS9.shape (show 0 < ((DL.take v).foldl freeO SB).n by omega)
                      have hov3 : ov = .slice (some ⟨ob, 0, none⟩) k cap := by rw [← hnv]; exact hov2
                      have f0 := hS9.frozen hov2 (Y * 7)
                      have d0 := (hS9.cells hov2 Y (by show Y < ((DL.take v).foldl freeO SB).n; omega)).1
                      obtain ⟨hS10, hT11⟩ := hS9.setAl hov2 Y (by show Y < ((DL.take v).foldl freeO SB).n; omega)
                      rw [hov3] at b0
                      have hS11 := hS10.keep (Below.refl _ _).drew
                      have HT12 : Hid (Tr sb ov w ew (R9.setCell ⟨ob, Y * 7, none⟩ (.bool false)).drew ew9) := (hT10.trans hT11).trans (hS10.trk (Below.refl _ _).drew)
                      have HOD : Hid (Own (R9.setCell ⟨ob, Y * 7, none⟩ (.bool false)).drew lb2 (.slice (some ⟨yb, 0, none⟩) q yc) (nI DL)) := (Own.tr oD9 hS9 hT11).drew
                      have HE2 : Hid (SS (R9.setCell ⟨ob, Y * 7, none⟩ (.bool false)).drew B sb ov ew9 ((DL.take (v + 1)).foldl freeO SB) hs ts) := by
                        show SS _ _ _ _ _ _ _ _
                        rw [HSt.out]
                        exact hS11
                      clear hTel hS9 hT9 HSt hS10 hT11 hS11 hT10 oD9 hov2 hov3 oD hTv HSv q1
                      go_upto_region 28 with fail
                      go_region
                      go_wp2
                      go_roundw
                      case rel => exact ⟨v + 1, ew9, by omega, by go_num, HE2.out, HT12.out, HOD.out⟩
                      case measure => simp [intOf]; omega
                    · obtain rfl : v = q := by omega
                      rw [List.take_of_length_le (by rw [HDD.out]; omega)] at hSv
                      have HFin : Hid (SS R8 B sb ov ewv CS hs ts) := by
                        show SS _ _ _ _ _ _ _ _
                        rw [← HCS.out]
                        unfold coll
                        rw [HDL.out, HSA.out, HSB.out]
                        exact hSv
                      have hDNv : DN = v := by rw [← HDN.out, HDL.out, HDD.out]
                      subst hDNv
                      clear hSv
                      have hvi : ¬ (DN : Int) < (DN : Int) := by omega
                      go_wp2
                      go_ret
                      exact ⟨rfl, ewv, HFin.out, hTv⟩
end Go.Proofs.Ytjnalkeopehlbaa
