import Derived.Test.YtahcpgldpbejiaaGreatDoorFbQ
namespace Go.Proofs.YtahcpgldpbejiaaGreatDoor
open Go.RowKit Go.Lib Go.Shelf
set_option linter.unusedVariables false
set_option linter.unusedSimpArgs false

/-- What FormatBig's inside answers. -/
def FbA (sp : ByteArray) (p : Bool) (xs : List Int) (aA aZ aL : Addr) (w : World) (e : Ending) (w' : World) : Prop := ∃ X er code, e = .returned (.tuple #[.string X, er]) ∧ IsErr aA aZ aL er code ∧ fbS sp p xs = .tuple #[.string X, .int .i64 code] ∧ X.size ≤ 16384 ∧ Below w.heap.size w w'
theorem FbA.mk {sp : ByteArray} {p : Bool} {xs : List Int} {aA aZ aL : Addr} {w : World} {e : Ending} {w' : World} (h : ∃ X er code, e = .returned (.tuple #[.string X, er]) ∧ IsErr aA aZ aL er code ∧ fbS sp p xs = .tuple #[.string X, .int .i64 code] ∧ X.size ≤ 16384 ∧ Below w.heap.size w w') : FbA sp p xs aA aZ aL w e w' := h
theorem fbS_bad {sp : ByteArray} {p : Bool} {xs : List Int} {c : List Nat} (hc : textOf sp = some c) (hs : ∀ r ∈ c, Scalar r) (hbad : badR (rdR c) = false) (h : bsBad (prT c) = true ∨ Z.okB p xs = false) : fbS sp p xs = argsV := by
  unfold fbS
  rw [hc]
  simp only
  by_cases ho : okQ c = true
  · rw [if_pos ho]
    obtain ⟨h1, h2⟩ := okQ_eq c
    rw [ho, hbad] at h1
    obtain ⟨k, hk⟩ := Option.isSome_iff_exists.1 (show (kindR (rdR c).rest).isSome = true by simpa using h1.symm)
    rw [h2 ho k hk, bad_eq hs hbad hk, if_pos]
    rcases h with h | h <;> simp [h]
  · rw [if_neg ho]
theorem fbS_good {sp : ByteArray} {p : Bool} {xs : List Int} {c : List Nat} (hc : textOf sp = some c) (hs : ∀ r ∈ c, Scalar r) (hbad : badR (rdR c) = false) (h : bsBad (prT c) = false) (ho : Z.okB p xs = true) :
    ∃ k, kindR (rdR c).rest = some k ∧ okQ c = true ∧ w7 c = svR (rdR c) k ∧ fbS sp p xs = fitV (fbL (svR (rdR c) k) p xs) ∧ bsN (prT c).k.toList = bsS k ∧ 2 ≤ bsS k ∧ bsS k ≤ 36 ∧ ((prT c).c.toList.isEmpty = !(svR (rdR c) k).cm) ∧ ((svR (rdR c) k).cm = true → bsS k = 10) := by
  cases hk : kindR (rdR c).rest with
  | none => rw [bad_none hs hk] at h; cases h
  | some k =>
    have hq : okQ c = true := by rw [(okQ_eq c).1, hbad, hk]; rfl
    have hw := (okQ_eq c).2 hq k hk
    have hb : fbBad (svR (rdR c) k) true = false := by rw [bad_eq hs hbad hk, h]; rfl
    have hbn : bsN (prT c).k.toList = bsS k := by
      have := bsN_rest _ (rest_sc hs)
      rw [show (afDot (r5 c)).2.2 = (rdR c).rest from rfl, hk] at this
      exact this
    have hb' := hb
    unfold fbBad svR at hb'
    simp only [Bool.or_eq_false_iff, Bool.not_true, Bool.and_eq_false_iff] at hb'
    obtain ⟨⟨⟨b1, _⟩, _⟩, b4⟩ := hb'
    obtain ⟨b2, b3⟩ := bsS_b (kd := k) rfl (by simpa using b1)
    refine ⟨k, rfl, hq, hw, ?_, hbn, b2, b3, cm_empty hs, ?_⟩
    · unfold fbS
      rw [hc]
      simp only
      rw [if_pos hq, hw, ho, hb]; rfl
    · intro hcm
      rcases b4 with b4 | b4
      · rw [show (svR (rdR c) k).cm = ((rdR c).cm != 0) from rfl] at hcm
        rw [hcm] at b4; cases b4
      · simpa using b4
theorem digitsI_any (v : Value) (xs : List Int) (b : Nat) (w : World) (hx : Z.Rd w v xs) (hnx : Z.Norm xs) (hlx : xs.length ≤ 128) (hb : 2 ≤ b) (hb2 : b ≤ 36) :
    Calls Tryz.prog 40 #[v, .int .u32 b] w fun e w' => e = .returned (.string ⟨(Z.txt b (Z.val xs)).toArray⟩) ∧ Below w.heap.size w w' := by
  by_cases h0 : xs.length = 0
  · obtain ⟨a, cap, rfl, _⟩ := hx
    obtain rfl := List.eq_nil_of_length_eq_zero h0
    exact Z.digits_zero a cap b w hb hb2
  · exact Z.digits_any v xs b w hx hnx hlx hb hb2 h0
set_option maxHeartbeats 1500000 in
set_option maxRecDepth 100000 in
theorem formattedBig_any (sp : ByteArray) (p : Bool) (u : Value) (xs : List Int) (w : World) (hsp : sp.size ≤ 16777216) (hx : Z.Rd w u xs) (hT : Tabs w) (aA aZ aL : Addr) (hE : Errs w aA aZ aL) (hEf : ErrF w) :
    Calls Tryz.prog 33 #[.string sp, .agg #[.bool p, u]] w fun e w' => FbA sp p xs aA aZ aL w e w' := by
  have hx' := hx
  obtain ⟨a, cap, rfl, _, hzx, hnx, hcx⟩ := hx
  clear hcx hnx
  have bA := Z.Box.new w (.bool p) (.slice a xs.length cap) 30
  have rx := hx'.alloc (Obj.cells #[.bool p, .slice a xs.length cap] 30)
  have hW := (Below.refl w.heap.size w).alloc (Nat.le_refl _) (Obj.cells #[.bool p, .slice a xs.length cap] 30)
  have hRS := fun W h1 h2 => readSpec_any sp W hsp h1 aA aZ aL h2
  have hok := fun W h => Z.bigOk_any p (.slice a xs.length cap) xs W h
  obtain ⟨GA, hGA⟩ : ∃ GA, w.heap.size = GA := ⟨_, rfl⟩
  go_enter Tryz.func33, Tryz.ntmps33
  go_upto_region 1 with fail
  generalize w.alloc _ = W0 at *
  rw [hGA] at bA
  go_wp2_with fail
  refine (hRS W0 (hT.below hW) (hE.below hW)).mono ?_
  rintro e W1 ⟨q, er, rfl, hA, hB1⟩
  clear hRS
  have bA1 := bA.keep hB1
  have rx1 := rx.keep hB1
  have hW1 := hW.trans (hB1.mono hW.size)
  clear bA rx hB1 hW
  by_cases hr : ∃ t, er = .iface 87 (.agg #[.string t, errAt aA])
  · obtain ⟨t, rfl⟩ := hr
    have HF : Hid (fbS sp p xs = argsV) := by
      show _ = _
      unfold fbS
      unfold RpA at hA
      cases ht : textOf sp with
      | none => rfl
      | some c =>
        rw [ht] at hA
        simp only at hA ⊢
        have hb : badR (rdR c) = true := by
          by_cases hb : badR (rdR c) = true
          · exact hb
          · rw [if_neg hb] at hA; cases hA.1
        rw [if_neg]
        rw [(okQ_eq c).1, hb]; simp
    have hB2 := hW1.alloc hW1.size (.cells #[.string q.f, .string q.a, .string q.s, .string q.z, .string q.w, .string q.c, .string q.p, .string q.k] 83)
    clear hA hok bA1 rx1 hGA
    go_wp2
    go_ret2
    exact FbA.mk ⟨⟨#[]⟩, _, 1, rfl, .inr (.inr (.inr (.inr (.inl ⟨t, rfl, rfl⟩)))), HF.out, by decide, hB2⟩
  · obtain ⟨c, hc, hbad, rfl, hq⟩ : ∃ c, textOf sp = some c ∧ badR (rdR c) = false ∧ er = .nilIface ∧ q = prT c := by
      unfold RpA at hA
      cases ht : textOf sp with
      | none => rw [ht] at hA; exact absurd hA hr
      | some c =>
        rw [ht] at hA
        simp only at hA
        cases hb : badR (rdR c) with
        | true => rw [hb, if_pos rfl] at hA; exact absurd hA hr
        | false => rw [hb, if_neg (by decide)] at hA; exact ⟨c, rfl, hb, hA.1, hA.2⟩
    clear hr hA
    obtain ⟨hc1, hc2, hc3⟩ := text_iff.1 hc
    have HQ : Hid (q = prT c) := hq
    clear hq
    have hBs := fun W h => base_any q W aA aZ aL h
    unfold ptV ptC at hBs
    have hP0 := Bx.new W1 [.string q.f, .string q.a, .string q.s, .string q.z, .string q.w, .string q.c, .string q.p, .string q.k] 83
    have hB2 := (Below.refl W1.heap.size W1).alloc (Nat.le_refl _) (.cells [.string q.f, .string q.a, .string q.s, .string q.z, .string q.w, .string q.c, .string q.p, .string q.k].toArray 83)
    obtain ⟨PB, hPB⟩ : ∃ PB, W1.heap.size = PB := ⟨_, rfl⟩
    go_upto_region 4 with fail
    generalize W1.alloc _ = W2 at *
    rw [hPB] at hP0
    have hW2 := hW1.trans (hB2.mono hW1.size)
    have bA2 := bA1.keep hB2
    have rx2 := rx1.keep hB2
    clear hPB hB2 bA1 rx1 hW1
    have d0 := hP0.cell 0 (by simp)
    have d1 := hP0.cell 1 (by simp)
    have d2 := hP0.cell 2 (by simp)
    have d3 := hP0.cell 3 (by simp)
    have d4 := hP0.cell 4 (by simp)
    have d5 := hP0.cell 5 (by simp)
    have d6 := hP0.cell 6 (by simp)
    have d7 := hP0.cell 7 (by simp)
    simp only [List.getElem_cons_zero, List.getElem_cons_succ] at d0 d1 d2 d3 d4 d5 d6 d7
    have hB21 := hBs W2 (hE.below hW2)
    clear hBs
    unfold bsV at hB21
    cases hbb : bsBad q with
    | true =>
      rw [hbb, if_pos rfl] at hB21
      have HF : Hid (fbS sp p xs = argsV) := fbS_bad hc hc3 hbad (.inl (by rw [← HQ.out]; exact hbb))
      clear hc hbad hc1 hc2 hc3 HQ hbb hok rx2 bA2
      go_wp2_with fail
      refine hB21.mono ?_
      rintro e W3 ⟨rfl, hB3⟩
      have hW3 := hW2.trans (hB3.mono hW2.size)
      clear hB21 hB3 hP0 d0 d1 d2 d3 d4 d5 d6 d7
      go_wp2
      go_ret2
      exact FbA.mk ⟨⟨#[]⟩, _, 1, rfl, .inr (.inr (.inr (.inr (.inl ⟨_, rfl, rfl⟩)))), HF.out, by decide, hW3⟩
    | false =>
      rw [hbb, if_neg (by decide)] at hB21
      obtain ⟨BS, hBS⟩ : ∃ BS, bsN q.k.toList = BS := ⟨_, rfl⟩
      rw [hBS] at hB21
      have HBB : Hid (bsBad q = false) := hbb
      have HBS : Hid (bsN q.k.toList = BS) := hBS
      clear hbb hBS
      go_wp2_with fail
      refine hB21.mono ?_
      rintro e W3 ⟨rfl, hB3⟩
      have hW3 := hW2.trans (hB3.mono hW2.size)
      have hP3 := hP0.keep hB3
      have bA3 := bA2.keep hB3
      have rx3 := rx2.keep hB3
      clear hB21 hB3 hP0 d0 d1 d2 d3 d4 d5 d6 d7 hW2 bA2 rx2
      obtain ⟨-, k0, k1⟩ := id bA3
      have hok3 := hok W3 rx3
      clear hok
      cases hOK : Z.okB p xs with
      | false =>
        rw [hOK] at hok3
        have HF : Hid (fbS sp p xs = argsV) := fbS_bad hc hc3 hbad (.inr hOK)
        clear hc hbad hc1 hc2 hc3 HQ hOK rx3 bA3 HBB HBS hP3
        go_wp2_with fail
        refine hok3.mono ?_
        rintro e W4 ⟨rfl, hB4⟩
        have hW4 := hW3.trans (hB4.mono hW3.size)
        have hg := (hE.below hW4).1.1
        clear hok3 hB4 k0 k1
        go_upto_region 8 with fail
        go_quiet (fail)
        go_wp2
        go_ret2
        exact FbA.mk ⟨⟨#[]⟩, _, 1, rfl, .inr (.inl ⟨rfl, rfl⟩), HF.out, by decide, hW4.trans ⟨rfl, rfl, rfl, Nat.le_refl _, fun _ _ => rfl⟩⟩
      | true =>
        rw [hOK] at hok3
        obtain ⟨k, hk, hq, hw7, hfb, hbn, hb2, hb36, hcme, hcm10⟩ := fbS_good hc hc3 hbad (by rw [← HQ.out]; exact HBB.out) hOK
        obtain rfl : bsS k = BS := by rw [← hbn, ← HQ.out]; exact HBS.out
        obtain ⟨kk, hkk, hw7', _, hfc, hwd9, _, _⟩ := w7_ok hc3 hq
        rw [hw7] at hfc
        obtain ⟨hnm, hlx⟩ := Z.okB_norm hOK
        have htl := Z.txt_len (b := bsS k) hb2 hzx hlx
        have hasc := asc_txt (b := bsS k) (n := Z.val xs) hb2 hb36
        have hD := fun W h => digitsI_any (.slice a xs.length cap) xs (bsS k) W h hnm hlx hb2 hb36
        obtain ⟨S, hS⟩ : ∃ S : ByteArray, (⟨(Z.txt (bsS k) (Z.val xs)).toArray⟩ : ByteArray) = S := ⟨_, rfl⟩
        have hSl : S.data.toList = Z.txt (bsS k) (Z.val xs) := by rw [← hS]
        have hSz : S.size ≤ 4096 := by rw [size_eq, hSl]; exact htl
        rw [hS] at hD
        obtain ⟨Y, hY⟩ : ∃ Y, bdP q.c S = Y := ⟨_, rfl⟩
        have hqc : q.c.toList.isEmpty = !(svR (rdR c) k).cm := by rw [HQ.out]; exact hcme
        have hYl : Y.data.toList = fbB (svR (rdR c) k) xs := by
          rw [← hY]
          unfold bdP fbB
          rw [hqc, show (svR (rdR c) k).kd = k from rfl, ← hSl]
          cases (svR (rdR c) k).cm <;> rfl
        have hYz : Y.size ≤ 8192 := by
          rw [size_eq, hYl]
          unfold fbB
          rw [show (svR (rdR c) k).kd = k from rfl, ← hSl]
          have h1 := cmO_len S.data.toList S.data.toList.length
          have h2 := size_eq S
          unfold cmT
          split <;> omega
        have hYa : Asc Y.data.toList := by
          rw [hYl]; unfold fbB
          rw [show (svR (rdR c) k).kd = k from rfl]
          split
          · exact asc_cm hasc
          · exact hasc
        have hsgE : sgP q.s p = sgS (svR (rdR c) k) p := by rw [HQ.out]; exact sg_eq hc3 k p
        have hRC : runeCount (sgP q.s p ++ Y) = ((sgP q.s p).data.toList ++ Y.data.toList).length := by
          have : Asc (sgP q.s p ++ Y).data.toList := by rw [ba_app, hsgE]; exact (asc_sg _ _).append hYa
          rw [this.count, ba_app]
        have hFi := fun W h1 h2 => filled_any q (sgP q.s p) Y ⟨#[62]⟩ (tx [fcS (svR (rdR c) k)]) ⟨#[(alS (svR (rdR c) k) 62).toUInt8]⟩ (fcS (svR (rdR c) k)) (alS (svR (rdR c) k) 62) _ (cutD 4 (r3 c)).1 W aA aZ aL (by rw [hsgE]; have := sgS_size (svR (rdR c) k) p; omega) (by omega) (by rw [HQ.out]; exact sel_of c k 62 hc3) (by rw [tx_data, encs_cons, encs_nil, List.append_nil]) hfc rfl (al4 c k 62 (.inr rfl)) (by rw [HQ.out]; rfl) (cutD_dig 4 (r3 c)) (cutD_len 4 (r3 c)) hRC h1 h2
        have hly : layT (fcS (svR (rdR c) k)) (alS (svR (rdR c) k) 62) (nv (cutD 4 (r3 c)).1 - ((sgP q.s p).data.toList ++ Y.data.toList).length) (sgP q.s p).data.toList Y.data.toList = fbL (svR (rdR c) k) p xs := by
          unfold fbL missS
          rw [hsgE, ← hYl, Asc.heads ((asc_sg _ _).append hYa)]
          rfl
        rw [hly] at hFi
        obtain ⟨X, er, code, hx1, hx2, hx3, hx4⟩ := fil_fit aA aZ aL (fbL (svR (rdR c) k) p xs)
        rw [hx1] at hFi
        have HF : Hid (fbS sp p xs = .tuple #[.string X, .int .i64 code]) := hfb.trans hx3
        have HER : Hid (IsErr aA aZ aL er code) := hx2
        rw [← hY] at hFi
        have hsc4 : q.s = ⟨#[]⟩ ∨ q.s = ⟨#[43]⟩ ∨ q.s = ⟨#[45]⟩ ∨ q.s = ⟨#[32]⟩ := by
          rw [HQ.out]
          rcases sg_cases hc3 with ⟨h, _⟩ | ⟨h, _⟩ | ⟨h, _⟩ | ⟨h, _⟩
          · exact .inl h
          · exact .inr (.inl h)
          · exact .inr (.inr (.inl h))
          · exact .inr (.inr (.inr h))
        have hN := fun W h1 h2 => numP_any q p S (.string X) er W aA aZ aL hsc4 (by omega) (fun h => by
          have h2 : (svR (rdR c) k).cm = true := by rw [hqc] at h; simpa using h
          rw [hSl, hcm10 h2]; exact txt_dgs _) h1 h2 hFi
        unfold ptV ptC at hN
        have hw32 : IntKind.u32.wrap (bsS k : Int) = (bsS k : Int) := by simp [IntKind.wrap, IntKind.bits, IntKind.signed]; omega
        clear hFi hly hRC hsgE hYa hYz hYl hqc hY hSl hS hasc htl hnm hlx hfc hwd9 hkk hw7' hcm10 hcme hbn hfb hw7 hq hk hc hbad hc1 hc2 hc3 HQ hOK HBB HBS hx1 hx2 hx3 hsc4
        generalize bsS k = BS at *
        go_wp2_with fail
        refine hok3.mono ?_
        rintro e W4 ⟨rfl, hB4⟩
        have hW4 := hW3.trans (hB4.mono hW3.size)
        have hP4 := hP3.keep hB4
        have bA4 := bA3.keep hB4
        have rx4 := rx3.keep hB4
        clear hok3 hB4 k0 k1 hP3 bA3 rx3 hW3
        obtain ⟨-, k0, k1⟩ := id bA4
        have d0 := hP4.cell 0 (by simp)
        have d1 := hP4.cell 1 (by simp)
        have d2 := hP4.cell 2 (by simp)
        have d3 := hP4.cell 3 (by simp)
        have d4 := hP4.cell 4 (by simp)
        have d5 := hP4.cell 5 (by simp)
        have d6 := hP4.cell 6 (by simp)
        have d7 := hP4.cell 7 (by simp)
        simp only [List.getElem_cons_zero, List.getElem_cons_succ] at d0 d1 d2 d3 d4 d5 d6 d7
        go_upto_region 9 with fail
        go_region_held3 (fun W => W.cell? ⟨PB, 0, none⟩ = some (.string q.f) ∧ W.cell? ⟨PB, 1, none⟩ = some (.string q.a) ∧ W.cell? ⟨PB, 2, none⟩ = some (.string q.s) ∧ W.cell? ⟨PB, 3, none⟩ = some (.string q.z) ∧ W.cell? ⟨PB, 4, none⟩ = some (.string q.w) ∧ W.cell? ⟨PB, 5, none⟩ = some (.string q.c) ∧ W.cell? ⟨PB, 6, none⟩ = some (.string q.p) ∧ W.cell? ⟨PB, 7, none⟩ = some (.string q.k) ∧ W.cell? ⟨GA, 0, none⟩ = some (.bool p) ∧ W.cell? ⟨GA, 1, none⟩ = some (.slice a xs.length cap)) (go_keep) (first
          | (go_at_call 40; refine (hD _ rx4.drew).mono ?_; rintro e W7 ⟨rfl, hB7⟩; have hB47 := (Below.refl _ W4).drew.trans hB7; have hP7 := hP4.keep hB47; have g0 := hP7.cell 0 (by simp); have g1 := hP7.cell 1 (by simp); have g2 := hP7.cell 2 (by simp); have g3 := hP7.cell 3 (by simp); have g4 := hP7.cell 4 (by simp); have g5 := hP7.cell 5 (by simp); have g6 := hP7.cell 6 (by simp); have g7 := hP7.cell 7 (by simp); simp only [List.getElem_cons_zero, List.getElem_cons_succ] at g0 g1 g2 g3 g4 g5 g6 g7; obtain ⟨-, q0, q1⟩ := bA4.keep hB47; have hW7 := hW4.trans (hB47.mono hW4.size))
          | (go_at_call 58; refine (hN _ (hE.below hW7) (hEf.below hW7)).mono ?_; rintro e W8 ⟨rfl, hB8⟩; have hB48 := hB47.trans (hB8.mono hB47.size); have hP8 := hP4.keep hB48; have h0 := hP8.cell 0 (by simp); have h1 := hP8.cell 1 (by simp); have h2 := hP8.cell 2 (by simp); have h3 := hP8.cell 3 (by simp); have h4 := hP8.cell 4 (by simp); have h5 := hP8.cell 5 (by simp); have h6 := hP8.cell 6 (by simp); have h7 := hP8.cell 7 (by simp); simp only [List.getElem_cons_zero, List.getElem_cons_succ] at h0 h1 h2 h3 h4 h5 h6 h7; obtain ⟨-, r0, r1⟩ := bA4.keep hB48))
        all_goals
          go_wp2
          go_ret2
          exact FbA.mk ⟨X, er, code, rfl, HER.out, HF.out, hx4, hW4.trans (hB48.mono hW4.size)⟩
end Go.Proofs.YtahcpgldpbejiaaGreatDoor
