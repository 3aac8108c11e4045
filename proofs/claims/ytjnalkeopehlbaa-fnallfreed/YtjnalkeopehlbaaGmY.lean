import Derived.Test.YtjnalkeopehlbaaGmX
namespace Go.Proofs.Ytjnalkeopehlbaa
open Go.RowKit Go.Maps
set_option linter.unusedVariables false
set_option linter.unusedSimpArgs false

def alP (tb : Nat → Nat) (L : List Nat) : List (Value × Value) := L.map fun x => (.int .i64 (x : Nat), pk (tb x))
theorem alP_split {tb : Nat → Nat} {L : List Nat} {l1 l2 : List (Value × Value)} {p : Value × Value} (h : alP tb L = l1 ++ p :: l2) : ∃ a x b, L = a ++ x :: b ∧ l1 = alP tb a ∧ p = (.int .i64 (x : Nat), pk (tb x)) ∧ l2 = alP tb b := by
  unfold alP at h ⊢
  obtain ⟨a, c, e1, e2, e3⟩ := List.map_eq_append_iff.1 h
  obtain ⟨q, b, e4, e5, e6⟩ := List.map_eq_cons_iff.1 e3
  exact ⟨a, q, b, by rw [e1, e4], e2.symm, e5.symm, e6.symm⟩
theorem alP_app (tb : Nat → Nat) (a b : List Nat) : alP tb a ++ alP tb b = alP tb (a ++ b) := by unfold alP; simp
theorem bl_more {w wr w1 : World} {r : Nat} (h : Below w.heap.size w wr) (hg : wr.grownBy w1 (some r)) (hr : w.heap.size ≤ r) : Below w.heap.size w w1 := h.trans (gb_to hg (fun q hq => by have e := Option.some.inj hq; omega) h.size)
/-- '[]*thing{}'. -/
theorem OwnG.fresh0 (w : World) (B : Nat) (hB : B ≤ w.heap.size) : OwnG shT 56 (w.alloc (.cells #[] 56)) B (.slice (some ⟨w.heap.size, 0, none⟩) 0 0) [] :=
  ⟨⟨rfl, .inr ⟨w.heap.size, 0, #[], rfl, hB, (MapKept.heap_alloc w _).1, Nat.le_refl _, by unfold maxLen; omega, rfl, rfl⟩⟩, by simp, fun _ h => by cases h⟩
set_option maxRecDepth 100000 in
set_option maxHeartbeats 4000000 in
theorem lost_any (B hb am K : Nat) (ew : Value) (tb : Nat → Nat) (f : Nat → Tc) (AL : List Nat) (S : Gs) (w : World) (h : GI w B hb am ew tb f AL S) (hO : Ok K S) (hK : K ≤ 2000) :
    Calls Try.prog 58 #[.pointer (some ⟨hb, 0, none⟩)] w fun e w' => ∃ lb lc, e = .returned (.slice (some ⟨lb, 0, none⟩) (lostL S).length lc) ∧ OwnG shT 56 w' w.heap.size (.slice (some ⟨lb, 0, none⟩) (lostL S).length lc) ((lostL S).map tb) ∧ Below w.heap.size w w' := by
  obtain ⟨sz, hsz⟩ : ∃ sz, w.heap.size = sz := ⟨_, rfl⟩
  have HTH : Hid (TH w B hb am S.n ew tb f AL S.ev) := h.th
  have HGI : Hid (Gi S f AL) := h.gi
  have HOK : Hid (Ok K S) := hO
  have hn : S.n ≤ 2000 := Nat.le_trans hO.iv.n hK
  have hamz : am < sz := by rw [← hsz]; exact h.th.alive.lt
  have hbz : hb < sz := by rw [← hsz]; exact h.th.lt
  have hALn : AL.length ≤ S.n := pigeonN _ _ h.th.nd (fun x hx => h.th.alok x hx)
  have al1 : Below w.heap.size w (w.alloc (.cells #[] 56)) := (Below.refl _ _).alloc (Nat.le_refl _) _
  have hA := h.th.keep al1
  have c0 : (w.alloc (.cells #[] 56)).cell? ⟨hb, 0, none⟩ = some (.map (some am)) := hA.boxc.1
  have hM1 : MM (w.alloc (.cells #[] 56)) am (alP tb AL) := hA.alive
  have oR0 := OwnG.fresh0 w w.heap.size (Nat.le_refl _)
  have s1 : (w.alloc (.cells #[] 56)).heap.size = sz + 1 := by rw [World.size_alloc, hsz]
  obtain ⟨W1, hW1⟩ : ∃ W1, w.alloc (.cells #[] 56) = W1 := ⟨_, rfl⟩
  rw [hW1] at c0 hM1 s1 oR0 al1
  rw [hsz] at oR0
  have HB1 : Hid (Below w.heap.size w W1) := al1
  have HR0 : Hid (OwnG shT 56 W1 sz (.slice (some ⟨sz, 0, none⟩) 0 0) []) := oR0
  clear h hO oR0 al1 hA
  go_enter Try.func58, Try.ntmps58
  go_wp2_with (first
    | (at_range; refine wpList_range_MM _ rfl _ 67 rfl _ _ Try.underlying67 am _ rfl hM1 ?_; intro W2 hR0 hB0 hs0; rw [s1] at hR0; try rw [s1])
    | go_in)
  have hB2 : Below w.heap.size w W2 := HB1.out.trans (hB0.mono (by rw [s1, hsz]; omega))
  have HR2 : Hid (OwnG shT 56 W2 sz (.slice (some ⟨sz, 0, none⟩) 0 0) []) := HR0.out.keep hB0
  clear hB0 hs0 HB1 HR0 hM1 c0 s1 hW1
  go_frame
  go_loopw [3, 5] (fun q _ wr => ∃ (fb fc : Nat) (ot dr L : List Nat), q = .slice (some ⟨fb, 0, none⟩) ot.length fc ∧ RR wr am (sz + 1) (alP tb AL) (alP tb L) ∧ Fl (fun x => 0 < S.rt x) AL ot dr L ∧ OwnG shT 56 wr sz (.slice (some ⟨fb, 0, none⟩) ot.length fc) (ot.map tb) ∧ Below w.heap.size w wr ∧ fb ≠ sz + 1)
    (fun _ _ wr => wr.rangeLeft am (sz + 1))
  case atStart => exact ⟨sz, 0, [], [], AL, rfl, hR0, Fl.start _ _, HR2.out, hB2, by omega⟩
  case round =>
    obtain ⟨fb, fc, ot, dr, L, rfl, hR, hF, oF, bW, hfr⟩ := hrel
    clear hR0 HR2 hB2
    obtain ⟨OL, hOL⟩ : ∃ OL, ot.length = OL := ⟨_, rfl⟩
    have HOL : Hid (ot.length = OL) := hOL
    rw [hOL] at oF
    try rw [hOL]
    clear hOL
    have hfz : sz ≤ fb := (oF.lt fb rfl).1
    have HRl := hR.left_eq
    have HF : Hid (Fl (fun x => 0 < S.rt x) AL ot dr L) := hF
    have hOLn : OL ≤ 2000 := by have := hF.len; rw [HOL.out] at this; omega
    clear hF
    go_wp2_with (first
      | (at_next; refine wpList_next_RR _ rfl _ rfl am (sz + 1) _ _ rfl hR ?_ ?_)
      | go_in)
    · intro hl0
      have e : L = [] := by unfold alP at hl0; simpa using hl0
      subst e
      have hmm : ∀ x, x ∈ ot ↔ S.al x = true ∧ 0 < S.rt x := fun x => by rw [HF.out.mem, HGI.out.al]
      have HRC : Hid (∀ x, RchI (hlO S) ot x ↔ Rc S x) := rch_rc HOK.out ot hmm
      obtain ⟨zo, hzo⟩ : ∃ zo, wr.heap.size = zo := ⟨_, rfl⟩
      obtain ⟨N1, hN1⟩ : ∃ N1, S.n + 1 = N1 := ⟨_, rfl⟩
      have hfl : fb < zo := by rw [← hzo]; exact (oF.lt fb rfl).2
      have al : Below wr.heap.size wr (wr.alloc (.cells #[] 56)) := (Below.refl _ _).alloc (Nat.le_refl _) _
      have b4 : Below w.heap.size w (wr.alloc (.cells #[] 56)) := bW.trans (al.mono (by have := bW.size; omega))
      have hT4 := HTH.out.keep b4
      have oF4 := oF.keep al
      have oO4 := OwnG.fresh0 wr sz (by have := bW.size; omega)
      have hsb : (wr.alloc (.cells #[] 56)).heap.size = zo + 1 := by rw [World.size_alloc, hzo]
      have c4 : (wr.alloc (.cells #[] 56)).cell? ⟨hb, 1, none⟩ = some (.int .i64 (S.n : Nat)) := hT4.boxc.2.1
      have hfz1 : ∀ b, PT S.n tb f b → b ≠ fb := fun b hb2 => by
        have := (HTH.out.tg.pt hb2).2
        omega
      have oF5 := oF4
      rw [← HOL.out] at oF5
      have hRe := reachedQ_any S.n sz fb fc N1 (zo + 1) tb (hlO S) ot (wr.alloc (.cells #[] 56)) hn hN1 hsb oF5 (hT4.tg.rdS HGI.out fb hfz1) (fun i hi => ⟨(HTH.out.alok i (HF.out.ino hi)).1, by have := (HTH.out.alok i (HF.out.ino hi)).2; omega⟩) (by rw [HOL.out]; exact wt_bound HOK.out.iv hn OL (by have := HF.out.len; rw [HOL.out] at this; omega)) (by have := b4.size; omega)
      rw [HOL.out] at hRe
      rw [hzo] at oO4
      obtain ⟨W4, hW4⟩ : ∃ W4, wr.alloc (.cells #[] 56) = W4 := ⟨_, rfl⟩
      rw [hW4] at hRe c4 b4 oO4 hsb hT4
      have HO4 : Hid (OwnG shT 56 W4 sz (.slice (some ⟨zo, 0, none⟩) 0 0) []) := oO4
      have HB4 : Hid (Below w.heap.size w W4) := b4
      have HN1 : Hid (S.n + 1 = N1) := hN1
      clear oF5 oF4 oF hT4 al hmm HF hl0 bW hfz1 oO4 b4 hN1 hR
      go_wp2_with fail
      refine hRe.mono ?_
      rintro e W5 ⟨sn, rfl, oS, hsl, hsn, b5, hX⟩
      clear hRe
      have b6 : Below w.heap.size w W5 := HB4.out.trans (b5.mono (by omega))
      have HSN : Hid (∀ i, sn.getD i false = true ↔ Rc S i) := fun i => (hsn i).trans (HRC.out i)
      have oO5 : OwnG shT 56 W5 sz (.slice (some ⟨zo, 0, none⟩) 0 0) [] := HO4.out.same (fun g e => hX g (by have : zo = g := Option.some.inj e; omega) (by have : zo = g := Option.some.inj e; omega))
      have hT5 := HTH.out.keep b6
      have c5 : W5.cell? ⟨hb, 0, none⟩ = some (.map (some am)) := hT5.boxc.1
      have hM5 : MM W5 am (alP tb AL) := hT5.alive
      obtain ⟨r2, hr2⟩ : ∃ r2, W5.heap.size = r2 := ⟨_, rfl⟩
      have hsbl : zo + 1 < r2 := by rw [← hr2]; exact (oS.lt (zo + 1) rfl).2
      have HSL : Hid (sn.length = N1) := hsl
      have HO5 : Hid (OwnG shT 56 W5 sz (.slice (some ⟨zo, 0, none⟩) 0 0) []) := oO5
      have HS5 : Hid (OwnG shB 4 W5 (zo + 1) (.slice (some ⟨zo + 1, 0, none⟩) N1 N1) sn) := oS
      have HB5 : Hid (Below w.heap.size w W5) := b6
      have hzz : sz ≤ zo := by omega
      clear hX hsn b5 b6 oO5 oS hT5 hsl HO4 HB4 HRC hW4 hsb c4 hzo HRl
      go_wp2_with (first
        | (at_range; refine wpList_range_MM _ rfl _ 67 rfl _ _ Try.underlying67 am _ rfl hM5 ?_; intro W6 hR6 hB6 hs6; rw [hr2] at hR6; try rw [hr2])
        | go_in)
      have b7 : Below w.heap.size w W6 := HB5.out.trans (hB6.mono (by omega))
      have HO6 : Hid (OwnG shT 56 W6 sz (.slice (some ⟨zo, 0, none⟩) 0 0) []) := HO5.out.keep hB6
      have HS6 : Hid (OwnG shB 4 W6 (zo + 1) (.slice (some ⟨zo + 1, 0, none⟩) N1 N1) sn) := HS5.out.keep hB6
      clear hB6 hs6 HO5 HS5 HB5 hM5 c5 hr2
      go_frame
      go_loopw [6, 8, 9] (fun q _ _ wr => ∃ (ob oc : Nat) (o2 d2 L2 : List Nat), q = .slice (some ⟨ob, 0, none⟩) o2.length oc ∧ RR wr am r2 (alP tb AL) (alP tb L2) ∧ Fl (fun x => ¬ Rc S x) AL o2 d2 L2 ∧ OwnG shT 56 wr sz (.slice (some ⟨ob, 0, none⟩) o2.length oc) (o2.map tb) ∧ OwnG shB 4 wr (zo + 1) (.slice (some ⟨zo + 1, 0, none⟩) N1 N1) sn ∧ Below w.heap.size w wr ∧ ob ≠ r2 ∧ ob ≠ zo + 1)
        (fun _ _ _ wr => wr.rangeLeft am r2)
      case atStart => exact ⟨zo, 0, [], [], AL, rfl, hR6, Fl.start _ _, HO6.out, HS6.out, b7, by omega, by omega⟩
      case round =>
        obtain ⟨ob, oc, o2, d2, L2, rfl, hR, hF, oO, oS, bW, hor, hos⟩ := hrel
        clear hR6 HO6 HS6 b7
        generalize wr = Q1 at *
        obtain ⟨PL, hPL⟩ : ∃ PL, o2.length = PL := ⟨_, rfl⟩
        have HPL : Hid (o2.length = PL) := hPL
        rw [hPL] at oO
        try rw [hPL]
        clear hPL
        have hoz : sz ≤ ob := (oO.lt ob rfl).1
        have HRl := hR.left_eq
        have HF : Hid (Fl (fun x => ¬ Rc S x) AL o2 d2 L2) := hF
        have hPLn : PL ≤ 2000 := by have := hF.len; rw [HPL.out] at this; omega
        clear hF
        go_wp2_with (first
          | (at_next; refine wpList_next_RR _ rfl _ rfl am r2 _ _ rfl hR ?_ ?_)
          | go_in)
        · intro hl0
          have e : L2 = [] := by unfold alP at hl0; simpa using hl0
          subst e
          have hmm : ∀ x, x ∈ o2 ↔ S.al x = true ∧ ¬ Rc S x := fun x => by rw [HF.out.mem, HGI.out.al]
          have hpm := lost_perm HOK.out.iv o2 hmm (HF.out.nodup HTH.out.nd)
          have hT := HTH.out.keep bW
          have oO2 := oO
          rw [← HPL.out] at oO2
          have hSo := sortT_any S.n sz ob oc hb tb o2 Q1 (fun x hx => ⟨cell_obj (hT.tg.obj x hx) rfl, by have := (HTH.out.tg.lt hx).1; omega, (hT.tg.lt hx).1⟩) ⟨hT.boxc.2.1, by omega, hT.lt⟩ (fun x hx => HTH.out.alok x (HF.out.ino hx)) (by omega) oO2
          rw [HPL.out] at hSo
          have HPM : Hid (o2.Perm (lostL S)) := hpm
          have HPN : Hid (PL = (lostL S).length) := by show _ = _; rw [← HPL.out]; exact hpm.length_eq
          clear oO2 hT hmm hpm HF hl0 hR oS
          go_wp2_with fail
          refine hSo.mono ?_
          rintro e W9 ⟨rfl, l', hp', hs', oL, hg9⟩
          have HL : Hid (l' = lostL S) := lost_eq (hp'.trans HPM.out) hs'
          have b9 := bl_more (r := ob) bW hg9 (by omega)
          clear hSo
          go_wp2
          go_ret
          refine ⟨ob, oc, ?_, ?_, b9⟩
          · rw [← HPN.out]; rfl
          · rw [← HL.out, hsz, HL.out, ← HPN.out, ← HL.out]; exact oL
        · intro l1 p1 p2 l2 w1 hl hR1 hg1 hs1 hen
          clear hs1
          obtain ⟨a, x, b, eL, e1, e2, e3⟩ := alP_split hl
          have e4 : p1 = .int .i64 (x : Nat) := congrArg Prod.fst e2
          have e5 : p2 = .pointer (some ⟨tb x, 0, none⟩) := congrArg Prod.snd e2
          subst e4 e5 e1 e3 eL
          have hxA : x ∈ AL := HF.out.inl (by simp)
          have hx : In S.n x := HTH.out.alok x hxA
          have b1 : Below w.heap.size w w1 := bl_more bW hg1 (by omega)
          have oO1 := oO.but hg1 (.inr (by show some ob ≠ some r2; intro e; exact hor (Option.some.inj e)))
          have oS1 := oS.but hg1 (.inr (by show some (zo + 1) ≠ some r2; intro e; have := Option.some.inj e; omega))
          rw [alP_app] at hR1
          have hxN : x < sn.length := by rw [HSL.out, ← HN1.out]; have := hx.2; omega
          have hxi : (x : Int) < (N1 : Int) := by have := HSL.out; omega
          have cS : w1.cell? ⟨zo + 1, x, none⟩ = some (.bool sn[x]) := by
            have h1 := oS1.cell x hxN 0 (by decide)
            have e9 : x * shB.n + 0 = x := by show x * 1 + 0 = x; omega
            rw [e9] at h1
            exact h1
          have hgx : sn.getD x false = sn[x] := by simp [List.getD, hxN]
          have hrl : r2 < w1.heap.size := hR1.lt
          have HRq : Hid (Q1.rangeLeft am r2 = (alP tb (a ++ x :: b)).length) := HRl
          cases hbv : sn[x]
          · rw [hbv] at cS hgx
            have hr : ¬ Rc S x := fun hr => by have := (HSN.out x).2 hr; rw [hgx] at this; cases this
            have HF2 : Hid (Fl (fun x => ¬ Rc S x) AL (o2 ++ [x]) d2 (a ++ b)) := HF.out.take hr
            have al : Below w1.heap.size w1 (w1.alloc (.cells #[.pointer (some ⟨tb x, 0, none⟩)] 56)) := (Below.refl _ _).alloc (Nat.le_refl _) _
            have HCC : Hid (∀ k (h : k < [tb x].length), (w1.alloc (.cells #[.pointer (some ⟨tb x, 0, none⟩)] 56)).cell? ⟨w1.heap.size, k, none⟩ = some (pk [tb x][k])) := fun k hk => by
              have : k = 0 := by simpa using hk
              subst this
              rw [World.cell?_alloc_at _ _ _ _ rfl]
              rfl
            have oO2 := oO1.keep al
            have HS2 : Hid (OwnG shB 4 (w1.alloc (.cells #[.pointer (some ⟨tb x, 0, none⟩)] 56)) (zo + 1) (.slice (some ⟨zo + 1, 0, none⟩) N1 N1) sn) := oS1.keep al
            have hRa : RR (w1.alloc (.cells #[.pointer (some ⟨tb x, 0, none⟩)] 56)) am r2 (alP tb AL) (alP tb (a ++ b)) := hR1.same (al.block _ (by omega)) (al.block _ hrl)
            have b2 := b1.trans (al.mono (by omega))
            have hsA : (w1.alloc (.cells #[.pointer (some ⟨tb x, 0, none⟩)] 56)).heap.size = w1.heap.size + 1 := by simp
            obtain ⟨W3, hW3⟩ : ∃ W3, w1.alloc (.cells #[.pointer (some ⟨tb x, 0, none⟩)] 56) = W3 := ⟨_, rfl⟩
            rw [hW3] at HCC oO2 hRa b2 hsA HS2
            have HRa : Hid (RR W3 am r2 (alP tb AL) (alP tb (a ++ b))) := hRa
            have HB3 : Hid (Below w.heap.size w W3) := b2
            have hml : (o2.map tb).length = PL := by rw [List.length_map, HPL.out]
            clear hRa b2 al oO1 oO hR hR1 hg1 hl e2 bW oS oS1 hgx hbv
            have hlen : (o2.map tb).length + [tb x].length ≤ 16777216 := by rw [hml]; simp; omega
            go_wp2_with (at_builtin; refine wpList_append_T rfl (.tmp 51) (.tmp 53) 55 rfl Try.underlying55 sz (.slice (some ⟨ob, 0, none⟩) PL oc) (o2.map tb) [tb x] rfl oO2 w1.heap.size 1 rfl Nat.zero_lt_one HCC.out hlen (by omega) ?_; intro b' c' w' oF4 hg4 hl4 hz4)
            rw [hml] at oF4
            have hfl2 : ob < W3.heap.size := (oO2.lt ob rfl).2
            have hRf : RR w' am r2 (alP tb AL) (alP tb (a ++ b)) := HRa.out.same (hg4.block _ (by omega) (by intro e; have : am = ob := Option.some.inj e; omega)) (hg4.block _ (by omega) (by intro e; have : r2 = ob := Option.some.inj e; omega))
            have hbf : Below w.heap.size w w' := bl_more (r := ob) HB3.out hg4 (by omega)
            have HSf : Hid (OwnG shB 4 w' (zo + 1) (.slice (some ⟨zo + 1, 0, none⟩) N1 N1) sn) := HS2.out.but hg4 (.inr (by show some (zo + 1) ≠ some ob; intro e; have := Option.some.inj e; omega))
            have hbn : b' ≠ r2 ∧ b' ≠ zo + 1 := by
              rcases hl4 with e | e
              · have : ob = b' := Option.some.inj e
                omega
              · omega
            have HOF : Hid (OwnG shT 56 w' sz (.slice (some ⟨b', 0, none⟩) (PL + 1) c') ((o2 ++ [x]).map tb)) := by
              show OwnG _ _ _ _ _ _
              rw [List.map_append]; exact oF4
            have HRf : Hid (RR w' am r2 (alP tb AL) (alP tb (a ++ b))) := hRf
            clear oF4 hRf hg4 hl4
            go_roundw
            case rel => exact ⟨b', c', o2 ++ [x], d2, a ++ b, by simp [HPL.out], HRf.out, HF2.out, by rw [List.length_append, HPL.out]; exact HOF.out, HSf.out, hbf, hbn.1, hbn.2⟩
            case measure => rw [HRf.out.left_eq, HRq.out]; unfold alP; simp
          · rw [hbv] at cS hgx
            have hr : ¬ ¬ Rc S x := fun hr => hr ((HSN.out x).1 hgx)
            have HF2 : Hid (Fl (fun x => ¬ Rc S x) AL o2 (x :: d2) (a ++ b)) := HF.out.drop hr
            have HR1 : Hid (RR w1 am r2 (alP tb AL) (alP tb (a ++ b))) := hR1
            have HS1 : Hid (OwnG shB 4 w1 (zo + 1) (.slice (some ⟨zo + 1, 0, none⟩) N1 N1) sn) := oS1
            clear hR hR1 hg1 hl e2 bW oO oS oS1 hgx hbv hr
            go_wp2
            go_roundw
            case rel => exact ⟨ob, oc, o2, x :: d2, a ++ b, by rw [HPL.out], HR1.out, HF2.out, by rw [HPL.out]; exact oO1, HS1.out, b1, hor, hos⟩
            case measure => rw [HR1.out.left_eq, HRq.out]; unfold alP; simp
    · intro l1 p1 p2 l2 w1 hl hR1 hg1 hs1 hen
      clear hs1
      obtain ⟨a, x, b, eL, e1, e2, e3⟩ := alP_split hl
      have e4 : p1 = .int .i64 (x : Nat) := congrArg Prod.fst e2
      have e5 : p2 = .pointer (some ⟨tb x, 0, none⟩) := congrArg Prod.snd e2
      subst e4 e5 e1 e3 eL
      have hxA : x ∈ AL := HF.out.inl (by simp)
      have hx : In S.n x := HTH.out.alok x hxA
      have b1 : Below w.heap.size w w1 := bl_more bW hg1 (by omega)
      have hT1 := HTH.out.keep b1
      have c1 : w1.cell? ⟨tb x, 1, none⟩ = some (.int .i64 (S.rt x : Nat)) := by rw [← HGI.out.rt x hx]; exact cell_obj (hT1.tg.obj x hx) rfl
      have oF1 := oF.but hg1 (.inr (by show some fb ≠ some (sz + 1); intro e; exact hfr (Option.some.inj e)))
      rw [alP_app] at hR1
      have HRq : Hid (wr.rangeLeft am (sz + 1) = (alP tb (a ++ x :: b)).length) := HRl
      by_cases hr : 0 < S.rt x
      · have hri : (0 : Int) < ((S.rt x : Nat) : Int) := by omega
        have HF2 : Hid (Fl (fun x => 0 < S.rt x) AL (ot ++ [x]) dr (a ++ b)) := HF.out.take hr
        have al : Below w1.heap.size w1 (w1.alloc (.cells #[.pointer (some ⟨tb x, 0, none⟩)] 56)) := (Below.refl _ _).alloc (Nat.le_refl _) _
        have HCC : Hid (∀ k (h : k < [tb x].length), (w1.alloc (.cells #[.pointer (some ⟨tb x, 0, none⟩)] 56)).cell? ⟨w1.heap.size, k, none⟩ = some (pk [tb x][k])) := fun k hk => by
          have : k = 0 := by simpa using hk
          subst this
          rw [World.cell?_alloc_at _ _ _ _ rfl]
          rfl
        have oF2 := oF1.keep al
        have hrl : sz + 1 < w1.heap.size := hR1.lt
        have hRa : RR (w1.alloc (.cells #[.pointer (some ⟨tb x, 0, none⟩)] 56)) am (sz + 1) (alP tb AL) (alP tb (a ++ b)) := hR1.same (al.block _ (by omega)) (al.block _ hrl)
        have b2 := b1.trans (al.mono (by omega))
        have hsA : (w1.alloc (.cells #[.pointer (some ⟨tb x, 0, none⟩)] 56)).heap.size = w1.heap.size + 1 := by simp
        obtain ⟨W3, hW3⟩ : ∃ W3, w1.alloc (.cells #[.pointer (some ⟨tb x, 0, none⟩)] 56) = W3 := ⟨_, rfl⟩
        rw [hW3] at HCC oF2 hRa b2 hsA
        have HRa : Hid (RR W3 am (sz + 1) (alP tb AL) (alP tb (a ++ b))) := hRa
        have HB3 : Hid (Below w.heap.size w W3) := b2
        have hml : (ot.map tb).length = OL := by rw [List.length_map, HOL.out]
        clear hRa b2 al oF1 oF hT1 hR hR1 hg1 hl e2 bW
        have hlen : (ot.map tb).length + [tb x].length ≤ 16777216 := by rw [hml]; simp; omega
        go_wp2_with (at_builtin; refine wpList_append_T rfl (.tmp 25) (.tmp 27) 55 rfl Try.underlying55 sz (.slice (some ⟨fb, 0, none⟩) OL fc) (ot.map tb) [tb x] rfl oF2 w1.heap.size 1 rfl Nat.zero_lt_one HCC.out hlen (by omega) ?_; intro b' c' w' oF4 hg4 hl4 hz4)
        rw [hml] at oF4
        have hfl : fb < W3.heap.size := (oF2.lt fb rfl).2
        have hRf : RR w' am (sz + 1) (alP tb AL) (alP tb (a ++ b)) := HRa.out.same (hg4.block _ (by omega) (by intro e; have : am = fb := Option.some.inj e; omega)) (hg4.block _ (by omega) (by intro e; have : sz + 1 = fb := Option.some.inj e; omega))
        have hbf : Below w.heap.size w w' := bl_more (r := fb) HB3.out hg4 (by omega)
        have hbn : b' ≠ sz + 1 := by
          rcases hl4 with e | e
          · have : fb = b' := Option.some.inj e
            omega
          · omega
        have HOF : Hid (OwnG shT 56 w' sz (.slice (some ⟨b', 0, none⟩) (OL + 1) c') ((ot ++ [x]).map tb)) := by
          show OwnG _ _ _ _ _ _
          rw [List.map_append]; exact oF4
        have HRf : Hid (RR w' am (sz + 1) (alP tb AL) (alP tb (a ++ b))) := hRf
        clear oF4 hRf hg4 hl4
        go_roundw
        case rel => exact ⟨b', c', ot ++ [x], dr, a ++ b, by simp [HOL.out], HRf.out, HF2.out, by rw [List.length_append, HOL.out]; exact HOF.out, hbf, hbn⟩
        case measure => rw [HRf.out.left_eq, HRq.out]; unfold alP; simp
      · have hr0 : S.rt x = 0 := by omega
        rw [hr0] at c1
        have HF2 : Hid (Fl (fun x => 0 < S.rt x) AL ot (x :: dr) (a ++ b)) := HF.out.drop hr
        have HR1 : Hid (RR w1 am (sz + 1) (alP tb AL) (alP tb (a ++ b))) := hR1
        clear hR hR1 hg1 hl e2 bW oF hT1
        go_wp2
        go_roundw
        case rel => exact ⟨fb, fc, ot, x :: dr, a ++ b, by rw [HOL.out], HR1.out, HF2.out, by rw [HOL.out]; exact oF1, b1, hfr⟩
        case measure => rw [HR1.out.left_eq, HRq.out]; unfold alP; simp
end Go.Proofs.Ytjnalkeopehlbaa
