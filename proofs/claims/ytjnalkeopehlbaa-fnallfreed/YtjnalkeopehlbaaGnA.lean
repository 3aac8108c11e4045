import Derived.Test.YtjnalkeopehlbaaGmZ
import Derived.Test.YtjnalkeopehlbaaGdG
namespace Go.Proofs.Ytjnalkeopehlbaa
open Go.RowKit Go.Maps
set_option linter.unusedVariables false
set_option linter.unusedSimpArgs false

theorem GI.but {w w' : World} {B hb am : Nat} {ew : Value} {tb : Nat → Nat} {f : Nat → Tc} {AL : List Nat} {S : Gs} (h : GI w B hb am ew tb f AL S) {ob : Nat} (hg : w.grownBy w' (some ob)) (hp : ¬ PH hb am S.n ew tb f ob) : GI w' B hb am ew tb f AL S :=
  ⟨h.th.same (fun b hb2 => hg.block b (h.th.ph hb2).2 (fun e => by have : b = ob := Option.some.inj e; subst this; exact hp hb2)), h.gi⟩
theorem GI.keep {w w' : World} {B hb am : Nat} {ew : Value} {tb : Nat → Nat} {f : Nat → Tc} {AL : List Nat} {S : Gs} (h : GI w B hb am ew tb f AL S) (hk : Below w.heap.size w w') : GI w' B hb am ew tb f AL S := ⟨h.th.keep hk, h.gi⟩
theorem GI.start {w : World} {B hb am : Nat} {tb : Nat → Nat} (hbx : w.heap[hb]? = some (.cells #[.map (some am), .int .i64 0, .slice none 0 0] 69 (0, 0))) (hm : MM w am []) (h1 : B ≤ hb) (h2 : B ≤ am) : GI w B hb am (.slice none 0 0) tb (fun _ => tc0 0) [] gs0 := by
  have no : ∀ x, ¬ In gs0.n x := fun x hx => by have h1 : 1 ≤ x := hx.1; have h2 : x ≤ 0 := hx.2; omega
  refine ⟨⟨⟨fun x hx => absurd hx (no x), fun x hx => absurd hx (no x), fun x y hx => absurd hx (no x), fun x y hx => absurd hx (no x), fun x hx => absurd hx (no x), fun x hx => absurd hx (no x), fun x y hx => absurd hx (no x), fun x hx => absurd hx (no x), fun x hx => absurd hx (no x)⟩, hbx, ⟨h1, h2⟩, hm, OwnG.nil _ _ _ _, (fun x hx => by cases hx), List.nodup_nil, fun x hx => absurd hx (no x)⟩, ⟨fun x hx => absurd hx (no x), fun x hx => absurd hx (no x), fun x hx => absurd hx (no x), fun x hx => absurd hx (no x), fun x hx => absurd hx (no x), fun x hx => absurd hx (no x), fun x hx => absurd hx (no x), fun x => ⟨(fun hx => by cases hx), (fun hx => by cases hx)⟩⟩⟩
set_option maxRecDepth 100000 in
set_option maxHeartbeats 2000000 in
theorem gcRunI_any (v : Value) (es : List Gp) (w : World) (hr : RdGo w v es) :
    Calls Try.prog 18 #[v] w (RnP w es) := by
  obtain ⟨va, vc, rfl, hvl, hvok, hvc, hcell⟩ := id hr
  by_cases hbig : 2000 < es.length
  · have al1 : Below w.heap.size w (w.alloc (.cells #[] 2)) := (Below.refl _ _).alloc (Nat.le_refl _) _
    have o1 := Own.empty w
    have al2 := al1.alloc al1.size (.cells #[] 49)
    have o2 := o1.alloc (.cells #[] 49)
    have v2 := OwnG.emptyS shGe 49 (w.alloc (.cells #[] 2))
    have hbi : (2000 : Int) < (es.length : Int) := by omega
    have HA : Hid (ansG es = [] ∧ evG es = []) := ⟨by unfold ansG; rw [if_neg (by omega)], by unfold evG; rw [if_neg (by omega)]⟩
    go_enter Try.func18, Try.ntmps18
    go_wp2
    go_ret2
    refine RnP.mk ⟨some ⟨w.heap.size, 0, none⟩, 0, some ⟨(w.alloc (.cells #[] 2)).heap.size, 0, none⟩, 0, ?_, ?_, ?_, al2⟩
    · rw [HA.out.1, HA.out.2]; first | rfl | simp
    · rw [HA.out.1]; exact o2
    · rw [HA.out.2]; exact v2.mono (by simp)
  · have hbi : ¬ (2000 : Int) < (es.length : Int) := by omega
    have HA : Hid (ansG es = outA es es.length ∧ evG es = evL (stA es es.length).ev) := ⟨by unfold ansG; rw [if_pos (by omega)], by unfold evG; rw [if_pos (by omega)]⟩
    obtain ⟨B0, hB0⟩ : ∃ B0, w.heap.size = B0 := ⟨_, rfl⟩
    obtain ⟨L, hL⟩ : ∃ L, es.length = L := ⟨_, rfl⟩
    have HL : Hid (es.length = L) := hL
    rw [hL] at hbi
    simp only [hL]
    have hLb : L ≤ 2000 := by omega
    obtain ⟨i0, hi, hi0, hi1, hi2⟩ := info_parts Try.info2
    clear hL hbig hr hvl hvc
    have hmm := @run_makeMap Try.prog
    have hs1 : (w.alloc (.map #[] 0)).heap.size = B0 + 1 := by rw [World.size_alloc, hB0]
    have hmM : MM (w.alloc (.map #[] 0)) B0 [] := by rw [← hB0]; exact MM.made w
    have al1 : Below w.heap.size w (w.alloc (.map #[] 0)) := (Below.refl _ _).alloc (Nat.le_refl _) _
    have hbx : ((w.alloc (.map #[] 0)).alloc (.cells #[.map (some B0), .int .i64 0, .slice none 0 0] 69)).heap[B0 + 1]? = some (.cells #[.map (some B0), .int .i64 0, .slice none 0 0] 69 (0, 0)) := by
      have := heap_alloc_new (w.alloc (.map #[] 0)) (.cells #[.map (some B0), .int .i64 0, .slice none 0 0] 69)
      rw [hs1] at this
      exact this
    have al2 := al1.alloc al1.size (.cells #[.map (some B0), .int .i64 0, .slice none 0 0] 69)
    have hmM2 : MM ((w.alloc (.map #[] 0)).alloc (.cells #[.map (some B0), .int .i64 0, .slice none 0 0] 69)) B0 [] := hmM.same ((MapKept.heap_alloc (w.alloc (.map #[] 0)) _).2 B0 (by omega))
    have hG := GI.start (tb := fun _ => 0) hbx hmM2 (Nat.le_succ B0) (Nat.le_refl B0)
    have hs2 : ((w.alloc (.map #[] 0)).alloc (.cells #[.map (some B0), .int .i64 0, .slice none 0 0] 69)).heap.size = B0 + 2 := by rw [World.size_alloc, hs1]
    have HG2 : Hid (GI ((w.alloc (.map #[] 0)).alloc (.cells #[.map (some B0), .int .i64 0, .slice none 0 0] 69)) B0 (B0 + 1) B0 (.slice none 0 0) (fun _ => 0) (fun _ => tc0 0) [] gs0) := hG
    have HB2 : Hid (Below w.heap.size w ((w.alloc (.map #[] 0)).alloc (.cells #[.map (some B0), .int .i64 0, .slice none 0 0] 69))) := al2
    have HS2 : Hid (((w.alloc (.map #[] 0)).alloc (.cells #[.map (some B0), .int .i64 0, .slice none 0 0] 69)).heap.size = B0 + 2) := hs2
    clear hG al2 hbx hmM hmM2 al1 hs2
    go_enter Try.func18, Try.ntmps18
    go_upto_region 4 with fail
    try simp only [hB0, hs1]
    generalize (w.alloc (.map #[] 0)).alloc (.cells #[.map (some B0), .int .i64 0, .slice none 0 0] 69) = W2 at *
    have hs2 := HS2.out
    clear hs1 hmm
    go_wp2_with (at_make; refine wpList_make_own _ rfl _ _ 23 rfl W2.heap.size 2 i0 _ 1 Try.underlying23 hi hi0 hi1 .i64 .i64 _ L rfl rfl rfl (by rw [hi2]; omega) (by unfold maxLen; omega) (by simp) ?_; intro W3 hown hgrow)
    have bE : Below W2.heap.size W2 W3 := (Below.refl _ _).grown hgrow (Nat.le_refl _) (by intro k h; cases h)
    have oE : Own W3 (B0 + 2) (.slice (some ⟨B0 + 2, 0, none⟩) 0 L) [] := by
      have : Own W3 W2.heap.size (.slice (some ⟨W2.heap.size, 0, none⟩) 0 L) [] := ⟨hown, by simp, Limbs.nil⟩
      rw [hs2] at this; exact this
    have HO3 : Hid (Own W3 B0 (.slice (some ⟨B0 + 2, 0, none⟩) 0 L) []) := oE.mono (by omega)
    have HG3 : Hid (GI W3 B0 (B0 + 1) B0 (.slice none 0 0) (fun _ => 0) (fun _ => tc0 0) [] gs0) := HG2.out.keep bE
    have HB3 : Hid (Below B0 w W3) := by show Below _ _ _; rw [← hB0]; exact HB2.out.trans (bE.mono (by omega))
    have hz3 : B0 + 2 ≤ W3.heap.size := by have := bE.size; omega
    clear hown hgrow oE bE HG2 HB2 HS2 hs2 i0 hi hi0 hi1 hi2
    go_loopw [5, 20] (fun q i wq => ∃ (k ob oc : Nat) (ew : Value) (tb : Nat → Nat) (f : Nat → Tc) (AL : List Nat), k ≤ L ∧ i = .int .i64 k ∧ q = .slice (some ⟨ob, 0, none⟩) k oc ∧ Own wq B0 (.slice (some ⟨ob, 0, none⟩) k oc) (outA es k) ∧ GI wq B0 (B0 + 1) B0 ew tb f AL (stA es k) ∧ ¬ PH (B0 + 1) B0 (stA es k).n ew tb f ob ∧ Below B0 w wq ∧ B0 ≤ wq.heap.size) (fun _ i _ => L - (intOf i).toNat)
    case atStart =>
      refine ⟨0, B0 + 2, L, _, _, _, _, Nat.zero_le _, rfl, rfl, HO3.out, HG3.out, ?_, HB3.out, by omega⟩
      rintro (e | e | e | ⟨x, hx, _⟩)
      · omega
      · omega
      · cases e
      · have h1 : 1 ≤ x := hx.1; have h2 : x ≤ 0 := hx.2; omega
    case round =>
      obtain ⟨k, ob, oc, ew, tb, f, AL, hk, rfl, rfl, oO, hS, hP, hB, hz⟩ := hrel
      generalize wr = R1 at *
      clear HO3 HG3 HB3 hz3
      by_cases hlt : k < L
      · have hkl : k < es.length := by rw [HL.out]; exact hlt
        have hki : (k : Int) < (L : Int) := by omega
        obtain ⟨gb, off, rfl, hgw, hcs⟩ := hcell (by omega)
        obtain ⟨y0, y1, y2⟩ := RdGo.at hcs k hkl
        have z0 := (World.cell?_of_block (a := ⟨gb, off + k * 3, none⟩) (hB.block gb (by omega))).trans y0
        have z1 := (World.cell?_of_block (a := ⟨gb, off + k * 3 + 1, none⟩) (hB.block gb (by omega))).trans y1
        have z2 := (World.cell?_of_block (a := ⟨gb, off + k * 3 + 2, none⟩) (hB.block gb (by omega))).trans y2
        have hOk := stA_ok es k (by omega)
        have alG : Below R1.heap.size R1 (R1.alloc (.cells #[.int .i64 es[k].c, .int .i64 es[k].a, .int .i64 es[k].b] 45)) := (Below.refl _ _).alloc (Nat.le_refl _) _
        have hSG := hS.keep alG
        have hok := hvok _ (List.getElem_mem hkl)
        have hst := doI_any B0 (B0 + 1) B0 k ew tb f AL (stA es k) _ es[k] hok.2.1 hok.2.2 hSG hOk (by omega) (by have := alG.size; omega) (fun w1 b1 h1 => collectI_any B0 (B0 + 1) B0 k ew tb f AL (stA es k) w1 h1 hOk (by omega) (by have := alG.size; have := b1.size; omega))
        have hab := gans_ok hOk (by omega) es[k]
        have HS1 : Hid (stA es (k + 1) = (gstep (stA es k) es[k]).1) := stA_succ es k hkl
        have HO1 : Hid (outA es (k + 1) = outA es k ++ [(gstep (stA es k) es[k]).2]) := outA_succ es k hkl
        have HOL : Hid ((outA es k).length = k) := outA_len es k
        have HOk : Hid (Own R1 B0 (.slice (some ⟨ob, 0, none⟩) k oc) (outA es k)) := oO
        have hobz := (oO.lt ob rfl)
        have HSB : Hid (∀ b, PH (B0 + 1) B0 (stA es k).n ew tb f b → B0 ≤ b ∧ b < R1.heap.size) := fun b hp => hS.th.ph hp
        obtain ⟨AN, hAN⟩ : ∃ AN, (gstep (stA es k) es[k]).2 = AN := ⟨_, rfl⟩
        rw [hAN] at hst hab HO1
        obtain ⟨EC, hEC⟩ : ∃ EC, es[k].c = EC := ⟨_, rfl⟩
        obtain ⟨EA, hEA⟩ : ∃ EA, es[k].a = EA := ⟨_, rfl⟩
        obtain ⟨EB, hEB⟩ : ∃ EB, es[k].b = EB := ⟨_, rfl⟩
        rw [hEC] at z0
        rw [hEA] at z1
        rw [hEB] at z2
        rw [hEC, hEA, hEB] at hst alG
        clear y0 y1 y2 hcs hS hSG hOk hAN hEC hEA hEB oO hcell hok
        have HP : Hid (¬ PH (B0 + 1) B0 (stA es k).n ew tb f ob) := hP
        have HAG : Hid (Below R1.heap.size R1 (R1.alloc (.cells #[.int .i64 EC, .int .i64 EA, .int .i64 EB] 45))) := alG
        clear hP alG
        go_wp2_with fail
        refine hst.mono ?_
        intro e R2 hR2
        obtain ⟨he, ew', tb', f', AL', hS', hTs0⟩ := hR2
        subst he
        clear hst z0 z1 z2
        have hTs := (Fr.below (P := PH (B0 + 1) B0 (stA es k).n ew tb f) HAG.out).trans hTs0
        have hblk := hTs.kp.block ob hobz.2 HP.out
        have hz2 := hTs.kp.size
        have oO2 := HOk.out.same (w' := R2) (fun g e => by have e2 : ob = g := Option.some.inj e; rw [← e2]; exact hblk)
        have hP2 : ¬ PH (B0 + 1) B0 (gstep (stA es k) es[k]).1.n ew' tb' f' ob := fun hp => by
          rcases hTs.nw ob hp with h5 | h5
          · exact HP.out h5
          · omega
        have hB2 : Below B0 w R2 := hB.trans (hTs.kp.below hz (fun b hb hp => by have := (HSB.out b hp).1; omega))
        have alA : Below R2.heap.size R2 (R2.alloc (.cells #[.int .i64 AN] 2)) := (Below.refl _ _).alloc (Nat.le_refl _) _
        have oA := oO2.alloc (.cells #[.int .i64 AN] 2)
        have cA : (R2.alloc (.cells #[.int .i64 AN] 2)).cell? ⟨R2.heap.size, 0, none⟩ = some (.int .i64 AN) := by rw [World.cell?_alloc_at _ _ _ _ rfl]; rfl
        have HSA : Hid (GI (R2.alloc (.cells #[.int .i64 AN] 2)) B0 (B0 + 1) B0 ew' tb' f' AL' (gstep (stA es k) es[k]).1) := hS'.keep alA
        have HP2 : Hid (¬ PH (B0 + 1) B0 (gstep (stA es k) es[k]).1.n ew' tb' f' ob) := hP2
        have hlen : (outA es k).length + 1 ≤ 16777216 := by have := HOL.out; omega
        have hBA : B0 ≤ (R2.alloc (.cells #[.int .i64 AN] 2)).heap.size := by have := alA.size; omega
        have hab2 : -9223372036854775808 ≤ AN ∧ AN < 9223372036854775808 := by omega
        have hszA : (R2.alloc (.cells #[.int .i64 AN] 2)).heap.size = R2.heap.size + 1 := by simp
        obtain ⟨OA, hOA⟩ : ∃ OA, outA es k = OA := ⟨_, rfl⟩
        rw [hOA] at oA hlen HO1 HOL
        clear hOA hTs hTs0 hS' hP2 hblk HOk oO2 HP
        go_wp2_with (at_builtin; refine wpList_append_intL rfl (.tmp 24) (.tmp 27) 23 rfl Try.underlying23 B0 _ OA AN hab2 R2.heap.size 1 rfl rfl oA cA hlen hBA ?_; intro xb' xc' w' oT hg hl hz')
        have hSf := HSA.out.but (show (R2.alloc (.cells #[.int .i64 AN] 2)).grownBy w' (some ob) from hg) HP2.out
        rw [HOL.out] at oT
        try simp only [HOL.out]
        go_roundw
        case rel =>
          refine ⟨k + 1, xb', xc', ew', tb', f', AL', by omega, by go_num, by first | rfl | simp, ?_, ?_, ?_, ?_, ?_⟩
          · rw [HO1.out]; exact oT
          · rw [HS1.out]; exact hSf
          · rw [HS1.out]
            rcases hl with h5 | h5
            · have e2 : ob = xb' := Option.some.inj h5
              rw [← e2]; exact HP2.out
            · intro hp
              have := (HSA.out.th.ph hp).2
              omega
          · exact (hB2.trans (alA.mono (by omega))).trans (gb_to hg (fun q hq => by have : ob = q := Option.some.inj hq; omega) hBA)
          · have := hg.size; omega
        case measure => simp [intOf]; omega
      · obtain rfl : k = L := by omega
        have hki : ¬ (k : Int) < (k : Int) := by omega
        obtain ⟨b0, b1, b2, bf⟩ := hS.th.boxc
        have hA1 := HA.out
        rw [HL.out] at hA1
        have hoO : Own R1 w.heap.size (.slice (some ⟨ob, 0, none⟩) k oc) (ansG es) := by rw [hA1.1, hB0]; exact oO
        obtain ⟨ea, ec, he⟩ := hS.th.evs.form
        have hev := hS.th.evs
        rw [he] at hev b2
        have hoE : OwnG shGe 49 R1 w.heap.size (.slice ea (evG es).length ec) (evG es) := by rw [hA1.2, hB0]; exact hev
        rw [← hA1.2] at b2
        have hal : (ansG es).length = k := by rw [hA1.1]; exact outA_len es k
        have HOO : Hid (Own R1.drew w.heap.size (.slice (some ⟨ob, 0, none⟩) k oc) (ansG es)) := hoO.drew
        have HOE : Hid (OwnG shGe 49 R1.drew w.heap.size (.slice ea (evG es).length ec) (evG es)) := hoE.drew
        have HAL : Hid ((ansG es).length = k) := hal
        have HBB : Hid (Below w.heap.size w R1.drew) := by show Below _ _ _; rw [hB0]; exact hB.drew
        obtain ⟨EN, hEN⟩ : ∃ EN, (evG es).length = EN := ⟨_, rfl⟩
        have HEN : Hid ((evG es).length = EN) := hEN
        rw [hEN] at b2
        clear hoO hoE hev hal oO hS hP hA1 hEN he
        go_upto_region 10 with fail
        go_region
        go_wp2
        go_ret2
        exact RnP.mk ⟨some ⟨ob, 0, none⟩, oc, ea, ec, by rw [HAL.out, HEN.out]; rfl, by rw [HAL.out]; exact HOO.out, HOE.out, HBB.out⟩
end Go.Proofs.Ytjnalkeopehlbaa
