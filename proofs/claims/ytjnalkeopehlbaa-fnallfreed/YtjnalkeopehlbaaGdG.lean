import Derived.Test.YtjnalkeopehlbaaGdF
namespace Go.Proofs.Ytjnalkeopehlbaa
open Go.RowKit Go.Maps
set_option linter.unusedVariables false
set_option linter.unusedSimpArgs false

theorem SS.but {w w' : World} {B sb : Nat} {ov ew : Value} {S : Gs} {hs ts : Nat → Sl} (h : SS w B sb ov ew S hs ts) {row : Option Nat} (hg : w.grownBy w' row) (hne : ∀ b, row = some b → ¬ PFh sb ov ew S hs ts b) : SS w' B sb ov ew S hs ts := by
  obtain ⟨c, hc⟩ := h.box
  have ne : ∀ {v : Value}, (∀ b, v.ownBlock = some b → PFh sb ov ew S hs ts b) → v.ownBlock = none ∨ v.ownBlock ≠ row := fun {v} hv => by
    by_cases e : v.ownBlock = none
    · exact .inl e
    · obtain ⟨g, hg⟩ : ∃ g, v.ownBlock = some g := Option.ne_none_iff_exists'.1 e
      exact .inr (fun e2 => hne g (by rw [← e2]; exact hg) (hv g hg))
  exact ⟨⟨c, (hg.block sb h.lt (fun e => hne sb e.symm (.inl (.inl rfl)))).trans hc⟩, h.low, h.out.but hg (ne (fun b e => .inl (.inr (.inl e)))), h.ev.but hg (ne (fun b e => .inl (.inr (.inr e)))), fun x hx => (h.hr x hx).but hg (ne (fun b e => .inr ⟨x, hx, .inl e⟩)), fun x hx => (h.tr x hx).but hg (ne (fun b e => .inr ⟨x, hx, .inr e⟩)), h.ah, h.at', h.aht⟩
set_option maxRecDepth 100000 in
set_option maxHeartbeats 2000000 in
theorem gcRunS_any (v : Value) (es : List Gp) (w : World) (hr : RdGo w v es) :
    Calls Try.prog 17 #[v] w (RnP w es) := by
  obtain ⟨va, vc, rfl, hvl, hvok, hvc, hcell⟩ := id hr
  have al1 : Below w.heap.size w (w.alloc (.cells #[] 2)) := (Below.refl _ _).alloc (Nat.le_refl _) _
  have o1 := Own.empty w
  have al2 := al1.alloc al1.size (.cells #[] 49)
  have o2 := o1.alloc (.cells #[] 49)
  have v2 := OwnG.emptyS shGe 49 (w.alloc (.cells #[] 2))
  by_cases hbig : 2000 < es.length
  · have hbi : (2000 : Int) < (es.length : Int) := by omega
    have HA : Hid (ansG es = [] ∧ evG es = []) := ⟨by unfold ansG; rw [if_neg (by omega)], by unfold evG; rw [if_neg (by omega)]⟩
    go_enter Try.func17, Try.ntmps17
    go_wp2
    go_ret2
    refine RnP.mk ⟨some ⟨w.heap.size, 0, none⟩, 0, some ⟨(w.alloc (.cells #[] 2)).heap.size, 0, none⟩, 0, ?_, ?_, ?_, al2⟩
    · rw [HA.out.1, HA.out.2]; first | rfl | simp
    · rw [HA.out.1]; exact o2
    · rw [HA.out.2]; exact v2.mono (by simp)
  · have hbi : ¬ (2000 : Int) < (es.length : Int) := by omega
    have HA : Hid (ansG es = outA es es.length ∧ evG es = evL (stA es es.length).ev) := ⟨by unfold ansG; rw [if_pos (by omega)], by unfold evG; rw [if_pos (by omega)]⟩
    obtain ⟨B0, hB0⟩ : ∃ B0, w.heap.size = B0 := ⟨_, rfl⟩
    have hs1 : (w.alloc (.cells #[] 2)).heap.size = B0 + 1 := by rw [World.size_alloc, hB0]
    have hs2 : ((w.alloc (.cells #[] 2)).alloc (.cells #[] 49)).heap.size = B0 + 2 := by rw [World.size_alloc, hs1]
    rw [hB0] at o2 al1 al2
    rw [hs1] at v2
    have o3 := o2.alloc (.cells #[.slice none 0 0, .slice (some ⟨B0 + 1, 0, none⟩) 0 0, .int .i64 0] 65)
    have v3 := (v2.mono (show B0 ≤ B0 + 1 by omega)).alloc (.cells #[.slice none 0 0, .slice (some ⟨B0 + 1, 0, none⟩) 0 0, .int .i64 0] 65)
    have al3 := al2.alloc (by omega) (.cells #[.slice none 0 0, .slice (some ⟨B0 + 1, 0, none⟩) 0 0, .int .i64 0] 65)
    have hbx : (((w.alloc (.cells #[] 2)).alloc (.cells #[] 49)).alloc (.cells #[.slice none 0 0, .slice (some ⟨B0 + 1, 0, none⟩) 0 0, .int .i64 0] 65)).heap[B0 + 2]? = some (.cells #[.slice none 0 0, .slice (some ⟨B0 + 1, 0, none⟩) 0 0, .int .i64 0] 65 (0, 0)) := by
      have := heap_alloc_new ((w.alloc (.cells #[] 2)).alloc (.cells #[] 49)) (.cells #[.slice none 0 0, .slice (some ⟨B0 + 1, 0, none⟩) 0 0, .int .i64 0] 65)
      rw [hs2] at this
      exact this
    have hSS := SS.start (B := B0) (hs := fun _ => ⟨none, 0, 0⟩) (ts := fun _ => ⟨none, 0, 0⟩) hbx (by omega) v3
    have HS0 : Hid (SS (((w.alloc (.cells #[] 2)).alloc (.cells #[] 49)).alloc (.cells #[.slice none 0 0, .slice (some ⟨B0 + 1, 0, none⟩) 0 0, .int .i64 0] 65)) B0 (B0 + 2) (.slice none 0 0) (.slice (some ⟨B0 + 1, 0, none⟩) 0 0) gs0 (fun _ => ⟨none, 0, 0⟩) (fun _ => ⟨none, 0, 0⟩)) := hSS
    have HO0 : Hid (Own (((w.alloc (.cells #[] 2)).alloc (.cells #[] 49)).alloc (.cells #[.slice none 0 0, .slice (some ⟨B0 + 1, 0, none⟩) 0 0, .int .i64 0] 65)) B0 (.slice (some ⟨B0, 0, none⟩) 0 0) []) := o3
    have hs3 : (((w.alloc (.cells #[] 2)).alloc (.cells #[] 49)).alloc (.cells #[.slice none 0 0, .slice (some ⟨B0 + 1, 0, none⟩) 0 0, .int .i64 0] 65)).heap.size = B0 + 3 := by rw [World.size_alloc, hs2]
    obtain ⟨L, hL⟩ : ∃ L, es.length = L := ⟨_, rfl⟩
    have HL : Hid (es.length = L) := hL
    rw [hL] at hbi
    simp only [hL]
    have hLb : L ≤ 2000 := by omega
    clear hSS o1 o2 o3 v2 v3 al1 al2 hbx hL hbig hr hvl hvc
    go_enter Try.func17, Try.ntmps17
    go_upto_region 5 with fail
    try simp only [hB0, hs1, hs2]
    generalize ((w.alloc (.cells #[] 2)).alloc (.cells #[] 49)).alloc (.cells #[.slice none 0 0, .slice (some ⟨B0 + 1, 0, none⟩) 0 0, .int .i64 0] 65) = W3 at *
    clear hs1 hs2
    go_wp2_with fail
    go_loopw [4, 6] (fun q i wq => ∃ (k ob oc : Nat) (ov ew : Value) (hs ts : Nat → Sl), k ≤ L ∧ i = .int .i64 k ∧ q = .slice (some ⟨ob, 0, none⟩) k oc ∧ Own wq B0 (.slice (some ⟨ob, 0, none⟩) k oc) (outA es k) ∧ SS wq B0 (B0 + 2) ov ew (stA es k) hs ts ∧ ¬ PFh (B0 + 2) ov ew (stA es k) hs ts ob ∧ Below B0 w wq ∧ B0 ≤ wq.heap.size) (fun _ i _ => L - (intOf i).toNat)
    case atStart =>
      refine ⟨0, B0, 0, _, _, _, _, Nat.zero_le _, rfl, rfl, HO0.out, HS0.out, ?_, al3, by omega⟩
      rintro ((e | e | e) | ⟨x, hx, _⟩)
      · omega
      · cases e
      · have : B0 + 1 = B0 := Option.some.inj e; omega
      · cases hx
    case round =>
      obtain ⟨k, ob, oc, ov, ew, hs, ts, hk, rfl, rfl, oO, hS, hP, hB, hz⟩ := hrel
      generalize wr = R1 at *
      clear HO0 HS0 hs3 al3
      by_cases hlt : k < L
      · have hkl : k < es.length := by rw [HL.out]; exact hlt
        have hki : (k : Int) < (L : Int) := by omega
        obtain ⟨gb, off, rfl, hgw, hcs⟩ := hcell (by omega)
        obtain ⟨y0, y1, y2⟩ := RdGo.at hcs k hkl
        have z0 := (World.cell?_of_block (a := ⟨gb, off + k * 3, none⟩) (hB.block gb (by omega))).trans y0
        have z1 := (World.cell?_of_block (a := ⟨gb, off + k * 3 + 1, none⟩) (hB.block gb (by omega))).trans y1
        have z2 := (World.cell?_of_block (a := ⟨gb, off + k * 3 + 2, none⟩) (hB.block gb (by omega))).trans y2
        have hOk := stA_ok es k (by omega)
        have hst := stepG_any B0 (B0 + 2) k ov ew (stA es k) hs ts es[k] R1 hS hOk (by omega) (by omega) (hvok _ (List.getElem_mem hkl))
        have hab := gans_ok hOk (by omega) es[k]
        have HS1 : Hid (stA es (k + 1) = (gstep (stA es k) es[k]).1) := stA_succ es k hkl
        have HO1 : Hid (outA es (k + 1) = outA es k ++ [(gstep (stA es k) es[k]).2]) := outA_succ es k hkl
        have HOL : Hid ((outA es k).length = k) := outA_len es k
        have HOk : Hid (Own R1 B0 (.slice (some ⟨ob, 0, none⟩) k oc) (outA es k)) := oO
        have hobz := (oO.lt ob rfl)
        have HSB : Hid (∀ b, PFh (B0 + 2) ov ew (stA es k) hs ts b → B0 ≤ b ∧ b < R1.heap.size) := fun b hp => hS.base hp
        obtain ⟨AN, hAN⟩ : ∃ AN, (gstep (stA es k) es[k]).2 = AN := ⟨_, rfl⟩
        rw [hAN] at hst hab HO1
        obtain ⟨EC, hEC⟩ : ∃ EC, es[k].c = EC := ⟨_, rfl⟩
        obtain ⟨EA, hEA⟩ : ∃ EA, es[k].a = EA := ⟨_, rfl⟩
        obtain ⟨EB, hEB⟩ : ∃ EB, es[k].b = EB := ⟨_, rfl⟩
        rw [hEC] at z0 hst
        rw [hEA] at z1 hst
        rw [hEB] at z2 hst
        clear y0 y1 y2 hcs hS hOk hAN hEC hEA hEB oO hcell
        have HP : Hid (¬ PFh (B0 + 2) ov ew (stA es k) hs ts ob) := hP
        clear hP
        go_wp2_with fail
        refine hst.mono ?_
        intro e R2 hR2
        obtain ⟨he, ov', ew', hs', ts', hS', hTs⟩ := hR2
        subst he
        clear hst z0 z1 z2
        have hblk := hTs.kp.block ob hobz.2 HP.out
        have hz2 := hTs.kp.size
        have oO2 := HOk.out.same (w' := R2) (fun g e => by have e2 : ob = g := Option.some.inj e; rw [← e2]; exact hblk)
        have hP2 : ¬ PFh (B0 + 2) ov' ew' (gstep (stA es k) es[k]).1 hs' ts' ob := fun hp => by
          rcases hTs.nw ob hp with h5 | h5
          · exact HP.out h5
          · omega
        have hB2 : Below B0 w R2 := hB.trans (hTs.kp.below hz (fun b hb hp => by have := (HSB.out b hp).1; omega))
        have alA : Below R2.heap.size R2 (R2.alloc (.cells #[.int .i64 AN] 2)) := (Below.refl _ _).alloc (Nat.le_refl _) _
        have oA := oO2.alloc (.cells #[.int .i64 AN] 2)
        have cA : (R2.alloc (.cells #[.int .i64 AN] 2)).cell? ⟨R2.heap.size, 0, none⟩ = some (.int .i64 AN) := by rw [World.cell?_alloc_at _ _ _ _ rfl]; rfl
        have hSA := hS'.keep alA
        have HSA : Hid (SS (R2.alloc (.cells #[.int .i64 AN] 2)) B0 (B0 + 2) ov' ew' (gstep (stA es k) es[k]).1 hs' ts') := hSA
        have HP2 : Hid (¬ PFh (B0 + 2) ov' ew' (gstep (stA es k) es[k]).1 hs' ts' ob) := hP2
        have hlen : (outA es k).length + 1 ≤ 16777216 := by have := HOL.out; omega
        have hBA : B0 ≤ (R2.alloc (.cells #[.int .i64 AN] 2)).heap.size := by have := alA.size; omega
        have hab2 : -9223372036854775808 ≤ AN ∧ AN < 9223372036854775808 := by omega
        have hszA : (R2.alloc (.cells #[.int .i64 AN] 2)).heap.size = R2.heap.size + 1 := by simp
        obtain ⟨OA, hOA⟩ : ∃ OA, outA es k = OA := ⟨_, rfl⟩
        rw [hOA] at oA hlen HO1 HOL
        clear hOA hTs hS' hSA hP2 hblk HOk oO2 HP
        go_wp2_with (at_builtin; refine wpList_append_intL rfl (.tmp 22) (.tmp 29) 23 rfl Try.underlying23 B0 _ OA AN hab2 R2.heap.size 1 rfl rfl oA cA hlen hBA ?_; intro xb' xc' w' oT hg hl hz')
        have hSf := HSA.out.but (show (R2.alloc (.cells #[.int .i64 AN] 2)).grownBy w' (some ob) from hg) (fun b e => by have e2 : ob = b := Option.some.inj e; rw [← e2]; exact HP2.out)
        rw [HOL.out] at oT
        try simp only [HOL.out]
        go_roundw
        case rel =>
          refine ⟨k + 1, xb', xc', ov', ew', hs', ts', by omega, by go_num, by first | rfl | simp, ?_, ?_, ?_, ?_, ?_⟩
          · rw [HO1.out]; exact oT
          · rw [HS1.out]; exact hSf
          · rw [HS1.out]
            rcases hl with h5 | h5
            · have e2 : ob = xb' := Option.some.inj h5
              rw [← e2]; exact HP2.out
            · intro hp
              have := (HSA.out.base hp).2
              omega
          · exact (hB2.trans (alA.mono (by omega))).trans (gb_to hg (fun q hq => by have : ob = q := Option.some.inj hq; omega) hBA)
          · have := hg.size; omega
        case measure => simp [intOf]; omega
      · obtain rfl : k = L := by omega
        have hki : ¬ (k : Int) < (k : Int) := by omega
        obtain ⟨c, b0, b1, b2, bf⟩ := hS.boxc
        have hA1 := HA.out
        rw [HL.out] at hA1
        have hoO : Own R1 w.heap.size (.slice (some ⟨ob, 0, none⟩) k oc) (ansG es) := by rw [hA1.1, hB0]; exact oO
        obtain ⟨ea, ec, he⟩ := hS.ev.form
        have hev := hS.ev
        rw [he] at hev b1
        have hoE : OwnG shGe 49 R1 w.heap.size (.slice ea (evG es).length ec) (evG es) := by rw [hA1.2, hB0]; exact hev
        rw [← hA1.2] at b1
        have hal : (ansG es).length = k := by rw [hA1.1]; exact outA_len es k
        have HOO : Hid (Own R1.drew w.heap.size (.slice (some ⟨ob, 0, none⟩) k oc) (ansG es)) := hoO.drew
        have HOE : Hid (OwnG shGe 49 R1.drew w.heap.size (.slice ea (evG es).length ec) (evG es)) := hoE.drew
        have HAL : Hid ((ansG es).length = k) := hal
        have HBB : Hid (Below w.heap.size w R1.drew) := by show Below _ _ _; rw [hB0]; exact hB.drew
        obtain ⟨EN, hEN⟩ : ∃ EN, (evG es).length = EN := ⟨_, rfl⟩
        have HEN : Hid ((evG es).length = EN) := hEN
        rw [hEN] at b1
        clear hoO hoE hev hal oO hS hP hA1 hEN he
        go_upto_region 9 with fail
        go_region
        go_wp2
        go_ret2
        exact RnP.mk ⟨some ⟨ob, 0, none⟩, oc, ea, ec, by rw [HAL.out, HEN.out]; rfl, by rw [HAL.out]; exact HOO.out, HOE.out, HBB.out⟩
end Go.Proofs.Ytjnalkeopehlbaa
