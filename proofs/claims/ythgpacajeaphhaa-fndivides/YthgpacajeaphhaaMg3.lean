import Derived.Test.YthgpacajeaphhaaMg2
import Derived.Laws.CopyOwn
import Derived.Test.YthgpacajeaphhaaMg1
import Derived.Test.YthgpacajeaphhaaCmpR
namespace Go.Proofs.Ythgpacajeaphhaa
open Go.RowKit
set_option linter.unusedVariables false
set_option linter.unusedSimpArgs false

theorem splice_short (zs : List Int) (n : Nat) (h : zs.length ≤ n) : splice ((List.replicate n (0 : Int)).map (Value.int .u32)) 0 (zs.map (Value.int .u32)) = (zs ++ List.replicate (n - zs.length) 0).map (Value.int .u32) := map_splice zs n h
/-- What the walk need not see. -/
def LongS (xs os : List Int) (s : Nat) (Yd Rs0 : List Int) : Prop :=
  val Yd = val os * 2 ^ s ∧ val Rs0 = val xs * 2 ^ s ∧ 2147483648 * 4294967296 ^ (os.length - 1) ≤ val Yd ∧ val Rs0 < val Yd * 4294967296 ^ (xs.length - os.length + 1)
def LongE (xs os : List Int) (s : Nat) (A D : Nat) : Prop := ∀ Qs Rs : List Int, LongF A D 0 Qs Rs → val Qs = val xs / val os ∧ val Rs / 2 ^ s = val xs % val os

theorem Own.keepB {w w' : World} {B G g n c : Nat} {zs : List Int} (h : Own w B (.slice (some ⟨g, 0, none⟩) n c) zs) (hb : Below G w w') (hlt : g < G) : Own w' B (.slice (some ⟨g, 0, none⟩) n c) zs := by
  obtain ⟨⟨h1, h2⟩, hl, hz⟩ := h
  refine ⟨⟨h1, ?_⟩, hl, hz⟩
  rcases h2 with h2 | ⟨g', cap, cur, hv, hg, hh, r⟩
  · exact .inl h2
  · refine .inr ⟨g', cap, cur, hv, hg, ?_, r⟩
    simp only [Value.slice.injEq, Option.some.injEq, Addr.mk.injEq] at hv
    rw [hb.block g' (by omega)]; exact hh
def TopF (ln : Nat) (Yd : List Int) : Prop := 2147483648 * 4294967296 ^ (ln - 1) ≤ val Yd ∧ 0 < val Yd
def NextF (A D i qd : Nat) (Qs Lo Aw Hi : List Int) : Prop := ∀ U : List Int, U.length = Aw.length → val U = val Aw % D → LongF A D i ((qd : Int) :: Qs) (Lo ++ (U ++ Hi))
def DnF (Yd : List Int) (n : Nat) : Prop := val Yd < 4294967296 ^ n
def LQF (xs os : List Int) (s : Nat) (LQ LR : List Int) : Prop := LQ = lim (val xs / val os) ∧ LR = lim (val xs % val os)
def NumF (lm ln l1 nq : Nat) (xs os : List Int) : Prop := lm = xs.length ∧ ln = os.length ∧ ln = l1 + 1 ∧ nq = lm - ln + 1 ∧ 2 ≤ ln ∧ ln ≤ lm

set_option maxHeartbeats 4000000 in
set_option maxRecDepth 100000 in
theorem longDividedBy_any (v u : Value) (xs os : List Int) (w : World) (hx : Rd w v xs) (ho : Rd w u os) (hn : Norm os) (h2 : 2 ≤ os.length) (hl : os.length ≤ xs.length) (hlx : xs.length ≤ 1000000) :
    Calls Try.prog 68 #[v, u] w fun e w' => ∃ a c a' c', e = .returned (.tuple #[.slice a (lim (val xs / val os)).length c, .slice a' (lim (val xs % val os)).length c']) ∧ Own w' w.heap.size (.slice a (lim (val xs / val os)).length c) (lim (val xs / val os)) ∧ (∃ wm : World, Own wm w.heap.size (.slice a (lim (val xs / val os)).length c) (lim (val xs / val os)) ∧ Own w' wm.heap.size (.slice a' (lim (val xs % val os)).length c') (lim (val xs % val os)) ∧ w.heap.size ≤ wm.heap.size ∧ wm.heap.size ≤ w'.heap.size) ∧ Below w.heap.size w w' := by
  have hx0 := hx
  have ho0 := ho
  obtain ⟨a, cap, rfl, _, hzx, hnx, hcx⟩ := hx
  obtain ⟨a', cap', rfl, _, hzo, hno, hco⟩ := ho
  clear hcx hnx hno
  obtain ⟨b', off', rfl, hb', hcell'⟩ := hco (by omega)
  have hct := hcell' (os.length - 1) (by omega)
  have htb := hzo.get (os.length - 1)
  obtain ⟨s, hs⟩ : ∃ s, s = 32 - Lib.bitLen (os.getD (os.length - 1) 0).toNat := ⟨_, rfl⟩
  obtain ⟨f1, f2, f3, f4, f5, f6⟩ := long_start hzx hzo hn h2 hl s hs
  have hlz := fun W => lz32_any (os.getD (os.length - 1) 0) W htb.1 htb.2
  rw [show (32 - (Lib.bitLen (os.getD (os.length - 1) 0).toNat : Int)) = (s : Int) from by omega] at hlz
  generalize os.getD (os.length - 1) 0 = tp at *
  have hUo := fun W h => movedUp_any (.slice (some ⟨b', off', none⟩) os.length cap') os s W h (by omega) (by omega)
  have hUx := fun W h => movedUp_any (.slice a xs.length cap) xs s W h (by omega) (by omega)
  have hDn : val os * 2 ^ s < 4294967296 ^ os.length := by have := val_lt (lim_limbs (val os * 2 ^ s)); rw [val_lim, f4] at this; exact this
  have hov : 0 < val os := by have := le_val hzo hn (by omega); have h1 : 0 < 4294967296 ^ (os.length - 1) := Nat.pow_pos (by decide); omega
  have hLE : LongE xs os s (val xs * 2 ^ s) (val os * 2 ^ s) := fun Qs Rs h => long_end hov rfl rfl (by simpa [LongF] using h.1) (by simpa [LongF] using h.2)
  obtain ⟨Yd, hYd⟩ : ∃ Yd, Yd = lim (val os * 2 ^ s) := ⟨_, rfl⟩
  obtain ⟨X1, hX1⟩ : ∃ X1, X1 = lim (val xs * 2 ^ s) := ⟨_, rfl⟩
  have hYv : val Yd = val os * 2 ^ s := by rw [hYd, val_lim]
  have hXv : val X1 = val xs * 2 ^ s := by rw [hX1, val_lim]
  have hzX1 : Limbs X1 := by rw [hX1]; exact lim_limbs _
  rw [← hYd] at f4 hUo
  rw [← hX1] at f6 hUx
  obtain ⟨LQ, hLQ⟩ : ∃ LQ, LQ = lim (val xs / val os) := ⟨_, rfl⟩
  obtain ⟨LR, hLR⟩ : ∃ LR, LR = lim (val xs % val os) := ⟨_, rfl⟩
  rw [← hLQ, ← hLR]
  have HS : LongS xs os s Yd X1 := ⟨hYv, hXv, by rw [hYv]; exact f3, by rw [hYv, hXv]; exact f5⟩
  have HLE : LongE xs os s (val X1) (val Yd) := by rw [hXv, hYv]; exact hLE
  have HDn : DnF Yd os.length := by show val Yd < _; rw [hYv]; exact hDn
  have hzYd : Limbs Yd := by rw [hYd]; exact lim_limbs _
  have HQ : LQF xs os s LQ LR := ⟨hLQ, hLR⟩
  obtain ⟨lm, hlm⟩ : ∃ lm, lm = xs.length := ⟨_, rfl⟩
  obtain ⟨ln, hln⟩ : ∃ ln, ln = os.length := ⟨_, rfl⟩
  obtain ⟨l1, hl1⟩ : ∃ l1, ln = l1 + 1 := ⟨ln - 1, by omega⟩
  obtain ⟨nq, hnq⟩ : ∃ nq, nq = lm - ln + 1 := ⟨_, rfl⟩
  rw [← hln] at f4 h2 hl ho0 hUo HDn ⊢
  rw [← hlm] at f6 hl hlx hx0 hUx ⊢
  rw [← hln, show ln - 1 = l1 from by omega] at hct
  have i1 : (ln : Int) - 1 = (l1 : Int) := by omega
  have i2 : (l1 : Int) < (ln : Int) := by omega
  have i3 : (lm : Int) - (ln : Int) + 1 = (nq : Int) := by omega
  have i4 : nq ≤ 1000001 := by omega
  have i5 : ln ≤ 1000000 := by omega
  have HN : NumF lm ln l1 nq xs os := ⟨hlm, hln, hl1, hnq, h2, hl⟩
  clear f3 f5 hYv hXv hDn hLE hov hs f2 htb hcell' hco hYd hX1 hLQ hLR hlm hln hl1 hnq hn hzx hzo
  obtain ⟨i0, hi, hz0, hz1, hz2⟩ := info_parts Try.info49
  have hszm : (Try.prog.info? 49).map (·.size) = some 1 := by rw [hi]; simp [hz1]
  have hone : ∀ z ∈ X1.map (Value.int .u32), z.oneCell' = true := by
    intro z hz
    obtain ⟨y, _, rfl⟩ := List.mem_map.mp hz
    rfl
  have hnl : (X1.map (Value.int .u32)).length = Nat.min X1.length (lm + 1) := by rw [List.length_map]; exact (Nat.min_eq_left f6).symm
  have hsp := splice_short X1 (lm + 1) f6
  obtain ⟨Rs0, hRs0⟩ : ∃ Rs0, Rs0 = X1 ++ List.replicate (lm + 1 - X1.length) (0 : Int) := ⟨_, rfl⟩
  have hRl : Rs0.length = lm + 1 := by rw [hRs0]; simp; omega
  have hRv : val Rs0 = val X1 := by rw [hRs0, val_append, val_zeros]; simp
  have hRz : Limbs Rs0 := by rw [hRs0]; exact hzX1.append (Limbs.zeros _)
  rw [← hRs0] at hsp
  clear hRs0
  have hfit : 0 + (X1.map (Value.int .u32)).length ≤ ((List.replicate (lm + 1) (0 : Int)).map (Value.int .u32)).length := by simp; omega
  have hsrc := fun W a c (h : Rd W (.slice a X1.length c) X1) => h.src
  have hrow : ∀ {W : World} {B g : Nat}, Own W B (.slice (some ⟨g, 0, none⟩) (lm + 1) (lm + 1)) (List.replicate (lm + 1) 0) → W.heap[g]? = some (.cells ((List.replicate (lm + 1) (0 : Int)).map (Value.int .u32)).toArray 49 (0, 0)) := fun h => h.row.1
  obtain ⟨XS, hXS⟩ : ∃ XS, XS = X1.map (Value.int .u32) := ⟨_, rfl⟩
  obtain ⟨ZS, hZS⟩ : ∃ ZS, ZS = (List.replicate (lm + 1) (0 : Int)).map (Value.int .u32) := ⟨_, rfl⟩
  rw [← hXS] at hsp hfit hone hnl hsrc
  rw [← hZS] at hsp hfit hrow
  have HSP : Hid _ := hsp
  have HRV : Hid (val Rs0 = val X1) := hRv
  clear hsp hXS hZS hRv
  go_enter Try.func68, Try.ntmps68
  go_wp2_with fail
  refine (hlz _).mono ?_
  rintro e w0 ⟨rfl, rfl⟩
  clear hlz hct
  go_wp2_with fail
  refine (hUo _ ho0).mono ?_
  rintro e w1 ⟨ad, cd, rfl, oD, hB1⟩
  clear hUo
  have hB1' := hB1
  rw [f4] at oD ⊢
  have hWs := hB1.size
  obtain ⟨gd, rfl, hgd⟩ : ∃ gd, ad = some ⟨gd, 0, none⟩ ∧ w0.heap.size ≤ gd ∧ gd < w1.heap.size := by
    rcases oD.shape with ⟨_, h0⟩ | ⟨gd, cp, hv, h1, h2, _⟩
    · rw [h0] at f4; simp at f4; omega
    · simp only [Value.slice.injEq] at hv
      exact ⟨gd, hv.1, h1, h2⟩
  clear hB1
  have hW1 : Below w0.heap.size w0 w1 := hB1'
  go_wp2_with (at_make; refine wpList_make_full _ rfl _ _ 47 rfl w1.heap.size 49 i0 (.int .u32 0) 1 Try.underlying47 hi hz0 hz1 .i64 .i64 _ _ (lm + 1) rfl rfl (by go_num) (by go_num) (by rw [hz2]; omega) (by unfold maxLen; omega) (Nat.le_refl _) ?_; intro w2 hown hgrow)
  have oR : Own w2 w1.heap.size _ (List.replicate (lm + 1) 0) := Own.made (by omega) hown
  have hB2 := (Below.refl w1.heap.size w1).grown hgrow (Nat.le_refl _) (by intro k h; cases h)
  have lr := (oR.lt w1.heap.size rfl).2
  obtain ⟨gr, hgr⟩ : ∃ gr, gr = w1.heap.size := ⟨_, rfl⟩
  have hW2 := hW1.trans (hB2.mono hW1.size)
  have oD2 := oD.keep hB2
  rw [← hgr] at oR lr hgd hWs ⊢
  clear hown hgrow hB2 oD hW1 hgr
  refine (hUx _ (hx0.keep hW2)).mono ?_
  rintro e w3 ⟨ax, cx, rfl, oX, hB3⟩
  clear hUx
  have oR3 := oR.keep hB3
  have hr3 := hrow oR3
  have hW3 := hW2.trans (hB3.mono hW2.size)
  have oD3 := oD2.keep hB3
  have hsz3 := hB3.size
  clear oR oD2 hW2 hB3
  have hlnm : (ln : Int) ≤ (lm : Int) := by omega
  go_wp2_with (first | (refine wpList_copy_splice rfl (.tmp 25) (.tmp 28) 47 47 rfl 49 Try.underlying47 hszm _ _ (lm + 1) (lm + 1) X1.length cx rfl rfl gr 0 ZS 49 hr3 XS hnl (fun h => ⟨rfl, hsrc _ _ _ oX.rd h⟩) hfit hone gr w3 (Below.refl _ _) (Nat.le_refl _) ?_; intro w4 HG4 hB4) | (at_make; refine wpList_make_full _ rfl _ _ 47 rfl w4.heap.size 49 i0 (.int .u32 0) 1 Try.underlying47 hi hz0 hz1 .i64 .i64 _ _ nq rfl rfl (by first | rfl | go_num | omega) (by first | rfl | go_num | omega) (by rw [hz2]; omega) (by unfold maxLen; omega) (Nat.le_refl _) ?_; intro w5 hown hgrow))
  have hW4 := hW3.trans (hB4.mono (by omega))
  have oD4 := oD3.keepB hB4 (by omega)
  have oR4 : Own w4 gr (.slice (some ⟨gr, 0, none⟩) (lm + 1) (lm + 1)) Rs0 := by
    have h := HG4.out
    rw [HSP.out] at h
    have := Own.ofRow (B := gr) h (Nat.le_refl _) (by omega) hRz
    rw [hRl] at this; exact this
  have oQ : Own w5 w4.heap.size _ (List.replicate nq 0) := Own.made (by omega) hown
  have hB5 := (Below.refl w4.heap.size w4).grown hgrow (Nat.le_refl _) (by intro k h; cases h)
  have hW5 := hW4.trans (hB5.mono hW4.size)
  have oD5 := oD4.keep hB5
  have oR5 := oR4.keep hB5
  have lr4 := (oR4.lt gr rfl).2
  have lq := (oQ.lt w4.heap.size rfl).2
  have lnr : gd < gr := hgd.2
  have ld0 : w0.heap.size ≤ gd := hgd.1
  obtain ⟨gq, hgq⟩ : ∃ gq, gq = w4.heap.size := ⟨_, rfl⟩
  rw [← hgq] at oQ lr4 lq ⊢
  clear hown hgrow hB5 oD4 oR4 hW4 hgq hB4 HG4 hr3 oD3 hW3 oR3 oX hrow hsrc hszm hone hnl hfit hi hz0 hz1 hz2 HSP hgd lr hsz3 hx0 ho0
  obtain ⟨hlm, hln, hl1, hnq, -, -⟩ := id HN
  have HL0 : LongF (val X1) (val Yd) nq [] Rs0 := by
    refine ⟨by rw [HRV.out]; simp [val], ?_⟩
    have h := HS.2.2.2
    rw [← hlm, ← hln, ← hnq] at h
    rw [HRV.out]; exact h
  have hYp : 0 < val Yd := by have h := HS.2.2.1; have : 0 < 2147483648 * 4294967296 ^ (os.length - 1) := Nat.mul_pos (by decide) (Nat.pow_pos (by decide)); omega
  have HYT : TopF ln Yd := by have h := HS.2.2.1; rw [← hln] at h; exact ⟨h, hYp⟩
  clear hlm hln hl1 hnq hYp HRV
  go_loopw [10] (fun i wr => ∃ (j : Nat) (Qs Rs : List Int), j ≤ nq ∧ i = .int .i64 ((j : Int) - 1) ∧ Qs.length + j = nq ∧ Rs.length = lm + 1 ∧ Own wr gq (.slice (some ⟨gq, 0, none⟩) nq nq) (List.replicate j 0 ++ Qs) ∧ Own wr gr (.slice (some ⟨gr, 0, none⟩) (lm + 1) (lm + 1)) Rs ∧ Own wr w0.heap.size (.slice (some ⟨gd, 0, none⟩) ln cd) Yd ∧ LongF (val X1) (val Yd) j Qs Rs ∧ Below w0.heap.size w0 wr ∧ gq < wr.heap.size) (fun i _ => (intOf i + 1).toNat)
  case atStart => exact ⟨nq, [], Rs0, Nat.le_refl _, by go_num, by simp, hRl, by simpa using oQ, oR5, oD5, HL0, hW5, lq⟩
  case round =>
    clear oQ oR5 oD5 hW5 HL0 lq
    obtain ⟨j, Qs, Rs, hj, rfl, hQl, hRsl, oQ, oR, oD, HL, hWr, lq⟩ := hrel
    by_cases hj0 : j = 0
    · subst hj0
      rw [List.replicate_zero, List.nil_append] at oQ
      obtain ⟨e1, e2⟩ := HLE Qs Rs HL
      obtain ⟨q1, q2⟩ := id HQ
      have hTq := trimmed_any gq nq nq (some ⟨gq, 0, none⟩) Qs wr oQ
      rw [e1, ← q1] at hTq
      have hTr := trimmed_any gr (lm + 1) (lm + 1) (some ⟨gr, 0, none⟩) Rs wr oR
      have hLl : (lim (val Rs)).length ≤ 1048576 := Nat.le_trans (lim_length_le (val_lt oR.2.2)) (by omega)
      have hMd := fun W u h => movedDown_any u (lim (val Rs)) s W h hLl (by omega)
      rw [val_lim, e2, ← q2] at hMd
      generalize lim (val Rs) = LT at hTr hMd
      clear e1 e2 q1 q2 HL HLE HQ HS HYT HN oQ oR oD hLl
      go_wp2_with fail
      refine hTq.mono ?_
      rintro e w6 ⟨a6, c6, rfl, o6, rfl⟩
      clear hTq
      go_wp2_with fail
      refine hTr.mono ?_
      rintro e w7 ⟨a7, c7, rfl, o7, rfl⟩
      clear hTr
      go_wp2_with fail
      refine (hMd _ _ o7.rd).mono ?_
      rintro e w8 ⟨a8, c8, rfl, o8, hB8⟩
      clear hMd
      go_wp2
      refine bodyPost_ret (v := .tuple #[.slice a6 LQ.length c6, .slice a8 LR.length c8]) (by simp [results, Try.results68, go_sem]) rfl ⟨a6, c6, a8, c8, rfl, (o6.keep hB8).mono (by omega), ⟨_, o6.mono (by omega), o8, hWr.size, hB8.size⟩, hWr.trans (hB8.mono hWr.size)⟩
    · obtain ⟨i, rfl⟩ : ∃ i, j = i + 1 := ⟨j - 1, by omega⟩
      have hij : (((i + 1 : Nat) : Int) - 1) = (i : Int) := by omega
      rw [hij]
      obtain ⟨hlm, hln, hl1, hnq, hn2, hnm⟩ := id HN
      obtain ⟨Lo, Aw, Hi, rfl, hLo, hAw⟩ : ∃ Lo Aw Hi : List Int, Rs = Lo ++ (Aw ++ Hi) ∧ Lo.length = i ∧ Aw.length = ln + 1 := ⟨Rs.take i, (Rs.drop i).take (ln + 1), (Rs.drop i).drop (ln + 1), by rw [List.take_append_drop, List.take_append_drop], by simp; omega, by simp; omega⟩
      obtain ⟨hlt, hnext⟩ := long_round HYT.2 HDn oR.2.2 hLo hAw HL
      obtain ⟨nn, hnn⟩ : ∃ nn, ln = nn + 2 := ⟨ln - 2, by omega⟩
      have hMF : MostF nn Aw Yd := ⟨by omega, by omega, fun z hz => oR.2.2 z (by simp [hz]), hzYd, by have h := HYT.1; rw [show ln - 1 = nn + 1 from by omega] at h; exact h, hlt⟩
      have hK := takeMost_any gr gr (lm + 1) i (lm + 1 - i) gd 0 cd nn (ln + 1) ln (by omega) hnn Lo Aw Hi Yd wr oR hLo hMF (fun W h => (oD.but h (by simp [Value.ownBlock]; omega)).rd) (by omega) (by omega)
      obtain ⟨qd, hqd⟩ : ∃ qd, qd = val Aw / val Yd := ⟨_, rfl⟩
      have hqdl : qd < 4294967296 := by rw [hqd, Nat.div_lt_iff_lt_mul HYT.2, Nat.mul_comm]; exact hlt
      rw [← hqd] at hK hnext
      obtain ⟨hh, hhe⟩ : ∃ hh : Nat, hh = i + ln + 1 := ⟨_, rfl⟩
      have j1 : (i : Int) + (ln : Int) + 1 = (hh : Int) := by omega
      have j2 : (i : Int) ≤ (hh : Int) := by omega
      have j3 : (hh : Int) ≤ (lm : Int) + 1 := by omega
      have j4 : hh - i = ln + 1 := by omega
      have j5 : ¬ lm + 1 = i := by omega
      have j6 : ¬ i = lm + 1 := by omega
      have j7 : (i : Int) < (nq : Int) := by omega
      have j8 : i ≤ 1000001 := by omega
      have j9 : hh ≤ 2000002 := by omega
      have HNX : NextF (val X1) (val Yd) i qd Qs Lo Aw Hi := hnext
      clear hnext hlt hMF hqd hhe hnn hlm hln hl1 hnq hn2 hnm HLE HQ HS HL oR hij
      go_wp2_with fail
      refine hK.mono ?_
      rintro e w6 ⟨U, rfl, hUl, hUv, oU, hg6⟩
      clear hK
      have oQ6 := oQ.but hg6 (by simp [Value.ownBlock]; omega)
      have oD6 := oD.but hg6 (by simp [Value.ownBlock]; omega)
      have hW6 := hWr.trans (gb_to hg6 (B := w0.heap.size) (by intro k h; cases h; omega) hWr.size)
      have lq6 := Nat.lt_of_lt_of_le lq hg6.size
      have hLn := HNX U hUl hUv
      obtain ⟨u1, hck1⟩ : ∃ u1, w6.cell? ⟨gq, i, none⟩ = some u1 := ⟨_, oQ6.cell i (by simp; omega)⟩
      have hf0 := oQ6.frozen i
      have hSt := oQ6.store i (z := (qd : Int)) (by omega) (by omega)
      have hse : (List.replicate (i + 1) (0 : Int) ++ Qs).set i (qd : Int) = List.replicate i 0 ++ (qd : Int) :: Qs := by
        rw [List.replicate_succ', List.append_assoc, List.set_append_right _ _ (by simp)]
        simp
      rw [hse] at hSt
      have oU' := oU.but (gb_set w6 gq i (.int .u32 (qd : Int))) (by simp [Value.ownBlock]; omega)
      have oD' := oD6.but (gb_set w6 gq i (.int .u32 (qd : Int))) (by simp [Value.ownBlock]; omega)
      have HST : Hid _ := hSt
      have hlU : (Lo ++ (U ++ Hi)).length = lm + 1 := by simp at hRsl ⊢; omega
      clear hse hSt oQ oD oQ6 oD6 oU
      go_wp2
      go_roundw
      case rel => exact ⟨i, (qd : Int) :: Qs, Lo ++ (U ++ Hi), by omega, by go_num, by simp; omega, hlU, HST.out, oU', oD', hLn, hW6.setCell (by show w0.heap.size ≤ gq; omega) _, by simpa [World.setCell] using lq6⟩
      case measure => simp [intOf]; try omega
end Go.Proofs.Ythgpacajeaphhaa

namespace Go.Proofs.Ythgpacajeaphhaa
open Go.RowKit
set_option linter.unusedVariables false
set_option linter.unusedSimpArgs false

set_option maxHeartbeats 1000000 in
set_option maxRecDepth 100000 in
theorem copied_any (v : Value) (xs : List Int) (w : World) (hx : Rd w v xs) (hl : xs.length ≤ 1000000) :
    Calls Try.prog 66 #[v] w fun e w' => ∃ a c, e = .returned (.slice a xs.length c) ∧ Own w' w.heap.size (.slice a xs.length c) xs ∧ Below w.heap.size w w' := by
  have hx0 := hx
  obtain ⟨a, cap, rfl, _, hz, hn0, hc⟩ := hx
  clear hc hn0
  go_enter Try.func66, Try.ntmps66
  go_wp2_with (at_builtin; refine wpList_append_rd rfl _ _ 47 rfl Try.underlying47 w.heap.size _ _ [] xs rfl rfl (Own.nil _ _) hx0 (by simp; omega) (Nat.le_refl _) ?_; intro a1 c1 w1 hO1 hB1)
  go_ret
  exact ⟨a1, c1, rfl, hO1, hB1⟩

set_option maxHeartbeats 1000000 in
set_option maxRecDepth 100000 in
theorem dividedBy_any (v u : Value) (xs os : List Int) (w : World) (hx : Rd w v xs) (ho : Rd w u os) (hnx : Norm xs) (hno : Norm os) (h1 : 1 ≤ os.length) (hlx : xs.length ≤ 1000000) (hlo : os.length ≤ 1000000) :
    Calls Try.prog 38 #[v, u] w fun e w' => ∃ a c a' c', e = .returned (.tuple #[.slice a (lim (val xs / val os)).length c, .slice a' (lim (val xs % val os)).length c']) ∧ Own w' w.heap.size (.slice a (lim (val xs / val os)).length c) (lim (val xs / val os)) ∧ (∃ wm : World, Own wm w.heap.size (.slice a (lim (val xs / val os)).length c) (lim (val xs / val os)) ∧ Own w' wm.heap.size (.slice a' (lim (val xs % val os)).length c') (lim (val xs % val os)) ∧ w.heap.size ≤ wm.heap.size ∧ wm.heap.size ≤ w'.heap.size) ∧ Below w.heap.size w w' := by
  have hx0 := hx
  have ho0 := ho
  obtain ⟨a, cap, rfl, _, hzx, _, hcx⟩ := hx
  obtain ⟨a', cap', rfl, _, hzo, _, hco⟩ := ho
  clear hcx
  have hcm := fun W h1 h2 => compare_any (.slice a xs.length cap) (.slice a' os.length cap') xs os W h1 h2 hnx hno
  rcases Nat.lt_or_ge (val xs) (val os) with hlt | hge
  · have hc0 : cmpN (val xs) (val os) < 0 := by rw [cmpN_lt hlt]; omega
    rw [Nat.div_eq_of_lt hlt, Nat.mod_eq_of_lt hlt, lim_zero, lim_val hzx hnx]
    have hcp := fun W h => copied_any (.slice a xs.length cap) xs W h hlx
    generalize cmpN (val xs) (val os) = cn at hcm hc0
    clear hlt hco
    go_enter Try.func38, Try.ntmps38
    go_wp2_with fail
    refine (hcm _ hx0 ho0).mono ?_
    rintro e w1 ⟨rfl, hB1⟩
    clear hcm
    go_wp2_with fail
    refine (hcp _ (hx0.keep hB1)).mono ?_
    rintro e w2 ⟨a2, c2, rfl, o2, hB2⟩
    clear hcp
    go_wp2
    refine bodyPost_ret (v := .tuple #[.slice none 0 0, .slice a2 xs.length c2]) (by simp [results, Try.results38, go_sem]) rfl ⟨none, 0, a2, c2, rfl, Own.nil _ _, ⟨_, Own.nil _ _, o2, hB1.size, hB2.size⟩, hB1.trans (hB2.mono hB1.size)⟩
  · have hc0 : ¬ cmpN (val xs) (val os) < 0 := by have := cmpN_nonneg hge; omega
    by_cases hl1 : os.length = 1
    · obtain ⟨X, hX⟩ : ∃ X : Nat, os = [(X : Int)] := by
        match os, hl1, hzo with
        | [z], _, hz => exact ⟨z.toNat, by have := hz z (by simp); congr 1; omega⟩
      subst hX
      have hXl : X < 4294967296 := by have := hzo (X : Int) (by simp); omega
      have hXp : 0 < X := by
        rcases hno with h | h
        · simp at h
        · have : (X : Int) ≠ 0 := by simpa using h
          omega
      have hXv : val [(X : Int)] = X := by simp [val]
      rw [hXv] at hcm hc0 ⊢
      obtain ⟨b', off', rfl, hb', hcell'⟩ := hco (by simp)
      have hce := hcell' 0 (by simp)
      simp at hce
      have hdl := fun W h => dividedByLimb_any (.slice a xs.length cap) xs X W h (by omega) hXp hXl
      have hrl : val xs % X < 4294967296 := Nat.lt_trans (Nat.mod_lt _ hXp) hXl
      generalize val xs % X = rr at hdl hrl ⊢
      have hlf := fun W => limbsOf_any (rr : Int) W (by omega) (by omega)
      rw [Int.natAbs_natCast] at hlf
      have hwr : IntKind.u64.wrap (rr : Int) = (rr : Int) := by rw [IntKind.wrap_u64]; omega
      generalize lim (val xs / X) = LQ at hdl ⊢
      generalize lim rr = LR at hlf ⊢
      generalize cmpN (val xs) X = cn at hcm hc0
      clear hcell' hco hge hnx hno hzo hlo hl1 h1 hXv
      go_enter Try.func38, Try.ntmps38
      go_wp2_with fail
      refine (hcm _ hx0 ho0).mono ?_
      rintro e w1 ⟨rfl, hB1⟩
      clear hcm
      have hce1 := (hB1.cell (p := ⟨b', off', none⟩) hb').trans hce
      go_wp2_with fail
      refine (hdl _ (hx0.keep hB1)).mono ?_
      rintro e w2 ⟨a2, c2, rfl, o2, hB2⟩
      clear hdl
      go_wp2_with fail
      refine (hlf _).mono ?_
      rintro e w3 ⟨a3, c3, rfl, o3, hB3⟩
      clear hlf
      have hW2 := hB1.trans (hB2.mono hB1.size)
      go_wp2
      refine bodyPost_ret (v := .tuple #[.slice a2 LQ.length c2, .slice a3 LR.length c3]) (by simp [results, Try.results38, go_sem]) rfl ⟨a2, c2, a3, c3, rfl, (o2.keep hB3).mono hB1.size, ⟨_, o2.mono hB1.size, o3, hW2.size, hB3.size⟩, hW2.trans (hB3.mono hW2.size)⟩
    · have hll : os.length ≤ xs.length := by
        rcases Nat.lt_or_ge xs.length os.length with h | h
        · have := val_lt_of_len hzx hzo hno h; omega
        · exact h
      have hld := fun W h1 h2 => longDividedBy_any (.slice a xs.length cap) (.slice a' os.length cap') xs os W h1 h2 hno (by omega) hll hlx
      generalize lim (val xs / val os) = LQ at hld ⊢
      generalize lim (val xs % val os) = LR at hld ⊢
      generalize cmpN (val xs) (val os) = cn at hcm hc0
      have hl1' : ((os.length : Int) == 1) = false := by rw [beq_eq_false_iff_ne]; omega
      have hl2' : ¬ (os.length : Int) = 1 := by omega
      clear hco hge
      go_enter Try.func38, Try.ntmps38
      go_wp2_with fail
      refine (hcm _ hx0 ho0).mono ?_
      rintro e w1 ⟨rfl, hB1⟩
      clear hcm
      go_wp2_with fail
      refine (hld _ (hx0.keep hB1) (ho0.keep hB1)).mono ?_
      rintro e w2 ⟨a2, c2, a3, c3, rfl, o2, ⟨wm, om, o3, hm1, hm2⟩, hB2⟩
      clear hld
      go_wp2
      refine bodyPost_ret (v := .tuple #[.slice a2 LQ.length c2, .slice a3 LR.length c3]) (by simp [results, Try.results38, go_sem]) rfl ⟨a2, c2, a3, c3, rfl, o2.mono hB1.size, ⟨wm, om.mono hB1.size, o3, Nat.le_trans hB1.size hm1, hm2⟩, hB1.trans (hB2.mono hB1.size)⟩
end Go.Proofs.Ythgpacajeaphhaa
