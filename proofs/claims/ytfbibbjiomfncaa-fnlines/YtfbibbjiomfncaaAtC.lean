import Derived.Test.YtfbibbjiomfncaaAtB
import Derived.Test.YtfbibbjiomfncaaClI
namespace Go.Proofs.Ytfbibbjiomfncaa
open Go.RowKit
set_option linter.unusedVariables false
set_option linter.unusedSimpArgs false

/-- A box of four cells, not frozen. -/
structure Bx4 (w : World) (X : Nat) (u0 u1 u2 u3 : Value) : Prop where
  lt : X < w.heap.size
  c0 : w.cell? ⟨X, 0, none⟩ = some u0
  c1 : w.cell? ⟨X, 1, none⟩ = some u1
  c2 : w.cell? ⟨X, 2, none⟩ = some u2
  c3 : w.cell? ⟨X, 3, none⟩ = some u3
  f : ∀ o, w.frozen? ⟨X, o, none⟩ = false
theorem Bx4.keep {w w' : World} {X : Nat} {u0 u1 u2 u3 : Value} (h : Bx4 w X u0 u1 u2 u3) (hb : Below w.heap.size w w') : Bx4 w' X u0 u1 u2 u3 :=
  ⟨Nat.lt_of_lt_of_le h.lt hb.size, (hb.cell (p := ⟨X, 0, none⟩) h.lt).trans h.c0, (hb.cell (p := ⟨X, 1, none⟩) h.lt).trans h.c1, (hb.cell (p := ⟨X, 2, none⟩) h.lt).trans h.c2, (hb.cell (p := ⟨X, 3, none⟩) h.lt).trans h.c3, fun o => (hb.frozen (p := ⟨X, o, none⟩) h.lt).trans (h.f o)⟩
theorem Bx4.new (w : World) (u0 u1 u2 u3 : Value) (T : TypeId) : Bx4 (w.alloc (.cells #[u0, u1, u2, u3] T)) w.heap.size u0 u1 u2 u3 :=
  ⟨by simp, by rw [World.cell?_alloc_at _ _ _ _ rfl]; rfl, by rw [World.cell?_alloc_at _ _ _ _ rfl]; rfl, by rw [World.cell?_alloc_at _ _ _ _ rfl]; rfl, by rw [World.cell?_alloc_at _ _ _ _ rfl]; rfl, fun o => World.frozen?_alloc_at _ _ _ _ (by simp)⟩
theorem set4 {w : World} {B X : Nat} {w' : World} (h : Below B w w') (hX : B ≤ X) (u0 u1 u2 u3 : Value) : Below B w ((((w'.setCell ⟨X, 0, none⟩ u0).setCell ⟨X, 1, none⟩ u1).setCell ⟨X, 2, none⟩ u2).setCell ⟨X, 3, none⟩ u3) :=
  (((h.setCell (show B ≤ (⟨X, 0, none⟩ : Addr).block from hX) u0).setCell (show B ≤ (⟨X, 1, none⟩ : Addr).block from hX) u1).setCell (show B ≤ (⟨X, 2, none⟩ : Addr).block from hX) u2).setCell (show B ≤ (⟨X, 3, none⟩ : Addr).block from hX) u3

/-- What classAttr leaves. -/
def CAp (cs : List Cl) (cl : Int) (own : List At) (s : ByteArray) (w : World) (e : Ending) (w' : World) : Prop :=
  ∃ b o, e = .returned (.tuple #[FdV o, .bool b]) ∧ (b = true → ArgOk cs cl own ∧ lnAt cs cl ≠ [] ∧ o = fstO cs s (lnAt cs cl)) ∧ (b = false → ¬ (ArgOk cs cl own ∧ lnAt cs cl ≠ [])) ∧ Below w.heap.size w w'

set_option maxRecDepth 100000 in
set_option maxHeartbeats 2000000 in
theorem classAttr_any (v u : Value) (cs : List Cl) (cl : Int) (own : List At) (s : ByteArray) (w : World) (hr : RdC w v cs) (ho : RdA w u own) (hc0 : -9223372036854775808 ≤ cl) (hc1 : cl < 9223372036854775808) :
    Calls Try.prog 55 #[v, .int .i64 cl, u, .string s] w (CAp cs cl own s w) := by
  obtain ⟨va, vc, ev⟩ := hr.form
  subst ev
  obtain ⟨ua, uc, eu⟩ := ho.form
  subst eu
  have hmx := hr.max
  have hX0 := Bx4.new w (.string ⟨#[]⟩) (.int .i64 0) (.int .i64 0) (.bool false) 78
  have bR : Below w.heap.size w (w.alloc (.cells #[.string ⟨#[]⟩, .int .i64 0, .int .i64 0, .bool false] 78)) := (Below.refl _ w).alloc (Nat.le_refl _) _
  have hr0 := hr.keep bR
  have ho0 := ho.keep bR
  go_enter Try.func55, Try.ntmps55
  go_wp2_with fail
  generalize w.alloc (.cells #[.string ⟨#[]⟩, .int .i64 0, .int .i64 0, .bool false] 78) = W0 at *
  refine (okCI_any _ cs _ hr0).mono ?_
  rintro e w1 ⟨rfl, hB1⟩
  have hX1 := hX0.keep hB1
  have hB01 := bR.trans (hB1.mono bR.size)
  obtain ⟨hXl, c0, c1, c2, c3, hf⟩ := id hX1
  have f0 := hf 0
  have f1 := hf 1
  have f2 := hf 2
  have f3 := hf 3
  by_cases hok : OkCs cs
  · rw [dec_true hok]
    by_cases h0 : cl < 0
    · go_wp2_with fail
      exact bodyPost_ret (v := .tuple #[FdV none, .bool false]) (by simp [FdV, results, Try.results55, go_sem, c0, c1, c2, c3, f0, f1, f2, f3]) rfl ⟨_, _, rfl, (fun h => by cases h), (fun _ h => by have := h.1.2.1; omega), set4 hB01 (Nat.le_refl _) _ _ _ _⟩
    · by_cases h1 : cl < (cs.length : Int)
      · have h1' : ¬ (cs.length : Int) ≤ cl := by omega
        have ho1 := ho0.keep hB1
        go_wp2_with fail
        refine (unlikeA_any _ own _ ho1).mono ?_
        rintro e w2 ⟨rfl, hB2⟩
        have hX2 := hX1.keep hB2
        have hB02 := hB01.trans (hB2.mono hB01.size)
        have hr2 := (hr0.keep hB1).keep hB2
        clear c0 c1 c2 c3 f0 f1 f2 f3 hf hXl hX1 hX0
        obtain ⟨hXl, c0, c1, c2, c3, hf⟩ := id hX2
        have f0 := hf 0
        have f1 := hf 1
        have f2 := hf 2
        have f3 := hf 3
        by_cases hn : OkN own
        · rw [dec_true hn]
          obtain ⟨y, rfl⟩ : ∃ y : Nat, cl = (y : Int) := ⟨cl.toNat, by omega⟩
          have hyl : y < cs.length := by omega
          have hru := hr2.upto (y + 1) (by omega)
          have hoku := hok.take (y + 1)
          have htl : (cs.take (y + 1)).length = y + 1 := by simp; omega
          have hcap : cs.length ≤ vc := by
            obtain ⟨ps, ⟨a', c', e, _, _, hn, _⟩, h2, _⟩ := hr2
            simp only [Value.slice.injEq] at e
            obtain ⟨-, -, rfl⟩ := e
            omega
          have hL0 : (lnsC (cs.take (y + 1)) (y + 1)).getD y [] = lnAt cs (y : Int) := by
            rw [lns_take cs (y + 1) (y + 1) (Nat.le_refl _) (by omega), ← lns_pre cs y cs.length hyl]
            simp [lnAt]
          have hLl : (lnsC (cs.take (y + 1)) (y + 1)).length = y + 1 := lns_len _ _
          have HOK : Hid (ArgOk cs (y : Int) own) := ⟨hok, by omega, h1, hn⟩
          have hlb := lnAt_b HOK.out
          have hoku' : Hid _ := hoku
          generalize hCU : cs.take (y + 1) = CU at *
          have hg1 : (y : Int) + 1 ≤ (cs.length : Int) := by omega
          have hg2 : (y : Int) + 1 ≤ (vc : Int) := by omega
          have hw1 : IntKind.i64.wrap ((y : Int) + 1) = (y : Int) + 1 := by rw [IntKind.wrap_i64]; omega
          have HTL : Hid _ := htl
          have HL0 : Hid _ := hL0
          have HLl : Hid _ := hLl
          have HRU : Hid _ := hru
          have HLB : Hid _ := hlb
          clear hCU hok hn ho1 htl hL0 hLl hru hlb hoku hcap hc0 hc1
          go_wp2_with fail
          refine (linesI_any _ CU _ HRU.out hoku'.out).mono ?_
          rintro e w3 ⟨g, gc, rfl, hL, hB3⟩
          rw [HTL.out] at hL ⊢
          have hX3 := hX2.keep hB3
          have hB03 := hB02.trans (hB3.mono hB02.size)
          obtain ⟨xa, xc, d0, hrx⟩ := LL.at hL y (by rw [HLl.out]; omega)
          have hln : (lnsC CU (y + 1))[y]'(by rw [HLl.out]; omega) = lnAt cs (y : Int) := by rw [← HL0.out]; simp [List.getD, HLl.out]
          rw [hln] at d0 hrx
          have hrm := hrx.1.max
          have hRl := hrx.1
          generalize hLN : lnAt cs (y : Int) = LN at *
          have HLN : Hid (lnAt cs (y : Int) = LN) := hLN
          clear hLN hln hrx hL HLl HL0
          obtain ⟨XN, hXN⟩ : ∃ XN, LN.length = XN := ⟨_, rfl⟩
          have HXN : Hid (LN.length = XN) := hXN
          rw [hXN] at d0 hRl hrm
          clear hXN c0 c1 c2 c3 f0 f1 f2 f3 hf hXl
          have hyi : (y : Int) < (y : Int) + 1 := by omega
          go_wp2_with fail
          generalize hFO : fstO cs s LN = FO
          have HFO : Hid (fstO cs s LN = FO) := hFO
          have hr3 := (hr2.keep hB3)
          clear hFO d0 hr2 hX2 hr0 ho0 hr ho HRU
          go_loopw [43] (fun i wr => ∃ k : Nat, k ≤ XN ∧ i = .int .i64 k ∧ Hid (fstO cs s (LN.drop k) = FO) ∧ Below w3.heap.size w3 wr) (fun i _ => XN - (intOf i).toNat)
          case atStart => exact ⟨0, Nat.zero_le _, rfl, HFO, Below.refl _ _⟩
          case round =>
            obtain ⟨k, hk, rfl, HF, hB4⟩ := hrel
            generalize wr = W4 at *
            have hX4 := hX3.keep hB4
            have hB04 := hB03.trans (hB4.mono hB03.size)
            have hz4 := hB4.size
            by_cases hlt : k < XN
            · have hlti : (k : Int) < (XN : Int) := by omega
              have hkl : k < LN.length := by rw [HXN.out]; exact hlt
              obtain ⟨a2, c2', e2, _, _, _, hc2⟩ := hRl
              simp only [Value.slice.injEq] at e2
              obtain ⟨e21, -, e23⟩ := e2
              subst e21 e23
              obtain ⟨b2, off2, rfl, hb2, hcell2⟩ := hc2 (by omega)
              have d0 := (hB4.cell (p := ⟨b2, off2 + k, none⟩) hb2).trans (hcell2 k hkl)
              have hgd : LN.getD k 0 = LN[k] := by simp [List.getD, hkl]
              rw [hgd] at d0
              obtain ⟨hz0, hz1⟩ := HLB.out LN[k] (List.getElem_mem hkl)
              obtain ⟨z, hz⟩ : ∃ z : Nat, LN[k] = (z : Int) := ⟨LN[k].toNat, by omega⟩
              rw [hz] at d0 hz1
              have hzc : z < cs.length := by omega
              obtain ⟨ps, ⟨va', vc', ev', _, _, hn0', hcP⟩, hpl, hK⟩ := hr3
              simp only [Value.slice.injEq] at ev'
              obtain ⟨ev1, -, ev3⟩ := ev'
              subst ev1 ev3
              have hzp : z < ps.length := by rw [hpl]; exact hzc
              obtain ⟨b, off, rfl, hbb, hcell⟩ := hcP (by omega)
              have d1 := (RdP.at (fun k hk j hj => (hB4.cell (p := ⟨b, _, none⟩) hbb).trans (hcell k hk j hj)) z hzp).2
              have hRz := (hK z hzp hzc).2.keep hB4
              have Hdr : Hid (LN.drop k = (z : Int) :: LN.drop (k + 1)) := by show _ = _; rw [List.drop_eq_getElem_cons hkl, hz]
              have hcz : cs.getD z ⟨[], []⟩ = cs[z] := by simp [List.getD, hzc]
              have HFs : Hid (fstO cs s (LN.drop k) = match (cs[z].a).find? (fun x => decide (x.n = s)) with
                  | some x => some x
                  | none => fstO cs s (LN.drop (k + 1))) := by show _ = _; rw [Hdr.out]; simp only [fstO, Int.toNat_natCast, hcz]; cases (cs[z].a).find? (fun x => decide (x.n = s)) <;> rfl
              have hzi : (z : Int) < (cs.length : Int) := by omega
              generalize ps[z].s2 = sv at *
              obtain ⟨sa, sc, es⟩ := hRz.form
              subst es
              generalize cs[z].a = ats at *
              clear hcz hz hgd hcell hcell2 hcP hc2 hz0 hK hpl
              go_wp2_with fail
              refine (attrIn_any _ ats s _ hRz).mono ?_
              rintro e w5 ⟨rfl, hB5⟩
              have hX5 := hX4.keep hB5
              have hB05 := hB04.trans (hB5.mono hB04.size)
              have hB35 := hB4.trans (hB5.mono hz4)
              have hz5 := hB35.size
              cases hfd : ats.find? (fun x => decide (x.n = s)) with
              | some x =>
                have hFO2 : FO = some x := by have h1 := HFs.out; rw [hfd] at h1; have h2 := HF.out; rw [h1] at h2; exact h2.symm
                subst hFO2
                obtain ⟨xn, xk, xv⟩ := x
                have hnq := fun W => neq_fd (some ⟨xn, xk, xv⟩) W
                simp only [FdV, Option.isSome_some] at hnq ⊢
                have hX6 := hX5.keep ((Below.refl _ w5).alloc (Nat.le_refl _) (.cells #[.string xn, .int .i64 xk, .int .i64 xv, .bool true] 78))
                obtain ⟨hXl, c0, c1, c2, c3, hf⟩ := id hX6
                have f0 := hf 0
                have f1 := hf 1
                have f2 := hf 2
                have f3 := hf 3
                obtain ⟨hXl5, c05, c15, c25, c35, hf5⟩ := id hX5
                have f05 := hf5 0
                have f15 := hf5 1
                have f25 := hf5 2
                have f35 := hf5 3
                have hne : w.heap.size ≠ w5.heap.size := by omega
                clear hfd HFs HF
                go_wp2_with fail
                exact bodyPost_ret (v := .tuple #[FdV (some ⟨xn, xk, xv⟩), .bool true]) (by simp [FdV, results, Try.results55, go_sem, c05, c15, c25, c35, f05, f15, f25, f35, hXl5, hne]) rfl ⟨true, _, rfl, (fun _ => ⟨HOK.out, by rw [HLN.out]; intro h; rw [h] at hkl; simp at hkl, by rw [HLN.out, HFO.out]⟩), (fun h => by cases h), (set4 hB05 (Nat.le_refl _) _ _ _ _).alloc (set4 hB05 (Nat.le_refl _) _ _ _ _).size _⟩
              | none =>
                have hF2 : Hid (fstO cs s (LN.drop (k + 1)) = FO) := by have h1 := HFs.out; rw [hfd] at h1; have h2 := HF.out; rw [h1] at h2; exact h2
                have hnq := fun W => neq_fd none W
                simp only [FdV, Option.isSome_none] at hnq ⊢
                clear hfd HFs HF
                go_wp2_with fail
                go_roundw
                case rel => exact ⟨k + 1, by omega, by go_num, hF2, hB35.alloc hz5 _⟩
                case measure => simp [intOf]; omega
            · obtain rfl : XN = k := by omega
              have hlti : ¬ (XN : Int) < (XN : Int) := by omega
              have hFO2 : FO = none := by have := HF.out; rw [← HXN.out, List.drop_length] at this; exact this.symm
              subst hFO2
              obtain ⟨hXl, c0, c1, c2, c3, hf⟩ := id hX4
              have f0 := hf 0
              have f1 := hf 1
              have f2 := hf 2
              have f3 := hf 3
              by_cases hX0 : 0 < XN
              · have hXi : (0 : Int) < (XN : Int) := by omega
                go_wp2_with fail
                exact bodyPost_ret (v := .tuple #[FdV none, .bool true]) (by simp [FdV, results, Try.results55, go_sem, c0, c1, c2, c3, f0, f1, f2, f3, hX0]) rfl ⟨true, _, rfl, (fun _ => ⟨HOK.out, by rw [HLN.out]; intro h; have := HXN.out; rw [h] at this; simp at this; omega, by rw [HLN.out, HFO.out]⟩), (fun h => by cases h), set4 hB04 (Nat.le_refl _) _ _ _ _⟩
              · have hXi : ¬ (0 : Int) < (XN : Int) := by omega
                go_wp2_with fail
                exact bodyPost_ret (v := .tuple #[FdV none, .bool false]) (by simp [FdV, results, Try.results55, go_sem, c0, c1, c2, c3, f0, f1, f2, f3, hX0]) rfl ⟨false, none, rfl, (fun h => by cases h), (fun _ h => h.2 (by rw [HLN.out]; exact List.length_eq_zero_iff.mp (by rw [HXN.out]; omega))), set4 hB04 (Nat.le_refl _) _ _ _ _⟩
        · rw [dec_false hn]
          go_wp2_with fail
          exact bodyPost_ret (v := .tuple #[FdV none, .bool false]) (by simp [FdV, results, Try.results55, go_sem, c0, c1, c2, c3, f0, f1, f2, f3]) rfl ⟨_, _, rfl, (fun h => by cases h), (fun _ h => hn h.1.2.2.2), set4 hB02 (Nat.le_refl _) _ _ _ _⟩
      · have h1' : (cs.length : Int) ≤ cl := by omega
        go_wp2_with fail
        exact bodyPost_ret (v := .tuple #[FdV none, .bool false]) (by simp [FdV, results, Try.results55, go_sem, c0, c1, c2, c3, f0, f1, f2, f3]) rfl ⟨_, _, rfl, (fun h => by cases h), (fun _ h => by have := h.1.2.2.1; omega), set4 hB01 (Nat.le_refl _) _ _ _ _⟩
  · rw [dec_false hok]
    go_wp2_with fail
    exact bodyPost_ret (v := .tuple #[FdV none, .bool false]) (by simp [FdV, results, Try.results55, go_sem, c0, c1, c2, c3, f0, f1, f2, f3]) rfl ⟨_, _, rfl, (fun h => by cases h), (fun _ h => hok h.1.1), set4 hB01 (Nat.le_refl _) _ _ _ _⟩
end Go.Proofs.Ytfbibbjiomfncaa
