import Derived.Test.YtjnalkeopehlbaaMgC
import Derived.Test.YtjnalkeopehlbaaGdC
import Derived.Test.YtjnalkeopehlbaaGrK
namespace Go.Proofs.Ytjnalkeopehlbaa
open Go.RowKit Go.Maps
set_option linter.unusedVariables false
set_option linter.unusedSimpArgs false

def I0 (n1 i : Nat) : Prop := 1 ≤ i ∧ i < n1
theorem rch_in {n1 : Nat} {ord : Nat → List Nat} {fr : List Nat} (hf : ∀ i ∈ fr, I0 n1 i) (ho : ∀ i, I0 n1 i → ∀ j ∈ ord i, I0 n1 j) {i : Nat} (h : RchI ord fr i) : I0 n1 i := by
  induction h with
  | root h => exact hf _ h
  | step _ hm ih => exact ho _ ih _ hm
theorem wpList_append_TZ {w : World} {ops : Array Oper} {rest : List Oper} {o : Oper} {a : Act} {Q : Exit → Act → World → Prop} (hgd : o.guard = none) (s x : Operand) (t : TypeId)
    (ho : o.op = .call { callee := .builtin .append, args := #[s, x], argTypes := #[t, t] }) (ht : Try.prog.underlying t = some (.slice 56))
    (B fk n0 ck : Nat) (xs ys : List Nat) (hs : a.eval s = .slice (some ⟨fk, 0, none⟩) n0 ck) (hown : OwnG shT 56 w B (.slice (some ⟨fk, 0, none⟩) n0 ck) xs) (g c : Nat) (hx : a.eval x = .slice (some ⟨g, 0, none⟩) ys.length c) (hc : ∀ k (h : k < ys.length), w.cell? ⟨g, k, none⟩ = some (pk ys[k])) (hlen : xs.length + ys.length ≤ 16777216) (hB : B ≤ w.heap.size)
    (h : ∀ b c' w', OwnG shT 56 w' B (.slice (some ⟨b, 0, none⟩) (xs.length + ys.length) c') (xs ++ ys) → w.grownBy w' (some fk) → (some fk = some b ∨ b = w.heap.size) → b < w'.heap.size → wpList Try.prog ops Q rest (a.put o.dst (.slice (some ⟨b, 0, none⟩) (xs.length + ys.length) c')) w') :
    wpList Try.prog ops Q (o :: rest) a w := by
  by_cases hy : 0 < ys.length
  · exact wpList_append_T hgd s x t ho ht B _ xs ys hs hown g c hx hy hc hlen hB h
  · have hy0 : ys = [] := List.eq_nil_of_length_eq_zero (by omega)
    subst hy0
    obtain ⟨i0, hi, hz0, hz1, hz2⟩ := info_parts Try.info56
    obtain ⟨v', w', hr', h2, h3, _, h5⟩ := run_append_own_at (P := Try.prog) w B t o.type 56 i0 (.pointer none) 1 8 ht hi hz0 hz1 hz2 rfl (by decide) _ _ _ hown.1 ⟨g, 0, none⟩ 0 c [] (by simp) (by intro j z hj; simp at hj) (by simp) (by unfold maxLen; simp at hlen; omega) (by simp at hlen; omega) hB
    refine wpList_plain hgd fun K hK => ?_
    obtain ⟨b, c', e, hbl⟩ : ∃ b c', v' = .slice (some ⟨b, 0, none⟩) (xs.length + 0) c' ∧ b < w'.heap.size := by
      rcases h2.2 with ⟨e, _⟩ | ⟨g', cap, cur, e, _, hh, _⟩
      · subst e; rcases h5 with h5 | h5 <;> cases h5
      · refine ⟨g', cap, e, ?_⟩
        rcases Nat.lt_or_ge g' w'.heap.size with k | k
        · exact k
        · rw [Array.getElem?_eq_none k] at hh; cases hh
    subst e
    unfold Oper.wp execOp
    simp only [ho, resolve, invoke, builtin, Sem.run_bind, Sem.run_pure, Result.andThen_ok, List.map_toArray, List.map_cons, List.map_nil, hs, hx, List.length_nil, hr']
    refine hK _ _ (h b c' w' ⟨by have k2 : w'.ownsRow B 56 shT.n (.slice (some ⟨b, 0, none⟩) (xs.length + 0) c') (xs.length + 0) (xs.flatMap shT.cs ++ []) := h2; rw [List.append_nil] at k2; simp only [List.append_nil, List.length_nil, Nat.add_zero] at k2 ⊢; exact k2, by simpa using hlen, fun _ _ => trivial⟩ h3 ?_ hbl)
    rcases h5 with h5 | h5
    · exact .inl h5.symm
    · exact .inr (Option.some.inj h5)
structure TQ (P : Nat → Prop) (w : World) (n1 : Nat) (tb : Nat → Nat) (ord : Nat → List Nat) : Prop where
  at_ : ∀ i, I0 n1 i → P (tb i) ∧ tb i < w.heap.size
  num : ∀ i, I0 n1 i → w.cell? ⟨tb i, 0, none⟩ = some (.int .i64 i)
  row : ∀ i, I0 n1 i → (ord i = [] ∧ w.cell? ⟨tb i, 7, none⟩ = some (.slice none 0 0)) ∨ ∃ g c, P g ∧ g < w.heap.size ∧ w.cell? ⟨tb i, 7, none⟩ = some (.slice (some ⟨g, 0, none⟩) (ord i).length c) ∧ ∀ k (h : k < (ord i).length), w.cell? ⟨g, k, none⟩ = some (pk (tb (ord i)[k]))
  ok : ∀ i, I0 n1 i → ∀ j ∈ ord i, I0 n1 j
theorem TQ.same {P : Nat → Prop} {w w' : World} {n1 : Nat} {tb : Nat → Nat} {ord : Nat → List Nat} (h : TQ P w n1 tb ord) (hs : ∀ b, b < w.heap.size → P b → w'.heap[b]? = w.heap[b]?) (hz : w.heap.size ≤ w'.heap.size) : TQ P w' n1 tb ord := by
  have hc : ∀ b o, b < w.heap.size → P b → w'.cell? ⟨b, o, none⟩ = w.cell? ⟨b, o, none⟩ := fun b o h1 h2 => World.cell?_of_block (a := ⟨b, o, none⟩) (hs b h1 h2)
  refine ⟨fun i hi => ⟨(h.at_ i hi).1, Nat.lt_of_lt_of_le (h.at_ i hi).2 hz⟩, fun i hi => (hc _ _ (h.at_ i hi).2 (h.at_ i hi).1).trans (h.num i hi), fun i hi => ?_, h.ok⟩
  rcases h.row i hi with ⟨h1, h2⟩ | ⟨g, c, h2, h3, h4, h5⟩
  · exact .inl ⟨h1, (hc _ _ (h.at_ i hi).2 (h.at_ i hi).1).trans h2⟩
  · exact .inr ⟨g, c, h2, Nat.lt_of_lt_of_le h3 hz, (hc _ _ (h.at_ i hi).2 (h.at_ i hi).1).trans h4, fun k hk => (hc _ _ h3 h2).trans (h5 k hk)⟩
set_option maxRecDepth 100000 in
set_option maxHeartbeats 1500000 in
theorem reachedQ_any (n B fb fc N1 sb : Nat) (tb : Nat → Nat) (ord : Nat → List Nat) (fr : List Nat) (w : World) (hn : n ≤ 2000) (hN1 : n + 1 = N1) (hsb : w.heap.size = sb) (hF : OwnG shT 56 w B (.slice (some ⟨fb, 0, none⟩) fr.length fc) (fr.map tb)) (hT : TQ (fun b => b ≠ fb) w (n + 1) tb ord) (hfr : ∀ i ∈ fr, I0 (n + 1) i) (hsz : fr.length + wtR ord (List.replicate (n + 1) false) (n + 1) ≤ 8000000) (hB : B ≤ w.heap.size) :
    Calls Try.prog 31 #[.slice (some ⟨fb, 0, none⟩) fr.length fc, .int .i64 n] w fun e w' => ∃ sn, e = .returned (.slice (some ⟨sb, 0, none⟩) N1 N1) ∧ OwnG shB 4 w' sb (.slice (some ⟨sb, 0, none⟩) N1 N1) sn ∧ sn.length = N1 ∧ (∀ i, sn.getD i false = true ↔ RchI ord fr i) ∧ Below B w w' ∧ ∀ b, b < sb → b ≠ fb → w'.heap[b]? = w.heap[b]? := by
  obtain ⟨i0, hi0, hz0, hz1, hz2⟩ := info_parts Try.info4
  have hfl := hF.lt fb rfl
  have hni : (n : Int) + 1 = (N1 : Int) := by omega
  go_enter Try.func31, Try.ntmps31
  go_wp2_with (at_make; refine wpList_make_full _ rfl _ _ 51 rfl w.heap.size 4 i0 _ 1 Try.underlying51 hi0 hz0 hz1 .i64 .i64 _ _ N1 rfl rfl rfl rfl (by rw [hz2]; omega) (by unfold maxLen; omega) (Nat.le_refl _) ?_; intro w2 hown hgrow)
  have oS : OwnG shB 4 w2 w.heap.size (.slice (some ⟨w.heap.size, 0, none⟩) N1 N1) (List.replicate N1 false) := OwnG.made1 false rfl rfl trivial rfl (by omega) hown
  have b2 : Below w.heap.size w w2 := (Below.refl _ _).grown hgrow (Nat.le_refl _) (by intro k h; cases h)
  rw [hN1] at hT hfr hsz
  rw [hsb] at oS b2 hfl hB
  try rw [hsb]
  have hT2 : TQ (fun b => b ≠ fb ∧ b < sb) w N1 tb ord := by
    refine ⟨fun i hi => ⟨⟨(hT.at_ i hi).1, by rw [← hsb]; exact (hT.at_ i hi).2⟩, (hT.at_ i hi).2⟩, hT.num, fun i hi => ?_, hT.ok⟩
    rcases hT.row i hi with h1 | ⟨g, c, h2, h3, h4, h5⟩
    · exact .inl h1
    · exact .inr ⟨g, c, ⟨h2, by rw [← hsb]; exact h3⟩, h3, h4, h5⟩
  have hT3 : TQ (fun b => b ≠ fb ∧ b < sb) w2 N1 tb ord := hT2.same (fun b h1 h2 => b2.block b (by omega)) (by rw [hsb]; have := b2.size; omega)
  have hJ : JI N1 ord fr (List.replicate N1 false) fr := by
    have hz : ∀ i, (List.replicate N1 false).getD i false = false := fun i => by
      simp only [List.getD]
      by_cases h : i < N1
      · rw [List.getElem?_replicate, if_pos h]; rfl
      · rw [List.getElem?_replicate, if_neg h]; rfl
    exact ⟨by simp, (fun i h => by rw [hz] at h; cases h), fun i hi => ⟨.root hi, (hfr i hi).2⟩, fun i hi => .inl hi, (fun i h => by rw [hz] at h; cases h)⟩
  obtain ⟨G0, hG0⟩ : ∃ G, fr.length + wtR ord (List.replicate N1 false) N1 = G := ⟨_, rfl⟩
  rw [hG0] at hsz
  have HFR : Hid (∀ i ∈ fr, I0 N1 i) := hfr
  have HJ : Hid _ := hJ
  have HT3 : Hid _ := hT3
  have HS : Hid (OwnG shB 4 w2 sb (.slice (some ⟨sb, 0, none⟩) N1 N1) (List.replicate N1 false)) := oS
  have HF : Hid (OwnG shT 56 w2 B (.slice (some ⟨fb, 0, none⟩) fr.length fc) (fr.map tb)) := hF.keep (by rw [hsb]; exact b2)
  have HG : Hid _ := hG0
  have hB2 : Below B w w2 := b2.mono hB
  have HX2 : Hid (∀ b, b < sb → b ≠ fb → w2.heap[b]? = w.heap[b]?) := fun b h1 _ => b2.block b h1
  clear hown hgrow oS hT hT2 hT3 hJ hF hG0 b2 i0 hi0 hz0 hz1 hz2 hfr hN1
  go_loopg [0] G0 (fun gg q wq => ∃ (st : List Nat) (sn : List Bool) (fk ck : Nat), q = .slice (some ⟨fk, 0, none⟩) st.length ck ∧ OwnG shT 56 wq B (.slice (some ⟨fk, 0, none⟩) st.length ck) (st.map tb) ∧ OwnG shB 4 wq sb (.slice (some ⟨sb, 0, none⟩) N1 N1) sn ∧ JI N1 ord fr sn st ∧ st.length + wtR ord sn N1 ≤ gg ∧ gg ≤ G0 ∧ (fk = fb ∨ sb < fk) ∧ TQ (fun b => b ≠ fb ∧ b < sb) wq N1 tb ord ∧ Below B w wq ∧ ∀ b, b < sb → b ≠ fb → wq.heap[b]? = w.heap[b]?)
  case atStart => exact ⟨fr, _, fb, fc, rfl, HF.out, HS.out, HJ.out, by rw [HG.out]; exact Nat.le_refl _, Nat.le_refl _, .inl rfl, HT3.out, hB2, HX2.out⟩
  case round =>
    obtain ⟨st, sn, fk, ck, rfl, oF, oS, hJ, hgg, hgG, hfk, hT, bW, hX⟩ := hrel
    have HX : Hid (∀ b, b < sb → b ≠ fb → wr.heap[b]? = w.heap[b]?) := hX
    clear HF HS HJ HG HT3 hB2 HX2 hX
    generalize wr = Q1 at *
    have HJ : Hid _ := hJ
    have HT : Hid _ := hT
    clear hJ hT
    rcases List.eq_nil_or_concat st with e5 | ⟨st', i, e5⟩
    · subst e5
      have hfin := HJ.out.fin
      have hlen := HJ.out.len
      have HFin : Hid _ := hfin
      clear hfin HJ HT oF
      simp only [List.length_nil]
      go_wp2
      go_ret
      exact ⟨sn, rfl, oS, hlen, HFin.out, bW, HX.out⟩
    · rw [List.concat_eq_append] at e5
      subst e5
      obtain ⟨SL, hSL⟩ : ∃ SL, st'.length = SL := ⟨_, rfl⟩
      have hl1 : (st' ++ [i]).length = SL + 1 := by simp [hSL]
      rw [hl1] at oF hgg
      rw [hl1]
      obtain ⟨hri, hiN⟩ := HJ.out.stk i (by simp)
      have hsl := HJ.out.len
      have cF : Q1.cell? ⟨fk, SL, none⟩ = some (pk (tb i)) := by
        have h1 := oF.cell SL (by simp; omega) 0 (by decide)
        have e : SL * shT.n + 0 = SL := by show SL * 1 + 0 = SL; omega
        rw [e] at h1
        simp only [List.map_append, List.map_cons, List.map_nil] at h1
        rw [List.getElem_append_right (by simp; omega)] at h1
        have h2 : Q1.cell? ⟨fk, SL, none⟩ = (shT.cs (tb i))[0]? := by simpa [hSL] using h1
        exact h2
      have oF2 : OwnG shT 56 Q1 B (.slice (some ⟨fk, 0, none⟩) SL ck) (st'.map tb) := by
        have h1 := oF.upto SL (by simp; omega)
        rw [List.map_append, List.take_append_of_le_length (by simp; omega), List.take_of_length_le (by simp; omega)] at h1
        exact h1
      have hcap : SL + 1 ≤ ck := by
        rcases oF.shape with ⟨h1, _⟩ | ⟨g, cp, h1, _, _, h2⟩
        · cases h1
        · simp only [Value.slice.injEq] at h1
          have h3 := h1.2.1
          have h4 := h1.2.2
          omega
      have hiQ : I0 N1 i := rch_in HFR.out HT.out.ok hri
      have cNum := HT.out.num i hiQ
      have hrow := HT.out.row i hiQ
      have HRow : Hid _ := hrow
      have hok : ∀ j ∈ ord i, j < N1 := fun j hj => (HT.out.ok i hiQ j hj).2
      have hil : i < sn.length := by omega
      have cS := oS.cell i hil 0 (by decide)
      have hput : i * shB.n + 0 = i := by show i * 1 + 0 = i; omega
      rw [hput] at cS
      have cS2 : Q1.cell? ⟨sb, i, none⟩ = some (.bool sn[i]) := cS
      have hgi : sn.getD i false = sn[i] := by simp [List.getD, hil]
      have fS := oS.frozen i
      have hii : (i : Int) < (N1 : Int) := by omega
      unfold pk at cF
      clear cS hput hrow
      generalize htb : tb i = ti at *
      cases hbv : sn[i]
      · rw [hbv] at cS2 hgi
        have hwt := wtR_mark ord sn i hil hgi N1
        rw [if_pos hiN] at hwt
        have hgs := gb_set Q1 sb i (.bool true)
        have oS2 := oS.put i hil 0 (by decide) (.bool true) true trivial (by rfl)
        have hput : i * shB.n + 0 = i := by show i * 1 + 0 = i; omega
        rw [hput] at oS2
        have hfsb : fk ≠ sb := by omega
        have oF3 := oF2.but hgs (.inr (by show some fk ≠ some sb; intro e; exact hfsb (Option.some.inj e)))
        have hT2 : TQ (fun b => b ≠ fb ∧ b < sb) (Q1.setCell ⟨sb, i, none⟩ (.bool true)) N1 tb ord := HT.out.same (fun b h1 h2 => hgs.block b h1 (by intro e; have := Option.some.inj e; omega)) hgs.size
        have hm := HJ.out.mark hok
        have bW2 : Below B w (Q1.setCell ⟨sb, i, none⟩ (.bool true)) := bW.setCell hB _
        have HM : Hid _ := hm
        have HX3 : Hid (∀ b, b < sb → b ≠ fb → (Q1.setCell ⟨sb, i, none⟩ (.bool true)).heap[b]? = w.heap[b]?) := fun b h1 h2 => (Below.heap_setCell _ _ _ _ (by show b ≠ sb; omega)).trans (HX.out b h1 h2)
        have HT2 : Hid _ := hT2
        have hrow2 := hT2.row i hiQ
        have HRow2 : Hid _ := hrow2
        have hflt := (oF3.lt fk rfl)
        clear hm hT2 HJ HRow HT hput hok oF oF2 hl1 hri hrow2
        go_upto_region 8 with fail
        generalize Q1.setCell ⟨sb, i, none⟩ (.bool true) = Q2 at *
        clear hgs cS2 fS oS cF cNum
        rcases HRow2.out with ⟨ho, hcell⟩ | ⟨g, c, h2, h3, hcell, h5⟩
        · rw [htb] at hcell
          obtain ⟨i0, hi0, hz0, hz1, hz2⟩ := info_parts Try.info56
          go_wp2_with (at_builtin; refine wpList_append_own_none rfl (.tmp 38) (.tmp 42) 55 rfl B 56 i0 1 Try.underlying55 hi0 _ _ _ rfl oF3.1 rfl ?_)
          go_roundg (SL + wtR ord (sn.set i true) N1)
          case measure => omega
          case rel =>
            have hM := HM.out
            rw [ho, List.append_nil] at hM
            exact ⟨st', sn.set i true, fk, ck, by rw [hSL], by rw [hSL]; exact oF3, oS2, hM, by rw [hSL]; exact Nat.le_refl _, by omega, hfk, HT2.out, bW2, HX3.out⟩
        · rw [htb] at hcell
          have hol : (ord i).length ≤ 8000000 := by omega
          have hcc : ∀ k (h : k < ((ord i).map tb).length), Q2.cell? ⟨g, k, none⟩ = some (pk ((ord i).map tb)[k]) := fun k h => by
            have := h5 k (by simpa using h)
            simpa using this
          obtain ⟨OL, hOL⟩ : ∃ OL, (ord i).length = OL := ⟨_, rfl⟩
          have hml : ((ord i).map tb).length = OL := by simp [hOL]
          have hsl2 : (st'.map tb).length = SL := by simp [hSL]
          rw [hOL] at hcell hol
          have HCC : Hid _ := hcc
          have hlen2 : (st'.map tb).length + ((ord i).map tb).length ≤ 16777216 := by rw [hml, hsl2]; omega
          have hBz : B ≤ Q2.heap.size := by omega
          clear hcc h5
          go_wp2_with (at_builtin; refine wpList_append_TZ rfl (.tmp 38) (.tmp 42) 55 rfl Try.underlying55 B fk SL ck (st'.map tb) ((ord i).map tb) rfl oF3 g c (by rw [hml]; rfl) HCC.out hlen2 hBz ?_; intro b' c' w' oF4 hg4 hl4 hz4)
          have hg5 : Q2.grownBy w' (some fk) := hg4
          have hsbl := (oS2.lt sb rfl).2
          have oS3 := oS2.but hg5 (.inr (by show some sb ≠ some fk; intro e; exact hfsb (Option.some.inj e).symm))
          have hT3 : TQ (fun b => b ≠ fb ∧ b < sb) w' N1 tb ord := HT2.out.same (fun b h1 h2 => hg5.block b h1 (by intro e; have := Option.some.inj e; omega)) hg5.size
          have bW3 := bW2.trans (gb_to hg5 (fun q hq => by have e := Option.some.inj hq; omega) hBz)
          have hfk2 : b' = fb ∨ sb < b' := by
            rcases hl4 with e | e
            · have e2 : fk = b' := Option.some.inj e
              omega
            · right; omega
          rw [hml, hsl2, ← List.map_append] at oF4
          go_roundg (SL + OL + wtR ord (sn.set i true) N1)
          case measure => omega
          case rel => exact ⟨st' ++ ord i, sn.set i true, b', c', by simp [hSL, hOL], by simpa [hSL, hOL] using oF4, oS3, HM.out, by simp [hSL, hOL], by omega, hfk2, hT3, bW3, fun b h1 h2 => (hg5.block b (by have := hsbl; omega) (by intro e; have := Option.some.inj e; omega)).trans (HX3.out b h1 h2)⟩
      · rw [hbv] at cS2 hgi
        have hd := HJ.out.drop hgi
        have HD : Hid _ := hd
        clear hd HJ HRow hok
        go_wp2_with fail
        go_roundg (SL + wtR ord sn N1)
        case measure => omega
        case rel => exact ⟨st', sn, fk, ck, by rw [hSL], by rw [hSL]; exact oF2, oS, HD.out, by rw [hSL]; exact Nat.le_refl _, by omega, hfk, HT.out, bW, HX.out⟩
end Go.Proofs.Ytjnalkeopehlbaa

namespace Go.Proofs.Ytjnalkeopehlbaa
open Go.RowKit Go.Maps
set_option linter.unusedVariables false
set_option linter.unusedSimpArgs false

theorem TG.rdq {w : World} {B n : Nat} {tb : Nat → Nat} {f : Nat → Tc} (h : TG w B n tb f) (fb : Nat) (hf : ∀ b, PT n tb f b → b ≠ fb) : TQ (fun b => b ≠ fb) w (n + 1) tb (fun x => (f x).ord) := by
  have hI : ∀ i, I0 (n + 1) i → In n i := fun i hi => ⟨hi.1, by have := hi.2; omega⟩
  refine ⟨fun i hi => ⟨hf _ ⟨i, hI i hi, .inl rfl⟩, (h.lt (hI i hi)).1⟩, fun i hi => cell_obj (h.obj i (hI i hi)) rfl, fun i hi => ?_, fun i hi j hj => ?_⟩
  · have hr := h.row i (hI i hi)
    have hc : w.cell? ⟨tb i, 7, none⟩ = some (f i).row := cell_obj (h.obj i (hI i hi)) rfl
    have hP : ∀ g, (f i).row.ownBlock = some g → g ≠ fb := fun g e => hf g ⟨i, hI i hi, .inr (.inr e)⟩
    have hl : ((f i).ord.map tb).length = (f i).ord.length := by simp
    rcases hr.shape with ⟨h1, h2⟩ | ⟨g, cp, h1, _, _, h2⟩
    · exact .inl ⟨by simpa using h2, by rw [hc, h1]⟩
    · have hg := hP g (by rw [h1]; rfl)
      have hg2 := (hr.lt g (by rw [h1]; rfl)).2
      rw [h1] at hr hc
      refine .inr ⟨g, cp, hg, hg2, by rw [hc, hl], fun k hk => ?_⟩
      have h4 := hr.cell k (by rw [hl]; exact hk) 0 (by decide)
      have e : k * shT.n + 0 = k := by show k * 1 + 0 = k; omega
      rw [e] at h4
      simpa [shT] using h4
  · have := h.oko i (hI i hi) j hj
    exact ⟨this.1, by have := this.2; omega⟩
def hlO (S : Gs) (x : Nat) : List Nat := (S.hl x).map (·.1)
theorem TQ.congr {P : Nat → Prop} {w : World} {n1 : Nat} {tb : Nat → Nat} {ord ord' : Nat → List Nat} (h : TQ P w n1 tb ord) (he : ∀ i, I0 n1 i → ord' i = ord i) : TQ P w n1 tb ord' :=
  ⟨h.at_, h.num, fun i hi => by rw [he i hi]; exact h.row i hi, fun i hi => by rw [he i hi]; exact h.ok i hi⟩
theorem rch_rc {S : Gs} {K : Nat} (hO : Ok K S) (fr : List Nat) (hfr : ∀ x, x ∈ fr ↔ S.al x = true ∧ 0 < S.rt x) (x : Nat) : RchI (hlO S) fr x ↔ Rc S x := by
  constructor
  · intro hr
    induction hr with
    | root h1 => exact Rc.root ((hfr _).1 h1).1 ((hfr _).1 h1).2
    | @step i j _ hj ih =>
      obtain ⟨p, hp, rfl⟩ := List.mem_map.1 hj
      exact Rc.step ih (ih.al hO.cl) hp
  · intro hr
    induction hr with
    | root ha h1 => exact RchI.root ((hfr _).2 ⟨ha, h1⟩)
    | @step i p _ ha hp ih => exact RchI.step ih (List.mem_map.2 ⟨p, hp, rfl⟩)
theorem TG.rdS {w : World} {B : Nat} {tb : Nat → Nat} {f : Nat → Tc} {S : Gs} {AL : List Nat} (h : TG w B S.n tb f) (hG : Gi S f AL) (fb : Nat) (hf : ∀ b, PT S.n tb f b → b ≠ fb) : TQ (fun b => b ≠ fb) w (S.n + 1) tb (hlO S) :=
  (h.rdq fb hf).congr (fun i hi => (hG.od i ⟨hi.1, by have := hi.2; omega⟩).symm)
/-- A range that takes some. -/
structure Fl (P : Nat → Prop) (AL ot dr L : List Nat) : Prop where
  pm : (ot ++ (dr ++ L)).Perm AL
  yes : ∀ x ∈ ot, P x
  no : ∀ x ∈ dr, ¬ P x
section
variable {P : Nat → Prop} {AL ot dr L a b : List Nat} {x : Nat}
theorem Fl.start (P : Nat → Prop) (AL : List Nat) : Fl P AL [] [] AL := ⟨List.Perm.refl _, (fun _ h => by cases h), (fun _ h => by cases h)⟩
theorem Fl.take (h : Fl P AL ot dr (a ++ x :: b)) (hx : P x) : Fl P AL (ot ++ [x]) dr (a ++ b) := by
  refine ⟨?_, fun y hy => ?_, h.no⟩
  · refine List.Perm.trans ?_ h.pm
    rw [List.append_assoc]
    refine List.Perm.append_left _ ?_
    have e : dr ++ (a ++ x :: b) = (dr ++ a) ++ x :: b := by simp
    rw [e]
    have e2 : [x] ++ (dr ++ (a ++ b)) = x :: ((dr ++ a) ++ b) := by simp
    rw [e2]
    exact List.perm_middle.symm
  · rcases List.mem_append.1 hy with h1 | h1
    · exact h.yes y h1
    · simp at h1; subst h1; exact hx
theorem Fl.drop (h : Fl P AL ot dr (a ++ x :: b)) (hx : ¬ P x) : Fl P AL ot (x :: dr) (a ++ b) := by
  refine ⟨?_, h.yes, fun y hy => ?_⟩
  · refine List.Perm.trans (List.Perm.append_left _ ?_) h.pm
    have e : dr ++ (a ++ x :: b) = (dr ++ a) ++ x :: b := by simp
    rw [e]
    have e2 : x :: dr ++ (a ++ b) = x :: ((dr ++ a) ++ b) := by simp
    rw [e2]
    exact List.perm_middle.symm
  · rcases List.mem_cons.1 hy with h1 | h1
    · subst h1; exact hx
    · exact h.no y h1
theorem Fl.inl (h : Fl P AL ot dr L) (hx : x ∈ L) : x ∈ AL := h.pm.mem_iff.1 (by simp [hx])
theorem Fl.ino (h : Fl P AL ot dr L) (hx : x ∈ ot) : x ∈ AL := h.pm.mem_iff.1 (by simp [hx])
theorem Fl.mem (h : Fl P AL ot dr []) : x ∈ ot ↔ x ∈ AL ∧ P x := by
  constructor
  · intro hx; exact ⟨h.ino hx, h.yes x hx⟩
  · rintro ⟨h1, h2⟩
    have := h.pm.mem_iff.2 h1
    simp only [List.append_nil, List.mem_append] at this
    rcases this with h3 | h3
    · exact h3
    · exact absurd h2 (h.no x h3)
theorem Fl.len (h : Fl P AL ot dr L) : ot.length + L.length ≤ AL.length := by
  have := h.pm.length_eq
  simp only [List.length_append] at this
  omega
theorem Fl.nodup (h : Fl P AL ot dr L) (hn : AL.Nodup) : ot.Nodup := by
  have := h.pm.nodup_iff.2 hn
  exact (List.nodup_append.1 this).1
end
theorem lost_sorted (S : Gs) : (lostL S).Pairwise (· < ·) := by
  unfold lostL
  refine List.Pairwise.filter _ ?_
  rw [List.pairwise_map]
  exact (List.pairwise_lt_range (n := S.n)).imp (fun h => by omega)
theorem lost_perm {S : Gs} {K : Nat} (hI : Iv K S) (ot : List Nat) (hm : ∀ x, x ∈ ot ↔ S.al x = true ∧ ¬ Rc S x) (hn : ot.Nodup) : ot.Perm (lostL S) := by
  refine (List.perm_ext_iff_of_nodup hn (lost_nodup S)).2 (fun x => ?_)
  rw [hm, lost_mem]
  constructor
  · intro h; exact ⟨hI.al x h.1, h⟩
  · intro h; exact h.2
theorem lost_eq {S : Gs} {l : List Nat} (hp : l.Perm (lostL S)) (hs : l.Pairwise (· ≤ ·)) : l = lostL S :=
  List.Perm.eq_of_pairwise (le := fun a b => a ≤ b) (fun a b _ _ h1 h2 => Nat.le_antisymm h1 h2) hs ((lost_sorted S).imp (fun h => Nat.le_of_lt h)) hp
theorem lenR_bound {n : Nat} (ord : Nat → List Nat) (h : ∀ i, i < n + 1 → (ord i).length ≤ n) : ∀ m, m ≤ n + 1 → lenR ord m ≤ m * n
  | 0, _ => by simp [lenR]
  | m + 1, hm => by
    rw [lenR_succ]
    have h1 := lenR_bound ord h m (by omega)
    have h2 := h m (by omega)
    have h3 : (m + 1) * n = m * n + n := Nat.succ_mul m n
    omega
theorem wt_bound {S : Gs} {K : Nat} (hI : Iv K S) (hn : S.n ≤ 2000) (k : Nat) (hk : k ≤ S.n) : k + wtR (hlO S) (List.replicate (S.n + 1) false) (S.n + 1) ≤ 8000000 := by
  rw [wtR_len]
  have h1 := lenR_bound (n := S.n) (hlO S) (fun i _ => by unfold hlO; rw [List.length_map]; exact hI.len i) (S.n + 1) (Nat.le_refl _)
  have h2 : (S.n + 1) * S.n ≤ 2001 * 2000 := Nat.mul_le_mul (by omega) hn
  omega
end Go.Proofs.Ytjnalkeopehlbaa
