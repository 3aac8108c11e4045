import Derived.Test.YtfbibbjiomfncaaFtA
namespace Go.Proofs.Ytfbibbjiomfncaa
open Go.RowKit
set_option linter.unusedVariables false
set_option linter.unusedSimpArgs false

set_option maxRecDepth 100000 in
set_option maxHeartbeats 1000000 in
theorem fitsI_any (v : Value) (cs : List Cl) (w : World) (hr : RdC w v cs) :
    Calls Try.prog 22 #[v] w fun e w' => ∃ u, e = .returned u ∧ OwnG shB 4 w' w.heap.size u (fitsC cs) ∧ Below w.heap.size w w' := by
  obtain ⟨i0, hi, hz0, hz1, hz2⟩ := info_parts Try.info4
  obtain ⟨va, vc, ev⟩ := hr.form
  subst ev
  generalize hF : fitsC cs = F
  have HF : Hid (fitsC cs = F) := hF
  clear hF
  go_enter Try.func22, Try.ntmps22
  go_wp2_with fail
  refine (okCI_any _ cs _ hr).mono ?_
  rintro e w1 ⟨rfl, hB1⟩
  by_cases hok : OkCs cs
  · rw [dec_true hok]
    have HF2 : Hid (fitL (lnsC cs cs.length) = F) := by rw [Hid, ← HF.out]; unfold fitsC; rw [dec_true hok]; rfl
    have hn2 : cs.length ≤ 200 := hok.1
    have HOK : Hid (OkCs cs) := hok
    obtain ⟨NN, hNN⟩ : ∃ NN, cs.length = NN := ⟨_, rfl⟩
    have HNN : Hid (cs.length = NN) := hNN
    have hr1 := hr.keep hB1
    rw [hNN] at hn2 hr1 ⊢
    clear hNN hok
    go_wp2_with (at_make; refine wpList_make_own _ rfl _ _ 35 rfl w1.heap.size 4 i0 _ 1 Try.underlying35 hi hz0 hz1 .i64 .i64 _ NN rfl rfl (by go_num) (by rw [hz2]; omega) (by unfold maxLen; omega) (by simp) ?_; intro w2 hown hgrow; have hB2 := (Below.refl w1.heap.size w1).grown hgrow (Nat.le_refl _) (by intro k h; cases h))
    have o1 : OwnG shB 4 w2 w1.heap.size (.slice (some ⟨w1.heap.size, 0, none⟩) 0 NN) [] := ⟨hown, by simp, by simp⟩
    have hr2 := hr1.keep hB2
    have hB02 := hB1.trans (hB2.mono hB1.size)
    clear hown hgrow
    go_wp2_with fail
    refine (linesI_any _ cs _ hr2 HOK.out).mono ?_
    rintro e w3 ⟨g, cap, rfl, hL, hB3⟩
    have hB03 := hB02.trans (hB3.mono hB02.size)
    have o2 := (o1.keep hB3).mono hB1.size
    have hll := lns_len cs cs.length
    have HLL : Hid ((lnsC cs cs.length).length = cs.length) := hll
    generalize lnsC cs cs.length = Ls at *
    rw [HNN.out] at hL ⊢
    clear hll o1 hB02
    have hB02 := hB03
    go_wp2_with fail
    obtain ⟨sls, hS, hsl, hsn⟩ := LLn.heads hL
    have HSL : Hid (sls.length = NN) := by rw [Hid, hsl, HLL.out]; exact HNN.out
    have HLS : Hid (Ls.length = NN) := by rw [Hid, HLL.out]; exact HNN.out
    have HSN : Hid _ := hsn
    clear hL hsl hsn
    go_loopw [3, 16] (fun o i wr => ∃ k : Nat, k ≤ NN ∧ i = .int .i64 k ∧ OwnG shB 4 wr w.heap.size o (fitL (Ls.take k)) ∧ OwnG shL 51 wr w2.heap.size (.slice (some ⟨g, 0, none⟩) NN cap) sls ∧ Below w.heap.size w wr) (fun _ i _ => NN - (intOf i).toNat)
    case atStart => exact ⟨0, Nat.zero_le _, rfl, by simpa [fitL] using o2, hS, hB02⟩
    case round =>
      obtain ⟨k, hk, rfl, hO, hS1, hB⟩ := hrel
      clear o2 hS
      generalize wr = W1 at *
      obtain ⟨oa, oc, eo⟩ := hO.form
      subst eo
      have hz := hB.size
      by_cases hlt : k < NN
      · have hlti : (k : Int) < (NN : Int) := by omega
        have hks : k < sls.length := by rw [HSL.out]; exact hlt
        have hkl : k < Ls.length := by rw [HLS.out]; exact hlt
        have d0 : W1.cell? ⟨g, k, none⟩ = some sls[k].val := by
          have := hS1.cell k hks 0 (by decide)
          simpa [shL] using this
        have HSk := HSN.out k hks hkl
        have Hft := fitL_take Ls k hkl
        have HFt : Hid _ := Hft
        have hfl : (fitL (Ls.take k)).length ≤ 200 := by simp [fitL]; omega
        generalize Ls[k].length = LK at *
        generalize sls[k] = SK at *
        obtain ⟨sa, sn, sc⟩ := SK
        simp only [Sl.val] at d0 HSk
        subst HSk
        have hun := own_unlike hS1 hO (by decide)
        have hS2 := hS1.alloc (.cells #[.bool (decide (0 < sn))] 4)
        have hO2 := hO.alloc (.cells #[.bool (decide (0 < sn))] 4)
        generalize hFL : fitL (Ls.take k) = FL at *
        clear hFL Hft
        go_wp2_with (at_builtin; refine wpList_append_one (S := shB) Try.info4 rfl (by omega) rfl _ _ 35 rfl Try.underlying35 w.heap.size _ FL (decide (0 < sn)) trivial W1.heap.size 1 rfl rfl hO2 (bool_new W1 _ _ _ rfl) (by omega) (by simp; omega) ?_; intro a' c' w' hO' hg')
        have hS3 := hS2.but hg' (.inr (fun e => hun e.symm))
        have hB3 : Below w.heap.size w w' := (hB.alloc hz _).trans (gb_to hg' (fun j hj => (hO2.lt j hj).1) (by simp; omega))
        simp only [List.length_append, List.length_singleton] at hO'
        rw [← HFt.out] at hO'
        go_roundw
        case rel => exact ⟨k + 1, by omega, by go_num, hO', hS3, hB3⟩
        case measure => simp [intOf]; omega
      · obtain rfl : NN = k := by omega
        have hlti : ¬ (NN : Int) < (NN : Int) := by omega
        have hFF : fitL (Ls.take NN) = F := by rw [← HF2.out, ← HLS.out, List.take_length]
        rw [hFF] at hO
        go_wp2_with fail
        go_ret
        exact ⟨_, rfl, hO, hB⟩
  · rw [dec_false hok]
    obtain rfl : F = [] := by rw [← HF.out]; unfold fitsC; rw [dec_false hok]; rfl
    have oE := OwnG.empty shB 4 w1 w1.heap.size rfl w.heap.size hB1.size
    go_wp2_with fail
    go_ret
    exact ⟨_, rfl, oE, hB1.alloc hB1.size _⟩
end Go.Proofs.Ytfbibbjiomfncaa
