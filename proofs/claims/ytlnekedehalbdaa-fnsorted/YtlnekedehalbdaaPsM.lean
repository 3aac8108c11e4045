import Derived.Test.YtlnekedehalbdaaPsA
namespace Go.Proofs.Ytlnekedehalbdaa
open Go.RowKit
set_option linter.unusedVariables false
set_option linter.unusedSimpArgs false

set_option maxRecDepth 100000 in
set_option maxHeartbeats 1000000 in
theorem merged_any (t : Tl) (n Z Y : Nat) (E : Nat → Prop) (S : World → St → Prop) (T : Tlr t n Z Y E S) (w : World) (va vb : Value) (A B : List Int) (s : St) (hn : n ≤ 2000) (hS : S w s) (ha : RdY E w va A) (hb : RdY E w vb B)
    (hA : ∀ y ∈ A, 0 ≤ y ∧ y < (n : Int)) (hB : ∀ y ∈ B, 0 ≤ y ∧ y < (n : Int)) (hl : s.h.length + A.length + B.length < 1000000) :
    Calls Try.prog 43 #[.pointer (some ⟨Y, 0, none⟩), va, vb] w fun e w' => ∃ v, e = .returned v ∧ Own w' w.heap.size v (mrg2 t A B s).1 ∧ S w' (mrg2 t A B s).2 ∧ OfE E w w' := by
  generalize hM : mrg2 t A B s = M
  have HM : Hid (mrg2 t A B s = M) := hM
  clear hM
  have hEw := T.lt w s hS
  have hZw := T.bel w s hS
  obtain ⟨aa0, ac0, rfl⟩ := ha.form
  obtain ⟨ba0, bc0, rfl⟩ := hb.form
  have hla := ha.max
  have hlb := hb.max
  obtain ⟨NA, hNA⟩ : ∃ NA, A.length = NA := ⟨_, rfl⟩
  obtain ⟨NB, hNB⟩ : ∃ NB, B.length = NB := ⟨_, rfl⟩
  rw [hNA] at hla ha hl ⊢
  rw [hNB] at hlb hb hl ⊢
  have HNA : Hid (A.length = NA) := hNA
  have HNB : Hid (B.length = NB) := hNB
  clear hNA hNB
  obtain ⟨i0, hi, hi0, hi1, hi2⟩ := info_parts Try.info2
  go_enter Try.func43, Try.ntmps43
  go_wp2_with (at_make; refine wpList_make_own _ rfl _ _ 22 rfl w.heap.size 2 i0 _ 1 Try.underlying22 hi hi0 hi1 .i64 .i64 _ (NA + NB) rfl rfl (by go_num) (by rw [hi2]; omega) (by unfold maxLen; omega) (by simp) ?_; intro w1 hown hgrow)
  have bE : Below w.heap.size w w1 := (Below.refl w.heap.size w).grown hgrow (Nat.le_refl _) (by intro k h; cases h)
  have oE : Own w1 w.heap.size (.slice (some ⟨w.heap.size, 0, none⟩) 0 (NA + NB)) [] := ⟨hown, by simp, Limbs.nil⟩
  clear hown hgrow
  go_loopw [1, 2, 7] (fun va vb vo wr => ∃ (A' B' O : List Int) (s' : St), RdY E w va A' ∧ RdY E w vb B' ∧ Own wr w.heap.size vo O ∧ S wr s' ∧ OfE E w wr ∧ (∀ y ∈ A', 0 ≤ y ∧ y < (n : Int)) ∧ (∀ y ∈ B', 0 ≤ y ∧ y < (n : Int)) ∧ (s'.h.length + A'.length + B'.length < 1000000 ∧ O.length + A'.length + B'.length < 1000000) ∧ Hid (M = (O ++ (mrg2 t A' B' s').1, (mrg2 t A' B' s').2))) (fun va vb _ _ => slM va + slM vb)
  case atStart => exact ⟨A, B, [], s, ha, hb, oE, T.al hS bE, OfE.below bE, hA, hB, ⟨by rw [HNA.out, HNB.out]; exact hl, by rw [HNA.out, HNB.out]; simp; omega⟩, by rw [← HM.out]; rfl⟩
  case round =>
    obtain ⟨A', B', O, s', ha, hb, hO, hS, hF, hA, hB, hl, hM⟩ := hrel
    clear bE oE HM
    generalize wr = W1 at *
    obtain ⟨oa, oc, eo⟩ := hO.form
    subst eo
    obtain ⟨aa, ac, rfl⟩ := ha.form
    obtain ⟨ba, bc, rfl⟩ := hb.form
    have hla := ha.max
    have hlb := hb.max
    obtain ⟨LO, hLO⟩ : ∃ LO, O.length = LO := ⟨_, rfl⟩
    have HLO : Hid (O.length = LO) := hLO
    have hz1 := hF.1
    by_cases hgo : A' ≠ [] ∧ B' ≠ []
    · obtain ⟨h1, h2⟩ := hgo
      obtain ⟨x, A2, rfl⟩ : ∃ x r, A' = x :: r := by cases A' with | nil => exact absurd rfl h1 | cons x r => exact ⟨x, r, rfl⟩
      obtain ⟨y, B2, rfl⟩ : ∃ x r, B' = x :: r := by cases B' with | nil => exact absurd rfl h2 | cons x r => exact ⟨x, r, rfl⟩
      obtain ⟨ab, ao, rfl, hab, haX, haQ, hac, hacap, -⟩ := ha.head
      obtain ⟨bb, bo, rfl, hbb, hbX, hbQ, hbc, hbcap, -⟩ := hb.head
      have ga : W1.cell? ⟨ab, ao, none⟩ = some (.int .i64 x) := (World.cell?_of_block (a := ⟨ab, ao, none⟩) (hF.2 ab hab haX haQ.nq)).trans hac
      have gb : W1.cell? ⟨bb, bo, none⟩ = some (.int .i64 y) := (World.cell?_of_block (a := ⟨bb, bo, none⟩) (hF.2 bb hbb hbX hbQ.nq)).trans hbc
      have hx := hA x (List.mem_cons_self ..)
      have hy := hB y (List.mem_cons_self ..)
      obtain ⟨xn, rfl⟩ : ∃ xn : Nat, x = (xn : Int) := ⟨x.toNat, by omega⟩
      obtain ⟨yn, rfl⟩ : ∃ yn : Nat, y = (yn : Int) := ⟨y.toNat, by omega⟩
      have HC : ∀ W, S W s' → _ := fun W h => T.ask W s' yn xn h (by omega) (by omega) (by simp at hl; omega)
      have hst := mrg2_step t (xn : Int) (yn : Int) A2 B2 s'
      have hal := (ask_len t s' (yn : Int) (xn : Int)).2
      generalize hAsk : ask t s' (yn : Int) (xn : Int) = R at *
      obtain ⟨r, s2⟩ := R
      obtain ⟨TA, hTA⟩ : ∃ TA, A2.length = TA := ⟨_, rfl⟩
      obtain ⟨TB, hTB⟩ : ∃ TB, B2.length = TB := ⟨_, rfl⟩
      have HTA : Hid (A2.length = TA) := hTA
      have HTB : Hid (B2.length = TB) := hTB
      have hta := ha.tail
      have htb := hb.tail
      simp only [List.length_cons] at hl hla hlb ha hb hacap hbcap ⊢
      rw [hTA] at hl hla ha hacap hta ⊢
      rw [hTB] at hl hlb hb hbcap htb ⊢
      rw [hLO] at hl hO ⊢
      have Hst : Hid (mrg2 t (↑xn :: A2) (↑yn :: B2) s' = if r then ((yn : Int) :: (mrg2 t (↑xn :: A2) B2 s2).1, (mrg2 t (↑xn :: A2) B2 s2).2) else ((xn : Int) :: (mrg2 t A2 (↑yn :: B2) s2).1, (mrg2 t A2 (↑yn :: B2) s2).2)) := hst
      clear hst hAsk hTA hTB hLO h1 h2
      have g1 : (0 : Int) < (TA : Int) + 1 := by omega
      have g2 : (0 : Int) < (TB : Int) + 1 := by omega
      go_wp2_with fail
      go_region_held3 (fun W => W.cell? ⟨ab, ao, none⟩ = some (.int .i64 xn) ∧ W.cell? ⟨bb, bo, none⟩ = some (.int .i64 yn)) (go_keep) (first | (go_at_call 45; refine (HC _ (T.al hS (Below.refl _ _).drew)).mono ?_; rintro e w3 ⟨rfl, hS3, hF3⟩; have ga3 : w3.cell? ⟨ab, ao, none⟩ = some (.int .i64 xn) := (World.cell?_of_block (a := ⟨ab, ao, none⟩) ((hF.low (Below.refl _ _).drew).trans hF3 |>.2 ab hab haX haQ.nq)).trans hac; have gb3 : w3.cell? ⟨bb, bo, none⟩ = some (.int .i64 yn) := (World.cell?_of_block (a := ⟨bb, bo, none⟩) ((hF.low (Below.refl _ _).drew).trans hF3 |>.2 bb hbb hbX hbQ.nq)).trans hbc))
      have hF4 : OfE E w w3 := (hF.low (Below.refl _ _).drew).trans hF3
      have hO4 : Own w3 w.heap.size (.slice oa LO oc) O := (hO.drew).offE (fun q hq he => by have := (hO.lt q hq).1; have := hEw q he; omega) hF3
      have hz4 := hF4.1
      have hxR : -9223372036854775808 ≤ (xn : Int) ∧ (xn : Int) < 9223372036854775808 := by omega
      have hyR : -9223372036854775808 ≤ (yn : Int) ∧ (yn : Int) < 9223372036854775808 := by omega
      try simp only at hS3
      try simp only at hal
      clear HC ga gb hF hO hS hF3
      have q1 : (1 : Int) ≤ (TA : Int) + 1 := by omega
      have q2 : (TA : Int) + 1 ≤ (ac : Int) := by omega
      have q3 : (1 : Int) ≤ (TB : Int) + 1 := by omega
      have q4 : (TB : Int) + 1 ≤ (bc : Int) := by omega
      cases r
      · go_wp2_with (at_builtin; refine wpList_append_gb rfl _ _ 22 rfl Try.underlying22 w.heap.size _ _ O [(xn : Int)] (LO + 1) (by simp [HLO.out]) rfl rfl (hO4.alloc _) (Rd.one w3 w3.heap.size rfl 2 hxR.1 hxR.2) (by simp) (by omega) (by simp; omega) ?_; intro a5 c5 w5 hO5 hg5)
        have bL : Below w3.heap.size w3 (w3.alloc (.cells #[.int .i64 (xn : Int)] 2)) := (Below.refl _ w3).alloc (Nat.le_refl _) _
        have hS5 : S w5 s2 := T.gi (T.al hS3 bL) (hO4.alloc _) hZw (fun q hq he => by have := (hO4.lt q hq).1; have := hEw q he; omega) hg5
        have hF5 : OfE E w w5 := (hF4.low (bL.mono hz4)).far hg5 (fun j hj => (hO4.lt j hj).1)
        go_roundw
        case rel => exact ⟨A2, (yn : Int) :: B2, O ++ [(xn : Int)], s2, hta, hb, hO5, hS5, hF5, fun z hz => hA z (List.mem_cons_of_mem _ hz), hB, by have := HLO.out; have := HTA.out; have := HTB.out; simp only [List.length_append, List.length_cons, List.length_nil]; constructor <;> omega, by have h := hM.out; rw [Hst.out] at h; exact h.trans (by simp)⟩
        case measure => simp [slM]
      · go_wp2_with (at_builtin; refine wpList_append_gb rfl _ _ 22 rfl Try.underlying22 w.heap.size _ _ O [(yn : Int)] (LO + 1) (by simp [HLO.out]) rfl rfl (hO4.alloc _) (Rd.one w3 w3.heap.size rfl 2 hyR.1 hyR.2) (by simp) (by omega) (by simp; omega) ?_; intro a5 c5 w5 hO5 hg5)
        have bL : Below w3.heap.size w3 (w3.alloc (.cells #[.int .i64 (yn : Int)] 2)) := (Below.refl _ w3).alloc (Nat.le_refl _) _
        have hS5 : S w5 s2 := T.gi (T.al hS3 bL) (hO4.alloc _) hZw (fun q hq he => by have := (hO4.lt q hq).1; have := hEw q he; omega) hg5
        have hF5 : OfE E w w5 := (hF4.low (bL.mono hz4)).far hg5 (fun j hj => (hO4.lt j hj).1)
        go_roundw
        case rel => exact ⟨(xn : Int) :: A2, B2, O ++ [(yn : Int)], s2, ha, htb, hO5, hS5, hF5, hA, fun z hz => hB z (List.mem_cons_of_mem _ hz), by have := HLO.out; have := HTA.out; have := HTB.out; simp only [List.length_append, List.length_cons, List.length_nil]; constructor <;> omega, by have h := hM.out; rw [Hst.out] at h; exact h.trans (by simp)⟩
        case measure => simp [slM]
    · have hend : M = (O ++ (A' ++ B'), s') := by
        rw [hM.out]
        by_cases h1 : A' = []
        · subst h1; rw [mrg2_nilL]; simp
        · by_cases h2 : B' = []
          · subst h2; rw [mrg2_nilR]; simp
          · exact absurd ⟨h1, h2⟩ hgo
      have ra := (ha.off hF).1
      have RB : ∀ W, OfE E w W → Rd W (.slice ba B'.length bc) B' := fun W h => (hb.off h).1
      obtain ⟨LA, hLA⟩ : ∃ LA, A'.length = LA := ⟨_, rfl⟩
      obtain ⟨LB, hLB⟩ : ∃ LB, B'.length = LB := ⟨_, rfl⟩
      have HLA : Hid (A'.length = LA) := hLA
      have HLB : Hid (B'.length = LB) := hLB
      have hcase : LA = 0 ∨ (0 < LA ∧ LB = 0) := by
        rcases Nat.eq_zero_or_pos LA with h | h
        · exact .inl h
        · rcases Nat.eq_zero_or_pos LB with h2 | h2
          · exact .inr ⟨h, h2⟩
          · exact absurd ⟨fun e => by subst e; simp at hLA; omega, fun e => by subst e; simp at hLB; omega⟩ hgo
      rw [hLA] at hl ra ⊢
      rw [hLB] at hl RB ⊢
      rw [hLO] at hl hO ⊢
      have Hend : Hid (M = (O ++ (A' ++ B'), s')) := hend
      clear hend hgo hLA hLB hLO hla hlb ha hb hM hA hB
      rcases hcase with h0 | ⟨h1, h0⟩
      · have g1 : ¬ (0 : Int) < (LA : Int) := by omega
        clear h0
        go_wp2_with (at_builtin; first | (refine wpList_append_rg rfl _ _ 22 rfl Try.underlying22 w.heap.size _ _ (O ++ A') B' (LO + LA + LB) (by simp [HLO.out, HLA.out, HLB.out]) rfl rfl hO5 rb5 (by omega) (by omega) ?_; intro a6 c6 w6 hO6 hg6) | (refine wpList_append_rg rfl _ _ 22 rfl Try.underlying22 w.heap.size _ _ O A' (LO + LA) (by simp [HLO.out, HLA.out]) rfl rfl hO ra (by omega) (by omega) ?_; intro a5 c5 w5 hO5 hg5; have hF5 : OfE E w w5 := hF.far hg5 (fun j hj => (hO.lt j hj).1); have rb5 := (RB w5 hF5); have hz5 := hF5.1))
        have hS5 := T.gi hS hO hZw (fun q hq he => by have := (hO.lt q hq).1; have := hEw q he; omega) hg5
        have hS6 := T.gi hS5 hO5 hZw (fun q hq he => by have := (hO5.lt q hq).1; have := hEw q he; omega) hg6
        have hF6 : OfE E w w6 := hF5.far hg6 (fun j hj => (hO5.lt j hj).1)
        go_ret
        rw [Hend.out]
        exact ⟨_, rfl, by simpa using hO6, hS6, hF6⟩
      · have g1 : (0 : Int) < (LA : Int) := by omega
        have g2 : ¬ (0 : Int) < (LB : Int) := by omega
        clear h0
        go_wp2_with (at_builtin; first | (refine wpList_append_rg rfl _ _ 22 rfl Try.underlying22 w.heap.size _ _ (O ++ A') B' (LO + LA + LB) (by simp [HLO.out, HLA.out, HLB.out]) rfl rfl hO5 rb5 (by omega) (by omega) ?_; intro a6 c6 w6 hO6 hg6) | (refine wpList_append_rg rfl _ _ 22 rfl Try.underlying22 w.heap.size _ _ O A' (LO + LA) (by simp [HLO.out, HLA.out]) rfl rfl hO ra (by omega) (by omega) ?_; intro a5 c5 w5 hO5 hg5; have hF5 : OfE E w w5 := hF.far hg5 (fun j hj => (hO.lt j hj).1); have rb5 := (RB w5 hF5); have hz5 := hF5.1))
        have hS5 := T.gi hS hO hZw (fun q hq he => by have := (hO.lt q hq).1; have := hEw q he; omega) hg5
        have hS6 := T.gi hS5 hO5 hZw (fun q hq he => by have := (hO5.lt q hq).1; have := hEw q he; omega) hg6
        have hF6 : OfE E w w6 := hF5.far hg6 (fun j hj => (hO5.lt j hj).1)
        go_ret
        rw [Hend.out]
        exact ⟨_, rfl, by simpa using hO6, hS6, hF6⟩
end Go.Proofs.Ytlnekedehalbdaa
