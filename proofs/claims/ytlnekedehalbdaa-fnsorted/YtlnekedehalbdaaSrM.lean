import Derived.Test.YtlnekedehalbdaaSrW
namespace Go.Proofs.Ytlnekedehalbdaa
open Go.RowKit
set_option linter.unusedVariables false
set_option linter.unusedSimpArgs false

theorem RdF.form {X : Nat} {w : World} {v : Value} {zs : List Int} (h : RdF X w v zs) : ∃ a c, v = .slice a zs.length c := by obtain ⟨⟨a, c, e, _⟩, _⟩ := h; exact ⟨a, c, e⟩
theorem RdF.max {X : Nat} {w : World} {v : Value} {zs : List Int} (h : RdF X w v zs) : zs.length ≤ 16777216 := by obtain ⟨⟨a, c, e, h, _⟩, _⟩ := h; exact h
def slM : Value → Nat
  | .slice _ n _ => n
  | _ => 0
set_option maxRecDepth 100000 in
set_option maxHeartbeats 1000000 in
theorem mergeS_any (t : Tl) (w0 w : World) (X n : Nat) (ov : Bool) (ks an va vb : Value) (A B : List Int) (s : St) (hn : n ≤ 2000) (hL : LessC t w0 X ov ks an n) (hS : SS w0 w X ov ks an s) (ha : RdF X w va A) (hb : RdF X w vb B)
    (hA : ∀ y ∈ A, 0 ≤ y ∧ y < (n : Int)) (hB : ∀ y ∈ B, 0 ≤ y ∧ y < (n : Int)) (hl : s.h.length + A.length + B.length < 1000000) :
    Calls Try.prog 34 #[.pointer (some ⟨X, 0, none⟩), va, vb] w fun e w' => ∃ v, e = .returned v ∧ Own w' w.heap.size v (mrg2 t A B s).1 ∧ SS w0 w' X ov ks an (mrg2 t A B s).2 ∧ Off w w' X := by
  generalize hM : mrg2 t A B s = M
  have HM : Hid (mrg2 t A B s = M) := hM
  clear hM
  have hXw := hS.lt
  have bE : Below w.heap.size w (w.alloc (.cells #[] 2)) := (Below.refl _ w).alloc (Nat.le_refl _) _
  have oE := Own.empty w
  go_enter Try.func34, Try.ntmps34
  go_wp2_with fail
  go_loopw [1, 2, 7] (fun va vb vo wr => ∃ (A' B' O : List Int) (s' : St), RdF X w va A' ∧ RdF X w vb B' ∧ Own wr w.heap.size vo O ∧ SS w0 wr X ov ks an s' ∧ Off w wr X ∧ (∀ y ∈ A', 0 ≤ y ∧ y < (n : Int)) ∧ (∀ y ∈ B', 0 ≤ y ∧ y < (n : Int)) ∧ (s'.h.length + A'.length + B'.length < 1000000 ∧ O.length + A'.length + B'.length < 1000000) ∧ Hid (M = (O ++ (mrg2 t A' B' s').1, (mrg2 t A' B' s').2))) (fun va vb _ _ => slM va + slM vb)
  case atStart => exact ⟨A, B, [], s, ha, hb, oE, hS.keep bE, Off.below bE, hA, hB, ⟨hl, by simp; omega⟩, by rw [← HM.out]; rfl⟩
  case round =>
    obtain ⟨A', B', O, s', ha, hb, hO, hS, hF, hA, hB, hl, hM⟩ := hrel
    clear bE oE HM
    generalize wr = W1 at *
    obtain ⟨oa, oc, eo⟩ := hO.form
    subst eo
    obtain ⟨aa, ac, rfl⟩ := ha.form
    obtain ⟨ba, bc, rfl⟩ := hb.form
    have hk := hS.k
    have hla := ha.max
    have hlb := hb.max
    obtain ⟨LO, hLO⟩ : ∃ LO, O.length = LO := ⟨_, rfl⟩
    have HLO : Hid (O.length = LO) := hLO
    have hz1 := hF.1
    by_cases hgo : A' ≠ [] ∧ B' ≠ [] ∧ s'.k = false
    · obtain ⟨h1, h2, h3⟩ := hgo
      obtain ⟨x, A2, rfl⟩ : ∃ x r, A' = x :: r := by cases A' with | nil => exact absurd rfl h1 | cons x r => exact ⟨x, r, rfl⟩
      obtain ⟨y, B2, rfl⟩ : ∃ x r, B' = x :: r := by cases B' with | nil => exact absurd rfl h2 | cons x r => exact ⟨x, r, rfl⟩
      obtain ⟨ab, ao, rfl, hab, haX, haQ, hac, hacap, -⟩ := ha.head
      obtain ⟨bb, bo, rfl, hbb, hbX, hbQ, hbc, hbcap, -⟩ := hb.head
      have ga : W1.cell? ⟨ab, ao, none⟩ = some (.int .i64 x) := (World.cell?_of_block (a := ⟨ab, ao, none⟩) (hF.2 ab hab haX haQ)).trans hac
      have gb : W1.cell? ⟨bb, bo, none⟩ = some (.int .i64 y) := (World.cell?_of_block (a := ⟨bb, bo, none⟩) (hF.2 bb hbb hbX hbQ)).trans hbc
      have hx := hA x (List.mem_cons_self ..)
      have hy := hB y (List.mem_cons_self ..)
      obtain ⟨xn, rfl⟩ : ∃ xn : Nat, x = (xn : Int) := ⟨x.toNat, by omega⟩
      obtain ⟨yn, rfl⟩ : ∃ yn : Nat, y = (yn : Int) := ⟨y.toNat, by omega⟩
      have HC : ∀ W, SS w0 W X ov ks an s' → _ := fun W h => hL W s' yn xn h (by omega) (by omega) (by simp at hl; omega)
      have hst := mrg2_step t (xn : Int) (yn : Int) A2 B2 s'
      have hal := (ask_len t s' (yn : Int) (xn : Int)).2
      rw [h3] at hk
      generalize hAsk : ask t s' (yn : Int) (xn : Int) = R at *
      obtain ⟨r, s2⟩ := R
      obtain ⟨TA, hTA⟩ : ∃ TA, A2.length = TA := ⟨_, rfl⟩
      obtain ⟨TB, hTB⟩ : ∃ TB, B2.length = TB := ⟨_, rfl⟩
      have HTA : Hid (A2.length = TA) := hTA
      have HTB : Hid (B2.length = TB) := hTB
      have hta := ha.tail
      have htb := hb.tail
      simp only [List.length_cons] at hl hla hlb ha hb hacap hbcap ⊢
      rw [hTA] at hl hla ha hacap hta ⊢
      rw [hTB] at hl hlb hb hbcap htb ⊢
      rw [hLO] at hl hO ⊢
      have Hst : Hid (mrg2 t (↑xn :: A2) (↑yn :: B2) s' = if r then ((yn : Int) :: (mrg2 t (↑xn :: A2) B2 s2).1, (mrg2 t (↑xn :: A2) B2 s2).2) else ((xn : Int) :: (mrg2 t A2 (↑yn :: B2) s2).1, (mrg2 t A2 (↑yn :: B2) s2).2)) := hst
      clear hst hAsk hTA hTB hLO h1 h2
      have g1 : (0 : Int) < (TA : Int) + 1 := by omega
      have g2 : (0 : Int) < (TB : Int) + 1 := by omega
      go_wp2_with fail
      go_region_held3 (fun W => W.cell? ⟨ab, ao, none⟩ = some (.int .i64 xn) ∧ W.cell? ⟨bb, bo, none⟩ = some (.int .i64 yn)) (go_keep) (first | (go_at_call 40; refine (HC _ (hS.keep (Below.refl _ _).drew)).mono ?_; rintro e w3 ⟨rfl, hS3, hF3⟩; have ga3 : w3.cell? ⟨ab, ao, none⟩ = some (.int .i64 xn) := (World.cell?_of_block (a := ⟨ab, ao, none⟩) ((hF.low (Below.refl _ _).drew).trans hF3 |>.2 ab hab haX haQ)).trans hac; have gb3 : w3.cell? ⟨bb, bo, none⟩ = some (.int .i64 yn) := (World.cell?_of_block (a := ⟨bb, bo, none⟩) ((hF.low (Below.refl _ _).drew).trans hF3 |>.2 bb hbb hbX hbQ)).trans hbc))
      have hF4 : Off w w3 X := (hF.low (Below.refl _ _).drew).trans hF3
      have hO4 : Own w3 w.heap.size (.slice oa LO oc) O := (hO.drew).off (X := X) hXw hF3
      have hz4 := hF4.1
      have hxR : -9223372036854775808 ≤ (xn : Int) ∧ (xn : Int) < 9223372036854775808 := by omega
      have hyR : -9223372036854775808 ≤ (yn : Int) ∧ (yn : Int) < 9223372036854775808 := by omega
      try simp only at hS3
      try simp only at hal
      clear HC hk ga gb hF hO hS hF3
      have q1 : (1 : Int) ≤ (TA : Int) + 1 := by omega
      have q2 : (TA : Int) + 1 ≤ (ac : Int) := by omega
      have q3 : (1 : Int) ≤ (TB : Int) + 1 := by omega
      have q4 : (TB : Int) + 1 ≤ (bc : Int) := by omega
      cases r
      · go_wp2_with (at_builtin; refine wpList_append_gb rfl _ _ 22 rfl Try.underlying22 w.heap.size _ _ O [(xn : Int)] (LO + 1) (by simp [HLO.out]) rfl rfl (hO4.alloc _) (Rd.one w3 w3.heap.size rfl 2 hxR.1 hxR.2) (by simp) (by omega) (by simp; omega) ?_; intro a5 c5 w5 hO5 hg5)
        have bL : Below w3.heap.size w3 (w3.alloc (.cells #[.int .i64 (xn : Int)] 2)) := (Below.refl _ w3).alloc (Nat.le_refl _) _
        have hS5 : SS w0 w5 X ov ks an s2 := (hS3.keep bL).gb (hO4.alloc _) hXw hg5
        have hF5 : Off w w5 X := (hF4.low (bL.mono hz4)).far hg5 (fun j hj => (hO4.lt j hj).1)
        go_roundw
        case rel => exact ⟨A2, (yn : Int) :: B2, O ++ [(xn : Int)], s2, hta, hb, hO5, hS5, hF5, fun z hz => hA z (List.mem_cons_of_mem _ hz), hB, by have := HLO.out; have := HTA.out; have := HTB.out; simp only [List.length_append, List.length_cons, List.length_nil]; constructor <;> omega, by have h := hM.out; rw [Hst.out] at h; exact h.trans (by simp)⟩
        case measure => simp [slM]
      · go_wp2_with (at_builtin; refine wpList_append_gb rfl _ _ 22 rfl Try.underlying22 w.heap.size _ _ O [(yn : Int)] (LO + 1) (by simp [HLO.out]) rfl rfl (hO4.alloc _) (Rd.one w3 w3.heap.size rfl 2 hyR.1 hyR.2) (by simp) (by omega) (by simp; omega) ?_; intro a5 c5 w5 hO5 hg5)
        have bL : Below w3.heap.size w3 (w3.alloc (.cells #[.int .i64 (yn : Int)] 2)) := (Below.refl _ w3).alloc (Nat.le_refl _) _
        have hS5 : SS w0 w5 X ov ks an s2 := (hS3.keep bL).gb (hO4.alloc _) hXw hg5
        have hF5 : Off w w5 X := (hF4.low (bL.mono hz4)).far hg5 (fun j hj => (hO4.lt j hj).1)
        go_roundw
        case rel => exact ⟨(xn : Int) :: A2, B2, O ++ [(yn : Int)], s2, ha, htb, hO5, hS5, hF5, hA, fun z hz => hB z (List.mem_cons_of_mem _ hz), by have := HLO.out; have := HTA.out; have := HTB.out; simp only [List.length_append, List.length_cons, List.length_nil]; constructor <;> omega, by have h := hM.out; rw [Hst.out] at h; exact h.trans (by simp)⟩
        case measure => simp [slM]
    · have hend : M = (O ++ (A' ++ B'), s') := by
        rw [hM.out]
        by_cases h1 : A' = []
        · subst h1; rw [mrg2_nilL]; simp
        · by_cases h2 : B' = []
          · subst h2; rw [mrg2_nilR]; simp
          · have h3 : s'.k = true := by
              cases h : s'.k
              · exact absurd ⟨h1, h2, h⟩ hgo
              · rfl
            rw [mrg2_stuck t A' B' s' h3]
      have ra := (ha.off hF).1
      have RB : ∀ W, Off w W X → Rd W (.slice ba B'.length bc) B' := fun W h => (hb.off h).1
      obtain ⟨LA, hLA⟩ : ∃ LA, A'.length = LA := ⟨_, rfl⟩
      obtain ⟨LB, hLB⟩ : ∃ LB, B'.length = LB := ⟨_, rfl⟩
      have HLA : Hid (A'.length = LA) := hLA
      have HLB : Hid (B'.length = LB) := hLB
      have hcase : LA = 0 ∨ (0 < LA ∧ LB = 0) ∨ (0 < LA ∧ 0 < LB ∧ s'.k = true) := by
        rcases Nat.eq_zero_or_pos LA with h | h
        · exact .inl h
        · rcases Nat.eq_zero_or_pos LB with h2 | h2
          · exact .inr (.inl ⟨h, h2⟩)
          · refine .inr (.inr ⟨h, h2, ?_⟩)
            cases hk' : s'.k
            · exact absurd ⟨fun e => by subst e; simp at hLA; omega, fun e => by subst e; simp at hLB; omega, hk'⟩ hgo
            · rfl
      rw [hLA] at hl ra ⊢
      rw [hLB] at hl RB ⊢
      rw [hLO] at hl hO ⊢
      have Hend : Hid (M = (O ++ (A' ++ B'), s')) := hend
      clear hend hgo hLA hLB hLO hla hlb ha hb hM hA hB
      rcases hcase with h0 | ⟨h1, h0⟩ | ⟨h1, h2, h0⟩
      · have g1 : ¬ (0 : Int) < (LA : Int) := by omega
        clear h0
        go_wp2_with (at_builtin; first | (refine wpList_append_rg rfl _ _ 22 rfl Try.underlying22 w.heap.size _ _ (O ++ A') B' (LO + LA + LB) (by simp [HLO.out, HLA.out, HLB.out]) rfl rfl hO5 rb5 (by omega) (by omega) ?_; intro a6 c6 w6 hO6 hg6) | (refine wpList_append_rg rfl _ _ 22 rfl Try.underlying22 w.heap.size _ _ O A' (LO + LA) (by simp [HLO.out, HLA.out]) rfl rfl hO ra (by omega) (by omega) ?_; intro a5 c5 w5 hO5 hg5; have hF5 : Off w w5 X := hF.far hg5 (fun j hj => (hO.lt j hj).1); have rb5 := (RB w5 hF5); have hz5 := hF5.1))
        have hS5 := hS.gb hO hXw hg5
        have hS6 := hS5.gb hO5 hXw hg6
        have hF6 : Off w w6 X := hF5.far hg6 (fun j hj => (hO5.lt j hj).1)
        go_ret
        rw [Hend.out]
        exact ⟨_, rfl, by simpa using hO6, hS6, hF6⟩
      · have g1 : (0 : Int) < (LA : Int) := by omega
        have g2 : ¬ (0 : Int) < (LB : Int) := by omega
        clear h0
        go_wp2_with (at_builtin; first | (refine wpList_append_rg rfl _ _ 22 rfl Try.underlying22 w.heap.size _ _ (O ++ A') B' (LO + LA + LB) (by simp [HLO.out, HLA.out, HLB.out]) rfl rfl hO5 rb5 (by omega) (by omega) ?_; intro a6 c6 w6 hO6 hg6) | (refine wpList_append_rg rfl _ _ 22 rfl Try.underlying22 w.heap.size _ _ O A' (LO + LA) (by simp [HLO.out, HLA.out]) rfl rfl hO ra (by omega) (by omega) ?_; intro a5 c5 w5 hO5 hg5; have hF5 : Off w w5 X := hF.far hg5 (fun j hj => (hO.lt j hj).1); have rb5 := (RB w5 hF5); have hz5 := hF5.1))
        have hS5 := hS.gb hO hXw hg5
        have hS6 := hS5.gb hO5 hXw hg6
        have hF6 : Off w w6 X := hF5.far hg6 (fun j hj => (hO5.lt j hj).1)
        go_ret
        rw [Hend.out]
        exact ⟨_, rfl, by simpa using hO6, hS6, hF6⟩
      · have g1 : (0 : Int) < (LA : Int) := by omega
        have g2 : (0 : Int) < (LB : Int) := by omega
        rw [h0] at hk
        clear h0
        go_wp2_with (at_builtin; first | (refine wpList_append_rg rfl _ _ 22 rfl Try.underlying22 w.heap.size _ _ (O ++ A') B' (LO + LA + LB) (by simp [HLO.out, HLA.out, HLB.out]) rfl rfl hO5 rb5 (by omega) (by omega) ?_; intro a6 c6 w6 hO6 hg6) | (refine wpList_append_rg rfl _ _ 22 rfl Try.underlying22 w.heap.size _ _ O A' (LO + LA) (by simp [HLO.out, HLA.out]) rfl rfl hO ra (by omega) (by omega) ?_; intro a5 c5 w5 hO5 hg5; have hF5 : Off w w5 X := hF.far hg5 (fun j hj => (hO.lt j hj).1); have rb5 := (RB w5 hF5); have hz5 := hF5.1))
        have hS5 := hS.gb hO hXw hg5
        have hS6 := hS5.gb hO5 hXw hg6
        have hF6 : Off w w6 X := hF5.far hg6 (fun j hj => (hO5.lt j hj).1)
        go_ret
        rw [Hend.out]
        exact ⟨_, rfl, by simpa using hO6, hS6, hF6⟩
end Go.Proofs.Ytlnekedehalbdaa
