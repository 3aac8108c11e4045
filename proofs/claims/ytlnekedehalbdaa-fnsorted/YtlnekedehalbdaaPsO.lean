import Derived.Test.YtlnekedehalbdaaPsN
namespace Go.Proofs.Ytlnekedehalbdaa
open Go.RowKit
set_option linter.unusedVariables false
set_option linter.unusedSimpArgs false

theorem SK.start (w0 W : World) (kv : Value) (hB : Below w0.heap.size w0 W) (hz : w0.heap.size + 2 ≤ W.heap.size) (ck : W.cell? ⟨w0.heap.size, 0, none⟩ = some kv) (cq : W.cell? ⟨w0.heap.size + 1, 0, none⟩ = some (.int .i64 0)) (fq : W.frozen? ⟨w0.heap.size + 1, 0, none⟩ = false) : SK w0 W.heap.size kv (W.alloc (.cells #[.func (.func 26) #[] (fvK w0.heap.size), .bool false] 62)) ⟨[], false⟩ := by
  have bL := al_below W (.cells #[.func (.func 26) #[] (fvK w0.heap.size), .bool false] 62)
  exact ⟨hB.trans (bL.mono hB.size), by omega, by simp, by rw [World.cell?_alloc_at _ _ _ _ rfl]; rfl, by rw [World.cell?_alloc_at _ _ _ _ rfl]; rfl, fun o => World.frozen?_alloc_at _ _ _ _ (by simp), (bL.cell (p := ⟨w0.heap.size, 0, none⟩) (by show w0.heap.size < _; omega)).trans ck, (bL.cell (p := ⟨w0.heap.size + 1, 0, none⟩) (by show w0.heap.size + 1 < _; omega)).trans cq, (bL.frozen (p := ⟨w0.heap.size + 1, 0, none⟩) (by show w0.heap.size + 1 < _; omega)).trans fq⟩
set_option maxRecDepth 100000 in
set_option maxHeartbeats 1000000 in
theorem keysI_any (w : World) (kv : Value) (keys : List Int) (hk : Rd w kv keys) :
    Calls Try.prog 8 #[kv] w fun e w' => ∃ v, e = .returned (.tuple #[v, .int .i64 (ansK keys).2]) ∧ Own w' w.heap.size v (ansK keys).1 ∧ Below w.heap.size w w' := by
  obtain ⟨ka, kc, rfl⟩ : ∃ a c, kv = .slice a keys.length c := by obtain ⟨a, c, e, _⟩ := hk; exact ⟨a, c, e⟩
  have hmax : keys.length ≤ 16777216 := by obtain ⟨_, _, _, h, _⟩ := hk; exact h
  have bK := al_below w (.cells #[.slice ka keys.length kc] 22)
  have hcK : (w.alloc (.cells #[.slice ka keys.length kc] 22)).cell? ⟨w.heap.size, 0, none⟩ = some (.slice ka keys.length kc) := by rw [World.cell?_alloc_at _ _ _ _ rfl]; rfl
  by_cases hl : 2000 < keys.length
  · have hli : (2000 : Int) < (keys.length : Int) := by omega
    have ha : ansK keys = ([], -1) := by unfold ansK; rw [if_pos hl]
    rw [ha]
    have hO := Own.empty (w.alloc (.cells #[.slice ka keys.length kc] 22))
    go_enter Try.func8, Try.ntmps8
    go_wp2_with fail
    exact bodyPost_ret (v := .tuple #[.slice (some ⟨w.heap.size + 1, 0, none⟩) 0 0, .int .i64 (-1)]) (by simp [results, Try.results8, go_sem]) rfl ⟨_, rfl, by have := hO.mono bK.size; simpa using this, bK.alloc bK.size _⟩
  · have hli : ¬ (2000 : Int) < (keys.length : Int) := by omega
    have ha : ansK keys = ((sortS (tellK keys) keys.length).1.headD [], ((sortS (tellK keys) keys.length).2.h.length : Int)) := by unfold ansK; rw [if_neg hl]
    have htk := sortS_tot (tellK_tot keys) keys.length
    have HA : Hid (ansK keys = ((sortS (tellK keys) keys.length).1.headD [], ((sortS (tellK keys) keys.length).2.h.length : Int))) := ha
    generalize ansK keys = AA at *
    obtain ⟨AL, AN⟩ := AA
    clear ha
    obtain ⟨NK, hNK⟩ : ∃ NK, keys.length = NK := ⟨_, rfl⟩
    have HNK : Hid (keys.length = NK) := hNK
    have HCN := fun W => numbered_any NK W (by omega)
    rw [hNK] at hli hk hcK bK ⊢
    simp only
    clear hNK
    go_enter Try.func8, Try.ntmps8
    go_wp2_with fail
    have cQ : ((w.alloc (.cells #[.slice ka NK kc] 22)).alloc (.cells #[.int .i64 0] 2)).cell? ⟨w.heap.size + 1, 0, none⟩ = some (.int .i64 0) := by rw [World.cell?_alloc_at _ _ _ _ (by simp)]; rfl
    have fQ : ((w.alloc (.cells #[.slice ka NK kc] 22)).alloc (.cells #[.int .i64 0] 2)).frozen? ⟨w.heap.size + 1, 0, none⟩ = false := World.frozen?_alloc_at _ _ _ _ (by simp)
    have cK : ((w.alloc (.cells #[.slice ka NK kc] 22)).alloc (.cells #[.int .i64 0] 2)).cell? ⟨w.heap.size, 0, none⟩ = some (.slice ka NK kc) := cell_al _ hcK
    have bW : Below w.heap.size w ((w.alloc (.cells #[.slice ka NK kc] 22)).alloc (.cells #[.int .i64 0] 2)) := bK.alloc bK.size _
    have zW : ((w.alloc (.cells #[.slice ka NK kc] 22)).alloc (.cells #[.int .i64 0] 2)).heap.size = w.heap.size + 2 := by simp
    refine (HCN _).mono ?_
    clear HCN
    generalize (w.alloc (.cells #[.slice ka NK kc] 22)).alloc (.cells #[.int .i64 0] 2) = W1 at *
    rintro e w2 ⟨g, c, rfl, hO2, hB2⟩
    have hz2 := hB2.size
    have hk0 := hO2.len
    have hgl := hO2.lt g rfl
    have hNc : NK ≤ c := by
      rcases hO2.shape with ⟨e, _⟩ | ⟨g', cap', e, _, _, hc⟩
      · cases e
      · simp only [Value.slice.injEq] at e; rw [nums_len] at hc; omega
    have hS0 := SK.start w w2 (.slice ka NK kc) (bW.trans (hB2.mono bW.size)) (by omega) ((hB2.cell (p := ⟨w.heap.size, 0, none⟩) (by show w.heap.size < _; omega)).trans cK) ((hB2.cell (p := ⟨w.heap.size + 1, 0, none⟩) (by show w.heap.size + 1 < _; omega)).trans cQ) ((hB2.frozen (p := ⟨w.heap.size + 1, 0, none⟩) (by show w.heap.size + 1 < _; omega)).trans fQ)
    have hT := tlrK w w2.heap.size (.slice ka NK kc) keys hk (by omega)
    rw [HNK.out] at hT
    have HC := sorted_any (tellK keys) w.heap.size _ _ w2 W1.heap.size g NK c 26 (fvK w.heap.size) hT hS0 hO2 (by omega) hNc bW.size (fun he => by rcases he with e | e | e <;> omega)
    rw [HNK.out] at htk HA
    have HFV : fvK w.heap.size = #[.pointer (some ⟨w.heap.size + 1, 0, none⟩), .pointer (some ⟨w.heap.size, 0, none⟩)] := rfl
    rw [HFV] at HC
    have HzW : Hid (W1.heap.size = w.heap.size + 2) := zW
    clear hT hS0 HFV hk0 zW
    go_wp2_with fail
    refine HC.mono ?_
    rintro e w3 ⟨v3, rfl, hO3, hS3⟩
    rw [htk] at hO3 ⊢
    have hA := HA.out
    simp only [Prod.mk.injEq] at hA
    obtain ⟨hA1, hA2⟩ := hA
    simp only [Bool.false_eq_true, if_false] at hO3
    have cq := hS3.cq
    rw [← hA1] at hO3
    rw [← hA2] at cq
    have hB3 := hS3.bel
    clear HC hS3 HA hA1 hA2
    obtain ⟨va, vc, rfl⟩ := hO3.form
    have hO4 := hO3.mono (show w.heap.size ≤ w2.heap.size by have := HzW.out; omega)
    go_wp2_with fail
    go_region
    all_goals
      go_wp2_with fail
      exact bodyPost_ret (v := .tuple #[.slice va AL.length vc, .int .i64 AN]) (by simp [results, Try.results8, go_sem]) rfl ⟨_, rfl, hO4.drew, hB3.drew⟩
end Go.Proofs.Ytlnekedehalbdaa
