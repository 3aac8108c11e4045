import Derived.Test.YtlnekedehalbdaaPsD
namespace Go.Proofs.Ytlnekedehalbdaa
open Go.RowKit
set_option linter.unusedVariables false
set_option linter.unusedSimpArgs false

def PlanQ (w : World) (A : List (Int × Int) × List Int × Bool) (e : Ending) (w' : World) : Prop := ∃ v0 v1, e = .returned (.tuple #[v0, v1, .bool A.2.2]) ∧ OwnG shQ 43 w' w.heap.size v0 A.1 ∧ Own w' w.heap.size v1 A.2.1 ∧ Below w.heap.size w w'
theorem own_q0 (w : World) : OwnG shQ 43 (w.alloc (.cells #[] 43)) w.heap.size (.slice (some ⟨w.heap.size, 0, none⟩) 0 0) [] := ⟨World.ownsRow_lit w #[] 0 (Nat.le_refl _) (Nat.zero_le _) rfl, by simp, by simp⟩
theorem heap_al (w : World) (cs : Array Value) (T : TypeId) : (w.alloc (.cells cs T)).heap[w.heap.size]? = some (.cells cs T (0, 0)) := by show (Array.push _ _)[Array.size _]? = _; rw [Array.getElem?_push_size]
theorem heap_al' (w : World) (o : Obj) {j : Nat} (h : j < w.heap.size) : (w.alloc o).heap[j]? = w.heap[j]? := (al_below w o).block j h
/-- The start of the program's sorter over answers. -/
theorem SA.start (w0 W : World) (av aq : Value) (hB : Below w0.heap.size w0 W) (hz : w0.heap.size + 3 ≤ W.heap.size) (ck : W.cell? ⟨w0.heap.size, 0, none⟩ = some av) (tk : ∃ cur p, W.heap[w0.heap.size]? = some (.cells cur 29 p)) (tq : ∃ cur p, W.heap[w0.heap.size + 2]? = some (.cells cur 30 p)) (cq : W.cell? ⟨w0.heap.size + 2, 0, none⟩ = some aq) (fq : W.frozen? ⟨w0.heap.size + 2, 0, none⟩ = false) (hO : OwnG shQ 43 W (w0.heap.size + 1) aq []) : SA w0 W.heap.size av (W.alloc (.cells #[.func (.func 27) #[] (fvA w0.heap.size), .bool false] 62)) ⟨[], false⟩ := by
  have bL := al_below W (.cells #[.func (.func 27) #[] (fvA w0.heap.size), .bool false] 62)
  exact ⟨hB.trans (bL.mono hB.size), by omega, by simp, by rw [World.cell?_alloc_at _ _ _ _ rfl]; rfl, by rw [World.cell?_alloc_at _ _ _ _ rfl]; rfl, fun o => World.frozen?_alloc_at _ _ _ _ (by simp), (bL.cell (p := ⟨w0.heap.size, 0, none⟩) (by show w0.heap.size < _; omega)).trans ck, (bL.frozen (p := ⟨w0.heap.size + 2, 0, none⟩) (by show w0.heap.size + 2 < _; omega)).trans fq, ⟨_, _, heap_al W _ _⟩, by rw [heap_al' W _ (by omega)]; exact tk, by rw [heap_al' W _ (by omega)]; exact tq, aq, (bL.cell (p := ⟨w0.heap.size + 2, 0, none⟩) (by show w0.heap.size + 2 < _; omega)).trans cq, hO.alloc _⟩
set_option maxRecDepth 100000 in
set_option maxHeartbeats 1000000 in
theorem planI_any (w : World) (n : Int) (av : Value) (ans : List Bool) (hr : RdG shB w av ans) (hn0 : -9223372036854775808 ≤ n) (hn1 : n < 9223372036854775808) :
    Calls Try.prog 14 #[.int .i64 n, av] w fun e w' => PlanQ w (ansA n ans) e w' := by
  obtain ⟨ra, rc, rfl⟩ := hr.form
  obtain ⟨NA, hNA⟩ : ∃ NA, ans.length = NA := ⟨_, rfl⟩
  have HNA : Hid (ans.length = NA) := hNA
  rw [hNA] at hr ⊢
  clear hNA
  have bK := al_below w (.cells #[.slice ra NA rc] 29)
  by_cases hb : n < 0 ∨ 2000 < n
  · have ha : ansA n ans = ([], [], false) := by unfold ansA; rw [if_pos hb]
    rw [ha]
    have hret : PlanQ w ([], [], false) (.returned (.tuple #[.slice (some ⟨w.heap.size + 1, 0, none⟩) 0 0, .slice (some ⟨w.heap.size + 2, 0, none⟩) 0 0, .bool false])) (((w.alloc (.cells #[.slice ra NA rc] 29)).alloc (.cells #[] 43)).alloc (.cells #[] 2)) := by
      refine ⟨_, _, rfl, ?_, ?_, ?_⟩
      · have := ((own_q0 (w.alloc (.cells #[.slice ra NA rc] 29))).mono bK.size).alloc (.cells #[] 2)
        simpa using this
      · have := (Own.empty ((w.alloc (.cells #[.slice ra NA rc] 29)).alloc (.cells #[] 43))).mono (show w.heap.size ≤ _ by simp; omega)
        simpa using this
      · exact (bK.alloc bK.size _).alloc (by simp; omega) _
    rcases hb with h | h
    · go_enter Try.func14, Try.ntmps14
      go_wp2_with fail
      exact bodyPost_ret (v := .tuple #[.slice (some ⟨w.heap.size + 1, 0, none⟩) 0 0, .slice (some ⟨w.heap.size + 2, 0, none⟩) 0 0, .bool false]) (by simp [results, Try.results14, go_sem]) rfl hret
    · have h0 : ¬ n < 0 := by omega
      go_enter Try.func14, Try.ntmps14
      go_wp2_with fail
      exact bodyPost_ret (v := .tuple #[.slice (some ⟨w.heap.size + 1, 0, none⟩) 0 0, .slice (some ⟨w.heap.size + 2, 0, none⟩) 0 0, .bool false]) (by simp [results, Try.results14, go_sem]) rfl hret
  · have h0 : ¬ n < 0 := by omega
    have h1 : ¬ 2000 < n := by omega
    obtain ⟨m, rfl⟩ : ∃ m : Nat, n = (m : Int) := ⟨n.toNat, by omega⟩
    have hm : m ≤ 2000 := by omega
    have ha : ansA (m : Int) ans = ((sortS (tellA ans) m).2.h, if (sortS (tellA ans) m).2.k then [] else (sortS (tellA ans) m).1.headD [], !(sortS (tellA ans) m).2.k) := by unfold ansA; rw [if_neg hb]; rfl
    have HA : Hid (ansA (m : Int) ans = ((sortS (tellA ans) m).2.h, if (sortS (tellA ans) m).2.k then [] else (sortS (tellA ans) m).1.headD [], !(sortS (tellA ans) m).2.k)) := ha
    generalize ansA (m : Int) ans = AA at *
    have HCN := fun W => numbered_any m W hm
    clear ha hb
    go_enter Try.func14, Try.ntmps14
    go_wp2_with fail
    have z1 : (w.alloc (.cells #[.slice ra NA rc] 29)).heap.size = w.heap.size + 1 := by simp
    have z2 : ((w.alloc (.cells #[.slice ra NA rc] 29)).alloc (.cells #[] 43)).heap.size = w.heap.size + 2 := by simp
    have b1 := al_below (w.alloc (.cells #[.slice ra NA rc] 29)) (.cells #[] 43)
    have b2 := al_below ((w.alloc (.cells #[.slice ra NA rc] 29)).alloc (.cells #[] 43)) (.cells #[.slice (some ⟨w.heap.size + 1, 0, none⟩) 0 0] 30)
    have hcK : (w.alloc (.cells #[.slice ra NA rc] 29)).cell? ⟨w.heap.size, 0, none⟩ = some (.slice ra NA rc) := by rw [World.cell?_alloc_at _ _ _ _ rfl]; rfl
    have cK : (((w.alloc (.cells #[.slice ra NA rc] 29)).alloc (.cells #[] 43)).alloc (.cells #[.slice (some ⟨w.heap.size + 1, 0, none⟩) 0 0] 30)).cell? ⟨w.heap.size, 0, none⟩ = some (.slice ra NA rc) := cell_al _ (cell_al _ hcK)
    have tK : ∃ cur p, (((w.alloc (.cells #[.slice ra NA rc] 29)).alloc (.cells #[] 43)).alloc (.cells #[.slice (some ⟨w.heap.size + 1, 0, none⟩) 0 0] 30)).heap[w.heap.size]? = some (.cells cur 29 p) := by
      rw [heap_al' _ _ (by omega), heap_al' _ _ (by omega)]
      exact ⟨_, _, heap_al _ _ _⟩
    have tQ : ∃ cur p, (((w.alloc (.cells #[.slice ra NA rc] 29)).alloc (.cells #[] 43)).alloc (.cells #[.slice (some ⟨w.heap.size + 1, 0, none⟩) 0 0] 30)).heap[w.heap.size + 2]? = some (.cells cur 30 p) := by
      rw [← z2]
      exact ⟨_, _, heap_al _ _ _⟩
    have cQ : (((w.alloc (.cells #[.slice ra NA rc] 29)).alloc (.cells #[] 43)).alloc (.cells #[.slice (some ⟨w.heap.size + 1, 0, none⟩) 0 0] 30)).cell? ⟨w.heap.size + 2, 0, none⟩ = some (.slice (some ⟨w.heap.size + 1, 0, none⟩) 0 0) := by rw [World.cell?_alloc_at _ _ _ _ (by simp)]; rfl
    have fQ : (((w.alloc (.cells #[.slice ra NA rc] 29)).alloc (.cells #[] 43)).alloc (.cells #[.slice (some ⟨w.heap.size + 1, 0, none⟩) 0 0] 30)).frozen? ⟨w.heap.size + 2, 0, none⟩ = false := World.frozen?_alloc_at _ _ _ _ (by simp)
    have oQ : OwnG shQ 43 (((w.alloc (.cells #[.slice ra NA rc] 29)).alloc (.cells #[] 43)).alloc (.cells #[.slice (some ⟨w.heap.size + 1, 0, none⟩) 0 0] 30)) (w.heap.size + 1) (.slice (some ⟨w.heap.size + 1, 0, none⟩) 0 0) [] := by
      have := (own_q0 (w.alloc (.cells #[.slice ra NA rc] 29))).alloc (.cells #[.slice (some ⟨w.heap.size + 1, 0, none⟩) 0 0] 30)
      rw [z1] at this
      exact this
    have bW : Below w.heap.size w (((w.alloc (.cells #[.slice ra NA rc] 29)).alloc (.cells #[] 43)).alloc (.cells #[.slice (some ⟨w.heap.size + 1, 0, none⟩) 0 0] 30)) := (bK.trans (b1.mono (by omega))).trans (b2.mono (by omega))
    have zW : (((w.alloc (.cells #[.slice ra NA rc] 29)).alloc (.cells #[] 43)).alloc (.cells #[.slice (some ⟨w.heap.size + 1, 0, none⟩) 0 0] 30)).heap.size = w.heap.size + 3 := by simp
    clear z1 z2 b1 b2 hcK
    refine (HCN _).mono ?_
    clear HCN
    generalize ((w.alloc (.cells #[.slice ra NA rc] 29)).alloc (.cells #[] 43)).alloc (.cells #[.slice (some ⟨w.heap.size + 1, 0, none⟩) 0 0] 30) = W1 at *
    rintro e w2 ⟨g, c, rfl, hO2, hB2⟩
    have hz2 := hB2.size
    have hgl := hO2.lt g rfl
    have hNc : m ≤ c := by
      rcases hO2.shape with ⟨e, _⟩ | ⟨g', cap', e, _, _, hc⟩
      · cases e
      · simp only [Value.slice.injEq] at e; rw [nums_len] at hc; omega
    have hS0 := SA.start w w2 (.slice ra NA rc) (.slice (some ⟨w.heap.size + 1, 0, none⟩) 0 0) (bW.trans (hB2.mono bW.size)) (by omega) ((hB2.cell (p := ⟨w.heap.size, 0, none⟩) (by show w.heap.size < _; omega)).trans cK) (by rw [hB2.block w.heap.size (by omega)]; exact tK) (by rw [hB2.block (w.heap.size + 2) (by omega)]; exact tQ) ((hB2.cell (p := ⟨w.heap.size + 2, 0, none⟩) (by show w.heap.size + 2 < _; omega)).trans cQ) ((hB2.frozen (p := ⟨w.heap.size + 2, 0, none⟩) (by show w.heap.size + 2 < _; omega)).trans fQ) (oQ.keep hB2)
    have hT := tlrA w w2.heap.size (.slice ra NA rc) ans m hm hr (by omega)
    have HC := sorted_any (tellA ans) w.heap.size _ _ w2 W1.heap.size g m c 27 (fvA w.heap.size) hT hS0 hO2 hm hNc bW.size (fun he => by rcases he with e | e | e <;> omega)
    have HFV : fvA w.heap.size = #[.pointer (some ⟨w.heap.size + 1 + 1, 0, none⟩), .pointer (some ⟨w.heap.size, 0, none⟩)] := rfl
    rw [HFV] at HC
    have HzW : Hid (W1.heap.size = w.heap.size + 3) := zW
    clear hT hS0 HFV zW cK tK tQ cQ fQ oQ
    go_wp2_with fail
    refine HC.mono ?_
    rintro e w3 ⟨v3, rfl, hO3, hS3⟩
    obtain ⟨aq, cq, hQ3⟩ := hS3.cq
    have hB3 := hS3.bel
    have hO4 := hO3.mono (show w.heap.size ≤ w2.heap.size by have := HzW.out; omega)
    have hQ4 := hQ3.mono (show w.heap.size ≤ w.heap.size + 1 by omega)
    obtain ⟨va, vc, e3⟩ := hO4.form
    obtain ⟨qa, qc, e4⟩ := hQ4.form
    have hret : PlanQ w AA (.returned (.tuple #[aq, v3, .bool (!(sortS (tellA ans) m).2.k)])) w3 := by
      rw [HA.out]
      exact ⟨_, _, rfl, hQ4, hO4, hB3⟩
    subst e3 e4
    clear HC hS3 HA hO3 hO4 hQ3 hQ4
    generalize (sortS (tellA ans) m).2.h.length = LQ at *
    generalize (!(sortS (tellA ans) m).2.k) = KB at *
    generalize (if (sortS (tellA ans) m).2.k then ([] : List Int) else (sortS (tellA ans) m).1.headD []).length = LV at *
    go_wp2_with fail
    exact bodyPost_ret (v := .tuple #[.slice qa LQ qc, .slice va LV vc, .bool KB]) (by simp [results, Try.results14, go_sem]) rfl hret
end Go.Proofs.Ytlnekedehalbdaa
