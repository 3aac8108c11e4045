import Derived.Test.YtjoddjejobdcoaaKpD
import Derived.Test.YtjoddjejobdcoaaPuS
import Derived.Test.YtjoddjejobdcoaaCuS
import Derived.Test.YtjoddjejobdcoaaRunP
namespace Go.Proofs.Ytjoddjejobdcoaa
open Go.RowKit Go.Maps
set_option linter.unusedVariables false
set_option linter.unusedSimpArgs false

set_option maxRecDepth 100000 in
theorem newSO_any (w : World) : Calls Try.prog 11 #[] w fun e w' => ∃ v, e = .returned v ∧ OwnD w' w.heap.size v ⟨tabOf 8 [], [], 0⟩ ∧ Below w.heap.size w w' := by
  have HT := fun v W h => l7Table_any v [] 3 W h (by omega) (by simp)
  simp only [show (2 ^ 3 : Nat) = 8 from rfl] at HT
  rw [show ((8 : Nat) : Int) = 8 from rfl] at HT
  go_enter Try.func11, Try.ntmps11
  go_wp2_with (go_at_call 39; refine (HT _ _ (rdE_empty _ _ _)).mono ?_; rintro e w2 ⟨ta, tc, rfl, hO, hB2⟩; have hR2 := ((Box3.new w (.slice none 0 0) (.slice none 0 0) (.int .i64 0) 25).alloc (Obj.cells #[] 63)).keep hB2; have hF2 : ∀ o, w2.frozen? ⟨w.heap.size, o, none⟩ = false := (fun o => by rw [hB2.frozen (p := ⟨w.heap.size, o, none⟩) (by simp; omega), World.frozen?_alloc_past _ _ _ (by simp)]; exact World.frozen?_alloc_at _ _ _ _ rfl); have hW2 : Below w.heap.size w w2 := (((Below.refl _ w).alloc (Nat.le_refl _) _).alloc (by simp) _).trans (hB2.mono (by simp; omega)); obtain ⟨-, n0, n1, n2⟩ := id hR2; have f0 := hF2 0; have f1 := hF2 1; have f2 := hF2 2; have hgl := hR2.1)
  have q0 := hR2.p0 (.slice ta 8 tc)
  have q1 := q0.p1 (.slice (some ⟨w2.heap.size, 0, none⟩) 0 0)
  have q2 := q1.p2 (.int .i64 0)
  have hz2 := hW2.size
  have hlo := hO.lt
  have q3 := q2.alloc (Obj.cells #[] 63)
  refine bodyPost_ret (v := dv (.slice ta 8 tc) (.slice (some ⟨w2.heap.size, 0, none⟩) 0 0) 0) (by
    simp [results, Try.results11, go_sem, dv, q3.2.1, q3.2.2.1, q3.2.2.2]) rfl ⟨_, rfl, ⟨_, _, rfl, ?_, ?_, ?_⟩, ?_⟩
  · have hne : (Value.slice ta 8 tc).ownBlock ≠ some w.heap.size := fun e => by have := hlo _ e; simp at this; omega
    exact ((((hO.but (gb_set _ _ _ _) (.inr hne)).but (gb_set _ _ _ _) (.inr hne)).but (gb_set _ _ _ _) (.inr hne)).alloc _).mono (by simp; omega)
  · exact OwnG.empty shE 63 _ _ (by simp [World.setCell]) _ hz2
  · refine .inr fun e => ?_
    have e2 : (Value.slice ta 8 tc).ownBlock = some w2.heap.size := by rw [e]; simp [Value.ownBlock, World.setCell]
    have := hlo _ e2
    omega
  · refine Below.alloc (below_set (below_set (below_set hW2 hz2 (Nat.le_refl _) _) (by simpa [World.setCell] using hz2) (Nat.le_refl _) _) (by simpa [World.setCell] using hz2) (Nat.le_refl _) _) (by simpa [World.setCell] using hz2) _


/-- A dict that a draw makes by puts and cuts. -/
structure Dr (d : Dt) (j : Nat) : Prop where
  ok : OkD d
  eok : ∀ e ∈ d.e, shE.ok e
  len : d.e.length ≤ j
  sl : d.s.length ≤ 256
theorem tabOf_len (n : Nat) (es : List En) : (tabOf n es).length = n := by
  unfold tabOf; exact tabK_length _ _ _
theorem Dr.new : Dr ⟨tabOf 8 [], [], 0⟩ 0 := by
  refine ⟨⟨⟨3, by omega, by omega, ?_⟩, by simp, by simp, by simp [livN], ?_, by simp [lv]⟩, by simp, by simp, ?_⟩
  · simp [tabOf_len]
  · simp [tabOf_len]
  · simp [tabOf_len]
theorem Dr.cut {d : Dt} {j : Nat} (h : Dr d j) (x k : Int) (h0 : 0 ≤ x) (h1 : x < 18446744073709551616) : Dr (cutD d x k).1 (j + 1) := by
  have hl := cutD_len d x k
  refine ⟨h.ok.cut x k h0 h1, ?_, by rw [hl.2]; have := h.len; omega, by rw [hl.1]; exact h.sl⟩
  unfold cutD
  split
  · exact h.eok
  · intro e he
    rcases List.mem_or_eq_of_mem_set he with h2 | h2
    · exact h.eok e h2
    · subst h2; exact ⟨⟨h0, h1⟩, ⟨(by decide : (-9223372036854775808 : Int) ≤ 0), (by decide : (0 : Int) < 9223372036854775808)⟩, ⟨(by decide : (-9223372036854775808 : Int) ≤ 0), (by decide : (0 : Int) < 9223372036854775808)⟩⟩
theorem Dr.put {d : Dt} {j : Nat} (h : Dr d j) (hj : j ≤ 40) (x k v : Int) (hx : shE.ok ⟨x, k, v, false⟩) : Dr (putD d x k v).1 (j + 1) := by
  refine ⟨h.ok.put h.eok x k v hx.1.1 hx.1.2, putD_ok h.eok x k v hx, ?_, ?_⟩
  · have hlen := h.len
    unfold putD
    split
    · simp; omega
    · split
      · simp [addD]; omega
      · split
        · have hll : (liv d.e).length ≤ d.e.length := List.length_filter_le _ _
          unfold rnD
          split
          · simp [addD]; omega
          · simp [addD]; omega
        · show d.e.length ≤ _; omega
  · have hsl := h.sl
    have hlen := h.len
    unfold putD
    split
    · exact hsl
    · split
      · simp [addD, tabOf_len]; exact hsl
      · split
        · unfold rnD
          split
          · simp [addD, tabOf_len]; exact hsl
          · simp only [addD, tabOf_len]
            have hl : livN d.e ≤ 40 := by unfold livN; exact Nat.le_trans (List.countP_le_length) (by omega)
            obtain ⟨m, hm17, hNM⟩ := NM.ex (livN d.e) (by omega)
            rw [nsm_eq hNM]
            by_cases h9 : m ≤ 8
            · exact Nat.pow_le_pow_right (n := 2) (by decide) h9
            · exfalso
              have h8 := hNM.2.2 8 (by omega) (by omega)
              omega
        · exact hsl
end Go.Proofs.Ytjoddjejobdcoaa
