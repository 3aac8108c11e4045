import Derived.Test.YthgpacajeaphhaaDivD
import Derived.Test.YthgpacajeaphhaaCmpR
namespace Go.Proofs.Ythgpacajeaphhaa
open Go.RowKit
set_option linter.unusedVariables false
set_option linter.unusedSimpArgs false

set_option maxHeartbeats 1000000 in
set_option maxRecDepth 100000 in
theorem copied_any (v : Value) (xs : List Int) (w : World) (hx : Rd w v xs) (hl : xs.length ≤ 1000000) :
    Calls Try.prog 66 #[v] w fun e w' => ∃ a c, e = .returned (.slice a xs.length c) ∧ Own w' w.heap.size (.slice a xs.length c) xs ∧ Below w.heap.size w w' := by
  have hx0 := hx
  obtain ⟨a, cap, rfl, _, hz, hn0, hc⟩ := hx
  clear hc hn0
  go_enter Try.func66, Try.ntmps66
  go_wp2_with (at_builtin; refine wpList_append_rd rfl _ _ 47 rfl Try.underlying47 w.heap.size _ _ [] xs rfl rfl (Own.nil _ _) hx0 (by simp; omega) (Nat.le_refl _) ?_; intro a1 c1 w1 hO1 hB1)
  go_ret
  exact ⟨a1, c1, rfl, hO1, hB1⟩

set_option maxHeartbeats 1000000 in
set_option maxRecDepth 100000 in
theorem dividedBy_any (v u : Value) (xs os : List Int) (w : World) (hx : Rd w v xs) (ho : Rd w u os) (hnx : Norm xs) (hno : Norm os) (h1 : 1 ≤ os.length) (hlx : xs.length ≤ 1000000) (hlo : os.length ≤ 1000000) :
    Calls Try.prog 38 #[v, u] w fun e w' => ∃ a c a' c', e = .returned (.tuple #[.slice a (lim (val xs / val os)).length c, .slice a' (lim (val xs % val os)).length c']) ∧ Own w' w.heap.size (.slice a (lim (val xs / val os)).length c) (lim (val xs / val os)) ∧ (∃ wm : World, Own wm w.heap.size (.slice a (lim (val xs / val os)).length c) (lim (val xs / val os)) ∧ Own w' wm.heap.size (.slice a' (lim (val xs % val os)).length c') (lim (val xs % val os)) ∧ w.heap.size ≤ wm.heap.size ∧ wm.heap.size ≤ w'.heap.size) ∧ Below w.heap.size w w' := by
  have hx0 := hx
  have ho0 := ho
  obtain ⟨a, cap, rfl, _, hzx, _, hcx⟩ := hx
  obtain ⟨a', cap', rfl, _, hzo, _, hco⟩ := ho
  clear hcx
  have hcm := fun W h1 h2 => compare_any (.slice a xs.length cap) (.slice a' os.length cap') xs os W h1 h2 hnx hno
  rcases Nat.lt_or_ge (val xs) (val os) with hlt | hge
  · have hc0 : cmpN (val xs) (val os) < 0 := by rw [cmpN_lt hlt]; omega
    rw [Nat.div_eq_of_lt hlt, Nat.mod_eq_of_lt hlt, lim_zero, lim_val hzx hnx]
    have hcp := fun W h => copied_any (.slice a xs.length cap) xs W h hlx
    generalize cmpN (val xs) (val os) = cn at hcm hc0
    clear hlt hco
    go_enter Try.func38, Try.ntmps38
    go_wp2_with fail
    refine (hcm _ hx0 ho0).mono ?_
    rintro e w1 ⟨rfl, hB1⟩
    clear hcm
    go_wp2_with fail
    refine (hcp _ (hx0.keep hB1)).mono ?_
    rintro e w2 ⟨a2, c2, rfl, o2, hB2⟩
    clear hcp
    go_wp2
    refine bodyPost_ret (v := .tuple #[.slice none 0 0, .slice a2 xs.length c2]) (by simp [results, Try.results38, go_sem]) rfl ⟨none, 0, a2, c2, rfl, Own.nil _ _, ⟨_, Own.nil _ _, o2, hB1.size, hB2.size⟩, hB1.trans (hB2.mono hB1.size)⟩
  · have hc0 : ¬ cmpN (val xs) (val os) < 0 := by have := cmpN_nonneg hge; omega
    by_cases hl1 : os.length = 1
    · obtain ⟨X, hX⟩ : ∃ X : Nat, os = [(X : Int)] := by
        match os, hl1, hzo with
        | [z], _, hz => exact ⟨z.toNat, by have := hz z (by simp); congr 1; omega⟩
      subst hX
      have hXl : X < 4294967296 := by have := hzo (X : Int) (by simp); omega
      have hXp : 0 < X := by
        rcases hno with h | h
        · simp at h
        · have : (X : Int) ≠ 0 := by simpa using h
          omega
      have hXv : val [(X : Int)] = X := by simp [val]
      rw [hXv] at hcm hc0 ⊢
      obtain ⟨b', off', rfl, hb', hcell'⟩ := hco (by simp)
      have hce := hcell' 0 (by simp)
      simp at hce
      have hdl := fun W h => dividedByLimb_any (.slice a xs.length cap) xs X W h (by omega) hXp hXl
      have hrl : val xs % X < 4294967296 := Nat.lt_trans (Nat.mod_lt _ hXp) hXl
      generalize val xs % X = rr at hdl hrl ⊢
      have hlf := fun W => limbsOf_any (rr : Int) W (by omega) (by omega)
      rw [Int.natAbs_natCast] at hlf
      have hwr : IntKind.u64.wrap (rr : Int) = (rr : Int) := by rw [IntKind.wrap_u64]; omega
      generalize lim (val xs / X) = LQ at hdl ⊢
      generalize lim rr = LR at hlf ⊢
      generalize cmpN (val xs) X = cn at hcm hc0
      clear hcell' hco hge hnx hno hzo hlo hl1 h1 hXv
      go_enter Try.func38, Try.ntmps38
      go_wp2_with fail
      refine (hcm _ hx0 ho0).mono ?_
      rintro e w1 ⟨rfl, hB1⟩
      clear hcm
      have hce1 := (hB1.cell (p := ⟨b', off', none⟩) hb').trans hce
      go_wp2_with fail
      refine (hdl _ (hx0.keep hB1)).mono ?_
      rintro e w2 ⟨a2, c2, rfl, o2, hB2⟩
      clear hdl
      go_wp2_with fail
      refine (hlf _).mono ?_
      rintro e w3 ⟨a3, c3, rfl, o3, hB3⟩
      clear hlf
      have hW2 := hB1.trans (hB2.mono hB1.size)
      go_wp2
      refine bodyPost_ret (v := .tuple #[.slice a2 LQ.length c2, .slice a3 LR.length c3]) (by simp [results, Try.results38, go_sem]) rfl ⟨a2, c2, a3, c3, rfl, (o2.keep hB3).mono hB1.size, ⟨_, o2.mono hB1.size, o3, hW2.size, hB3.size⟩, hW2.trans (hB3.mono hW2.size)⟩
    · have hll : os.length ≤ xs.length := by
        rcases Nat.lt_or_ge xs.length os.length with h | h
        · have := val_lt_of_len hzx hzo hno h; omega
        · exact h
      have hld := fun W h1 h2 => longDividedBy_any (.slice a xs.length cap) (.slice a' os.length cap') xs os W h1 h2 hno (by omega) hll hlx
      generalize lim (val xs / val os) = LQ at hld ⊢
      generalize lim (val xs % val os) = LR at hld ⊢
      generalize cmpN (val xs) (val os) = cn at hcm hc0
      have hl1' : ((os.length : Int) == 1) = false := by rw [beq_eq_false_iff_ne]; omega
      have hl2' : ¬ (os.length : Int) = 1 := by omega
      clear hco hge
      go_enter Try.func38, Try.ntmps38
      go_wp2_with fail
      refine (hcm _ hx0 ho0).mono ?_
      rintro e w1 ⟨rfl, hB1⟩
      clear hcm
      go_wp2_with fail
      refine (hld _ (hx0.keep hB1) (ho0.keep hB1)).mono ?_
      rintro e w2 ⟨a2, c2, a3, c3, rfl, o2, ⟨wm, om, o3, hm1, hm2⟩, hB2⟩
      clear hld
      go_wp2
      refine bodyPost_ret (v := .tuple #[.slice a2 LQ.length c2, .slice a3 LR.length c3]) (by simp [results, Try.results38, go_sem]) rfl ⟨a2, c2, a3, c3, rfl, o2.mono hB1.size, ⟨wm, om.mono hB1.size, o3, Nat.le_trans hB1.size hm1, hm2⟩, hB1.trans (hB2.mono hB1.size)⟩
end Go.Proofs.Ythgpacajeaphhaa
