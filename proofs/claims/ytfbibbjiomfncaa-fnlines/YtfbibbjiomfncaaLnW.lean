import Derived.Test.YtfbibbjiomfncaaLnP
import Derived.Test.YtfbibbjiomfncaaDaE
namespace Go.Proofs.Ytfbibbjiomfncaa
open Go.RowKit Go.Lib
set_option linter.unusedVariables false
set_option linter.unusedSimpArgs false

theorem sub_eq {a b : List Int} {k i : Nat} (h : (a.drop k).Sublist (b.drop i)) (hk : k < a.length) (hi : i < b.length) (he : a[k] = b[i]) : (a.drop (k + 1)).Sublist (b.drop (i + 1)) := by
  rw [List.drop_eq_getElem_cons hk, List.drop_eq_getElem_cons hi, he] at h
  exact List.cons_sublist_cons.mp h
theorem sub_ne {a b : List Int} {k i : Nat} (h : (a.drop k).Sublist (b.drop i)) (hk : k < a.length) (hi : i < b.length) (he : ¬ a[k] = b[i]) : (a.drop k).Sublist (b.drop (i + 1)) := by
  rw [List.drop_eq_getElem_cons hk, List.drop_eq_getElem_cons hi] at h
  rw [List.drop_eq_getElem_cons hk]
  rcases List.sublist_cons_iff.mp h with h | ⟨r, e, _⟩
  · exact h
  · simp only [List.cons.injEq] at e
    exact absurd e.1 he
theorem sub_end {a b : List Int} {k : Nat} (h : (a.drop k).Sublist (b.drop b.length)) (hk : k ≤ a.length) : k = a.length := by
  rw [List.drop_length, List.sublist_nil, List.drop_eq_nil_iff] at h
  omega
set_option maxRecDepth 100000 in
set_option maxHeartbeats 1000000 in
theorem within_any (v u : Value) (a b : List Int) (w : World) (hx : Rd w v a) (hy : Rd w u b) (h : a.Sublist b) :
    Calls Try.prog 35 #[v, u] w fun e w' => e = .returned (.bool true) ∧ Below w.heap.size w w' := by
  obtain ⟨a1, c1, rfl, hl1, hz1, hn1, hc1⟩ := hx
  obtain ⟨a2, c2, rfl, hl2, hz2, hn2, hc2⟩ := hy
  go_enter Try.func35, Try.ntmps35
  go_wp2_with fail
  go_loopw [5, 6] (fun kv i wr => ∃ (k j : Nat), k ≤ a.length ∧ j ≤ b.length ∧ kv = .int .i64 k ∧ i = .int .i64 j ∧ Hid ((a.drop k).Sublist (b.drop j)) ∧ Below w.heap.size w wr) (fun _ i _ => b.length - (intOf i).toNat)
  case atStart => exact ⟨0, 0, Nat.zero_le _, Nat.zero_le _, rfl, rfl, h, Below.refl _ _⟩
  case round =>
    obtain ⟨k, j, hk, hj, rfl, rfl, hS, hB⟩ := hrel
    by_cases hjl : j < b.length
    · have hji : (j : Int) < (b.length : Int) := by omega
      by_cases hkl : k < a.length
      · have hki : (k : Int) < (a.length : Int) := by omega
        obtain ⟨b1, o1, rfl, hb1, hcell1⟩ := hc1 (by omega)
        obtain ⟨b2, o2, rfl, hb2, hcell2⟩ := hc2 (by omega)
        have d1 := (hB.cell (p := ⟨b1, o1 + k, none⟩) hb1).trans (hcell1 k hkl)
        have d2 := (hB.cell (p := ⟨b2, o2 + j, none⟩) hb2).trans (hcell2 j hjl)
        rw [show a.getD k 0 = a[k] by simp [List.getD, hkl]] at d1
        rw [show b.getD j 0 = b[j] by simp [List.getD, hjl]] at d2
        have h1 : Hid (a[k] = b[j] → (a.drop (k + 1)).Sublist (b.drop (j + 1))) := fun e => sub_eq hS.out hkl hjl e
        have h2 : Hid (¬ a[k] = b[j] → (a.drop k).Sublist (b.drop (j + 1))) := fun e => sub_ne hS.out hkl hjl e
        generalize a[k] = X at *
        generalize b[j] = Y at *
        clear hcell1 hcell2 hc1 hc2
        by_cases he : X = Y
        · subst he
          have heb : (X == X) = true := by simp
          have h3 : Hid _ := h1.out rfl
          clear h1 h2
          go_wp2_with fail
          go_region_held3 (fun W => W.cell? ⟨b1, o1 + k, none⟩ = some (.int .i64 X) ∧ W.cell? ⟨b2, o2 + j, none⟩ = some (.int .i64 X)) (go_keep) (fail)
          all_goals
            go_wp2
            go_roundw
            case rel => exact ⟨k + 1, j + 1, by omega, by omega, by go_num, by go_num, h3, hB.drew⟩
            case measure => simp [intOf]; omega
        · have heb : (X == Y) = false := by simp [he]
          have h3 : Hid _ := h2.out he
          clear h1 h2
          go_wp2_with fail
          go_region_held3 (fun W => W.cell? ⟨b1, o1 + k, none⟩ = some (.int .i64 X) ∧ W.cell? ⟨b2, o2 + j, none⟩ = some (.int .i64 Y)) (go_keep) (fail)
          all_goals
            go_wp2
            go_roundw
            case rel => exact ⟨k, j + 1, by omega, by omega, rfl, by go_num, h3, hB.drew⟩
            case measure => simp [intOf]; omega
      · obtain rfl : k = a.length := by omega
        have hki : ¬ (a.length : Int) < (a.length : Int) := by omega
        go_wp2_with fail
        go_ret
        exact ⟨by simp, hB⟩
    · obtain rfl : j = b.length := by omega
      obtain rfl := sub_end hS.out hk
      have hji : ¬ (b.length : Int) < (b.length : Int) := by omega
      go_wp2_with fail
      go_ret
      exact ⟨by simp, hB⟩
/-- What DrawMro leaves. -/
def DMp (w : World) (e : Ending) (w' : World) : Prop := ∃ u cs, e = .returned u ∧ RdC w' u cs ∧ cs.length ≤ 201 ∧ Below w.heap.size w w'
set_option maxRecDepth 100000 in
set_option maxHeartbeats 1000000 in
theorem drawM_any (w : World) (a : Option Addr) (n c : Nat) (bs : List Int) (hs : Src w a n c bs) : Calls Try.prog 34 #[.slice a n c] w (DMp w) := by
  go_enter Try.func34, Try.ntmps34
  go_wp2_with fail
  refine (dr_open_any w a n c bs hs).mono ?_
  rintro e w1 ⟨g, rfl, hg, hR, hB1⟩
  have hbz : ∀ b off, 0 < n → a = some ⟨b, off, none⟩ → b < w1.heap.size := fun b off h0 e => by
    obtain ⟨b', off', e', hlt, _⟩ := hs.by_ h0
    rw [e'] at e
    simp only [Option.some.injEq, Addr.mk.injEq, and_true] at e
    have := hB1.size
    omega
  have hglt := hR.lt
  go_wp2_with fail
  refine (drawC_any w1 g a n c bs hR hbz).mono ?_
  rintro e w2 ⟨u, ps, cs, rfl, hC, hcl, hD2⟩
  obtain ⟨va, vc, ev⟩ := hC.rd.form
  subst ev
  go_wp2_with fail
  go_ret
  exact ⟨_, cs, rfl, hC.rd, hcl, hB1.trans (gb_to hD2.gb (fun q hq => by cases hq; exact hg) hB1.size)⟩
end Go.Proofs.Ytfbibbjiomfncaa
