import Derived.Test.YtfbibbjiomfncaaMrY
namespace Go.Proofs.Ytfbibbjiomfncaa
open Go.RowKit Go.Maps
set_option linter.unusedVariables false
set_option linter.unusedSimpArgs false

/-- The closure that looks a head up: the map lies in a box. -/
def BoxM (w : World) (X M : Nat) : Prop := X < w.heap.size ∧ w.cell? ⟨X, 0, none⟩ = some (.map (some M))

set_option maxRecDepth 100000 in
theorem goodF_any (X M n : Nat) (f : Int → Int) (sa : Option Addr) (sn sc : Nat) (x : Int) (t : List Int) (w : World) (hX : BoxM w X M) (hM : MC w M n f) (hr : Rd w (.slice sa sn sc) (x :: t)) :
    Calls Try.prog 81 #[.slice sa sn sc, .pointer (some ⟨X, 0, none⟩)] w fun e w' => e = .returned (.bool (f x == 0)) ∧ Below w.heap.size w w' := by
  obtain ⟨a', c', e, hl, hz, hn0, hc⟩ := hr
  simp only [Value.slice.injEq] at e
  obtain ⟨e1, e2, e3⟩ := e
  subst e1 e3
  obtain ⟨b, off, rfl, hb, hcs⟩ := hc (by simp)
  have d0 := hcs 0 (by simp)
  simp only [Nat.add_zero, List.getD_cons_zero] at d0
  have hx := hz x (List.mem_cons_self ..)
  have hg := hM.get x hx.1 hx.2
  have hgd := (show MC w.drew M n f from (by obtain ⟨D, h1, h2⟩ := hM; exact ⟨D, h1.drew, h2⟩)).get x hx.1 hx.2
  obtain ⟨SN, rfl⟩ : ∃ SN, sn = SN + 1 := ⟨t.length, by rw [e2]; rfl⟩
  have hSN : SN ≤ 16777216 := by simp at hl e2; omega
  have hi : (0 : Int) < (SN : Int) + 1 := by omega
  obtain ⟨hXl, hXc⟩ := hX
  generalize f x = F at *
  clear hc hcs hz e2 hn0
  go_enter Try.func81, Try.ntmps81
  go_wp2_with fail
  go_region_held3 (fun W => W.cell? ⟨X, 0, none⟩ = some (.map (some M)) ∧ W.cell? ⟨b, off, none⟩ = some (.int .i64 x)) (go_keep)
    (fail)
  all_goals
    go_wp2_with fail
    go_ret
    exact ⟨rfl, (Below.refl _ _).drew⟩

theorem BoxM.keep {w w' : World} {X M : Nat} (h : BoxM w X M) (hb : Below w.heap.size w w') : BoxM w' X M := ⟨Nat.lt_of_lt_of_le h.1 hb.size, (hb.cell (p := ⟨X, 0, none⟩) h.1).trans h.2⟩
theorem MC.keep {w w' : World} {M n : Nat} {f : Int → Int} (h : MC w M n f) (hb : Below w.heap.size w w') : MC w' M n f := by
  obtain ⟨D, h1, h2⟩ := h
  exact ⟨D, h1.kept (gb_below none hb) (by simp), h2⟩

set_option maxRecDepth 100000 in
set_option maxHeartbeats 1000000 in
theorem indexG_any (a : Option Addr) (cap X M n : Nat) (f : Int → Int) (Ls : List (List Int)) (w : World) (hr : RL w (.slice a Ls.length cap) Ls) (hne : NoE Ls) (hX : BoxM w X M) (hM : MC w M n f) :
    Calls Try.prog 80 #[.slice a Ls.length cap, .func (.func 81) #[] #[.pointer (some ⟨X, 0, none⟩)]] w fun e w' => ((e = .returned (.int .i64 (-1)) ∧ ∀ l ∈ Ls, ∀ x, l.head? = some x → f x ≠ 0) ∨ ∃ i : Nat, ∃ hi : i < Ls.length, e = .returned (.int .i64 i) ∧ (∀ x, Ls[i].head? = some x → f x = 0) ∧ ∀ l ∈ Ls.take i, ∀ x, l.head? = some x → f x ≠ 0) ∧ Below w.heap.size w w' := by
  have hlm : Ls.length ≤ 16777216 := hr.max
  go_enter Try.func80, Try.ntmps80
  go_wp2_with fail
  go_loopw [8] (fun i wr => ∃ k : Nat, k ≤ Ls.length ∧ i = .int .i64 k ∧ Hid (∀ l ∈ Ls.take k, ∀ x, l.head? = some x → f x ≠ 0) ∧ Below w.heap.size w wr) (fun i _ => Ls.length - (intOf i).toNat)
  case atStart => exact ⟨0, Nat.zero_le _, rfl, (by intro l hl; simp at hl), Below.refl _ _⟩
  case round =>
    obtain ⟨k, hk, rfl, hA, hBr⟩ := hrel
    generalize wr = W1 at *
    have hr1 := hr.keep hBr
    have hX1 := hX.keep hBr
    have hM1 := hM.keep hBr
    by_cases hlt : k < Ls.length
    · obtain ⟨b, off, sa, sc, rfl, hb, d0, hRk⟩ := hr1.at k hlt
      have htk := List.take_succ_eq_append_getElem hlt
      have Htk : Hid _ := htk
      clear htk
      have hlti : (k : Int) < (Ls.length : Int) := by omega
      have hnk := hne Ls[k] (List.getElem_mem hlt)
      obtain ⟨x, t, hxt⟩ : ∃ x t, Ls[k] = x :: t := List.exists_cons_of_ne_nil hnk
      have hRx : Rd W1 (.slice sa Ls[k].length sc) (x :: t) := by have := hRk; rw [hxt] at this ⊢; exact this
      have HX : Hid (Ls[k] = x :: t) := hxt
      generalize Ls[k].length = LN at *
      clear hxt hnk hRk
      go_wp2_with fail
      refine (goodF_any X M n f sa LN sc x t _ hX1 hM1 hRx).mono ?_
      rintro e w2 ⟨rfl, hB2⟩
      have hB3 := hBr.trans (hB2.mono hBr.size)
      by_cases h0 : f x = 0
      · have h0b : (f x == 0) = true := by simp [h0]
        rw [h0b]
        go_wp2
        go_ret
        exact ⟨.inr ⟨k, hlt, rfl, (fun y hy => by rw [HX.out] at hy; simp at hy; subst hy; exact h0), hA.out⟩, hB3⟩
      · have h0b : (f x == 0) = false := by simp [h0]
        rw [h0b]
        have hA2 : Hid (∀ l ∈ Ls.take (k + 1), ∀ x, l.head? = some x → f x ≠ 0) := by
          intro l hl y hy
          rw [Htk.out] at hl
          rcases List.mem_append.mp hl with h | h
          · exact hA.out l h y hy
          · simp at h; subst h; rw [HX.out] at hy; simp at hy; subst hy; exact h0
        clear h0
        go_wp2
        go_roundw
        case rel => exact ⟨k + 1, by omega, by go_num, hA2, hB3⟩
        case measure => simp [intOf]; omega
    · obtain rfl : k = Ls.length := by omega
      have hA3 := hA.out
      rw [List.take_length] at hA3
      have HA3 : Hid _ := hA3
      clear hA3
      go_wp2
      go_ret
      exact ⟨.inl ⟨rfl, HA3.out⟩, hBr⟩
end Go.Proofs.Ytfbibbjiomfncaa
