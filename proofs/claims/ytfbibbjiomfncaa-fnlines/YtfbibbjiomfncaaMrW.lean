import Derived.Test.YtfbibbjiomfncaaMrV
namespace Go.Proofs.Ytfbibbjiomfncaa
open Go.RowKit Go.Maps
set_option linter.unusedVariables false
set_option linter.unusedSimpArgs false

set_option maxRecDepth 100000 in
theorem dropHead_any (M n : Nat) (f : Int → Int) (v : Value) (l : List Int) (w : World) (hM : MC w M n f) (hr : Rd w v l) (hn : n < 1000000) (hf : ∀ y, 0 ≤ f y ∧ f y ≤ 1000000) :
    Calls Try.prog 82 #[.map (some M), v] w fun e w' => ∃ n', e = .returned (.tuple #[]) ∧ n' ≤ n + 1 ∧ MC w' M n' (fun y => f y - if l.head? = some y then 1 else 0) ∧ w.grownBy w' (some M) := by
  obtain ⟨a, cap, rfl, hl, hz, hn0, hc⟩ := hr
  cases l with
  | nil =>
    go_enter Try.func82, Try.ntmps82
    go_wp2
    refine bodyPost_end (results_none rfl _ _ _) rfl ⟨n, rfl, by omega, hM.congr (fun y => by simp), World.grownBy.refl _ _⟩
  | cons x t =>
    obtain ⟨b, off, rfl, hb, hcs⟩ := hc (by simp)
    have d0 := hcs 0 (by simp)
    simp only [Nat.add_zero, List.getD_cons_zero] at d0
    have hx := hz x (List.mem_cons_self ..)
    have hg := hM.get x hx.1 hx.2
    have hfx := hf x
    obtain ⟨F, hF⟩ : ∃ F, f x = F := ⟨_, rfl⟩
    rw [hF] at hg hfx
    obtain ⟨W3, hU, hM3, hg3⟩ := hM.put (by unfold maxLen; omega) x hx.1 hx.2 (F - 1) (WalkArith.wf_i64 (by omega))
    have hM4 : MC W3 M (n + 1) (fun y => f y - if (x :: t).head? = some y then 1 else 0) := hM3.congr (fun y => by
      by_cases e : y = x
      · subst e; rw [if_pos rfl]; simp; omega
      · rw [if_neg e, if_neg (by simp; exact fun h => e h.symm)]; omega)
    have hwr : IntKind.i64.wrap (F - 1) = F - 1 := by simp [IntKind.wrap, IntKind.bits, IntKind.signed]; omega
    obtain ⟨TN, hTN⟩ : ∃ TN, (x :: t).length = TN + 1 := ⟨t.length, rfl⟩
    have hTl : TN ≤ 16777216 := by omega
    rw [hTN]
    have hgi : (0 : Int) < (TN : Int) + 1 := by omega
    clear hM3 hM hc hcs hz hF hTN
    go_enter Try.func82, Try.ntmps82
    go_wp2
    refine bodyPost_end (results_none rfl _ _ _) rfl ⟨n + 1, rfl, Nat.le_refl _, hM4, hg3⟩

end Go.Proofs.Ytfbibbjiomfncaa
