import Derived.Test.YtkjbbmmidjeecaaDoorOf
namespace Go.Proofs.YtkjbbmmidjeecaaDoor
open Go.RowKit
set_option linter.unusedVariables false
set_option linter.unusedSimpArgs false

theorem Box.set {w : World} {b : Nat} {x y : Value} (h : Box w b x y) (x' y' : Value) : Box ((w.setCell ⟨b, 0, none⟩ x').setCell ⟨b, 1, none⟩ y') b x' y' := by
  have h1 : (w.setCell ⟨b, 0, none⟩ x').cell? ⟨b, 1, none⟩ = some y := (World.cell?_setCell_other _ _ _ _ (by simp)).trans h.2.2
  refine ⟨by simpa [World.setCell] using h.1, ?_, ?_⟩
  · exact (World.cell?_setCell_other _ _ _ _ (by simp)).trans (World.cell?_setCell_same _ _ _ h.2.1)
  · exact World.cell?_setCell_same _ _ _ h1

/-- Behind a statement that calls and lays what it answers in a new box: the box, what it holds; nothing that was there has turned. -/
def Cut1 (wp wc : World) (s : Bool) (L : List Int) (C : Int) (s1 s2 : Value) : Prop :=
  ∃ (b : Nat) (aS : Option Addr) (cS : Nat), s1 = .pointer (some ⟨b, 0, none⟩) ∧ s2 = .int .i64 C ∧ Below wp.heap.size wp wc ∧ wp.heap.size ≤ b ∧ Box wc b (.bool s) (.slice aS L.length cS) ∧ Own wc wp.heap.size (.slice aS L.length cS) L

theorem markS2_any (B n cap : Nat) (a : Option Addr) (zs : List Int) (k0 : Int) (w : World) (hO : Own w B (.slice a n cap) zs) (h0 : 0 ≤ k0) (h1 : k0 ≤ 16777216) :
    Calls Tryd.prog 37 #[.slice a n cap, .int .i64 k0] w fun e w' => e = .returned (.int .i64 (k0 + zs.length)) ∧ Own w' B (.slice a n cap) (marks k0 zs.length) ∧ w.grownBy w' (Value.slice a n cap).ownBlock := by
  have hlz := hO.2.1
  rcases hO.shape with ⟨hv, rfl⟩ | ⟨g, cap', hv, hBg, hg, hcap⟩
  · simp at hv
    obtain ⟨rfl, rfl, rfl⟩ := hv
    go_enter Tryd.func37, Tryd.ntmps37
    go_wp2
    refine wp_loop_rounds 1 ?_
    rw [rounds_succ]
    go_wp2
    go_ret
    exact ⟨by simp, hO, World.grownBy.refl _ _⟩
  · simp at hv
    obtain ⟨rfl, rfl, rfl⟩ := hv
    go_enter Tryd.func37, Tryd.ntmps37
    go_wp2
    go_loopw [1, 5] (fun q i wr => ∃ k : Nat, k ≤ zs.length ∧ q = .int .i64 (k0 + k) ∧ i = .int .i64 k ∧ Own wr B (.slice (some ⟨g, 0, none⟩) zs.length cap) (marks k0 k ++ zs.drop k) ∧ w.grownBy wr (some g))
      (fun _ i _ => zs.length - (intOf i).toNat)
    case atStart => exact ⟨0, Nat.zero_le _, by simp, rfl, by simpa [marks] using hO, World.grownBy.refl _ _⟩
    case round =>
      obtain ⟨k, hk, rfl, rfl, hOr, hBr⟩ := hrel
      by_cases hlt : k < zs.length
      · obtain ⟨u, hu⟩ : ∃ u, wr.cell? ⟨g, k, none⟩ = some u := ⟨_, hOr.cell k (by simp [marks_length]; omega)⟩
        have hfz := hOr.frozen k
        have hS := marks_set k0 zs k hlt
        have HS : Hid ((marks k0 k ++ zs.drop k).set k (k0 + k) = marks k0 (k + 1) ++ zs.drop (k + 1)) := hS
        clear hS
        go_wp2
        go_roundw
        case rel =>
          refine ⟨k + 1, by omega, by go_num, by go_num, ?_, gb_trans hBr (gb_set _ _ _ _)⟩
          have := hOr.store k (z := k0 + k) (by omega) (by omega)
          rw [HS.out] at this
          exact this
        case measure => simp [intOf]; omega
      · go_wp2
        go_ret
        have hk' : k = zs.length := by omega
        subst hk'
        exact ⟨rfl, by simpa using hOr, hBr⟩

theorem markBig2_any (B n cap : Nat) (a : Option Addr) (neg : Bool) (zs : List Int) (k0 : Int) (w : World) (hO : Own w B (.slice a n cap) zs) (hB : B ≤ w.heap.size) (h0 : 0 ≤ k0) (h1 : k0 ≤ 16777216) :
    Calls Tryd.prog 12 #[.agg #[.bool neg, .slice a n cap], .int .i64 k0] w fun e w' => e = .returned (.int .i64 (k0 + zs.length)) ∧ Own w' B (.slice a n cap) (marks k0 zs.length) ∧ w.grownBy w' (Value.slice a n cap).ownBlock := by
  go_enter Tryd.func12, Tryd.ntmps12
  go_wp2_with (go_at_call 37; refine (markS2_any B n cap a zs k0 _ (hO.alloc _) h0 h1).mono ?_; rintro e w1 ⟨rfl, hO1, hB1⟩)
  go_ret
  exact ⟨rfl, hO1, gb_trans (gb_below _ ((Below.refl _ _).alloc (Nat.le_refl _) _)) hB1⟩

end Go.Proofs.YtkjbbmmidjeecaaDoor
