import Derived.Test.YtahcpgldpbejiaaGreatDoorIsC
namespace Go.Proofs.YtahcpgldpbejiaaGreatDoor
open Go.RowKit Go.Lib
set_option linter.unusedVariables false
set_option linter.unusedSimpArgs false

/-- The three errors of the program, each at a place of its own. -/
def Errs (w : World) (aA aZ aL : Addr) : Prop :=
  (w.cell? ⟨0, 0, none⟩ = some (errAt aA) ∧ w.cell? ⟨1, 0, none⟩ = some (errAt aZ) ∧ w.cell? ⟨2, 0, none⟩ = some (errAt aL)) ∧
  (ErrCell w aA ∧ ErrCell w aZ ∧ ErrCell w aL) ∧ aA ≠ aZ ∧ aA ≠ aL ∧ aZ ≠ aL
theorem cell_lt {w : World} {b o : Nat} {v : Value} (h : w.cell? ⟨b, o, none⟩ = some v) : b < w.heap.size := by
  rcases Nat.lt_or_ge b w.heap.size with h' | h'
  · exact h'
  · exfalso
    unfold World.cell? at h
    simp [Array.getElem?_eq_none h'] at h
theorem ErrCell.below {w w' : World} {a : Addr} (h : ErrCell w a) (hb : Below w.heap.size w w') : ErrCell w' a := by
  obtain ⟨c, t, hc⟩ := h
  have hlt : a.block < w.heap.size := by
    rcases Nat.lt_or_ge a.block w.heap.size with h' | h'
    · exact h'
    · rw [Array.getElem?_eq_none h'] at hc; cases hc
  exact ⟨c, t, by rw [hb.block _ hlt]; exact hc⟩
theorem Errs.below {w w' : World} {aA aZ aL : Addr} (h : Errs w aA aZ aL) (hb : Below w.heap.size w w') : Errs w' aA aZ aL := by
  obtain ⟨⟨h1, h2, h3⟩, ⟨e1, e2, e3⟩, hn⟩ := h
  exact ⟨⟨(hb.cell (p := ⟨_, 0, none⟩) (cell_lt h1)).trans h1, (hb.cell (p := ⟨_, 0, none⟩) (cell_lt h2)).trans h2, (hb.cell (p := ⟨_, 0, none⟩) (cell_lt h3)).trans h3⟩, ⟨e1.below hb, e2.below hb, e3.below hb⟩, hn⟩
/-- What a refusal says, in a code. -/
def IsErr (aA aZ aL : Addr) (v : Value) (c : Int) : Prop :=
  (v = .nilIface ∧ c = 0) ∨ (v = errAt aA ∧ c = 1) ∨ (v = errAt aZ ∧ c = 2) ∨ (v = errAt aL ∧ c = 3) ∨
  (∃ t, v = .iface 87 (.agg #[.string t, errAt aA]) ∧ c = 1) ∨ (∃ t, v = .iface 87 (.agg #[.string t, errAt aZ]) ∧ c = 2) ∨ (∃ t, v = .iface 87 (.agg #[.string t, errAt aL]) ∧ c = 3)
set_option maxRecDepth 100000 in
theorem codeOf_any (aA aZ aL : Addr) (v : Value) (c : Int) (w : World) (hE : Errs w aA aZ aL) (hv : IsErr aA aZ aL v c) :
    Calls Tryz.prog 27 #[v] w fun e w' => e = .returned (.int .i64 c) ∧ Below w.heap.size w w' := by
  obtain ⟨⟨g1, g2, g3⟩, ⟨e1, e2, e3⟩, n1, n2, n3⟩ := hE
  rcases hv with ⟨rfl, rfl⟩ | ⟨rfl, rfl⟩ | ⟨rfl, rfl⟩ | ⟨rfl, rfl⟩ | ⟨t, rfl, rfl⟩ | ⟨t, rfl, rfl⟩ | ⟨t, rfl, rfl⟩
  · go_enter Tryz.func27, Tryz.ntmps27
    go_wp2
    go_ret
    exact ⟨rfl, Below.refl _ _⟩
  · have k1 := is_other aA aZ w n1 e1 e2
    have k2 := is_other aA aL w n2 e1 e3
    go_enter Tryz.func27, Tryz.ntmps27
    go_wp2_with fail
    refine k1.mono ?_
    rintro e w1 ⟨rfl, rfl⟩
    go_wp2_with fail
    refine k2.mono ?_
    rintro e w1 ⟨rfl, rfl⟩
    go_wp2
    go_ret
    exact ⟨rfl, Below.refl _ _⟩
  · have k1 := is_same aZ w
    go_enter Tryz.func27, Tryz.ntmps27
    go_wp2_with fail
    refine k1.mono ?_
    rintro e w1 ⟨rfl, rfl⟩
    go_wp2
    go_ret
    exact ⟨rfl, Below.refl _ _⟩
  · have k1 := is_other aL aZ w (Ne.symm n3) e3 e2
    have k2 := is_same aL w
    go_enter Tryz.func27, Tryz.ntmps27
    go_wp2_with fail
    refine k1.mono ?_
    rintro e w1 ⟨rfl, rfl⟩
    go_wp2_with fail
    refine k2.mono ?_
    rintro e w1 ⟨rfl, rfl⟩
    go_wp2
    go_ret
    exact ⟨rfl, Below.refl _ _⟩
  · have k1 := is_wrap_other t aA aZ w n1 e1 e2
    have k2 := fun W h1 h2 => is_wrap_other t aA aL W n2 h1 h2
    go_enter Tryz.func27, Tryz.ntmps27
    go_wp2_with fail
    refine k1.mono ?_
    rintro e w1 ⟨rfl, hb⟩
    have g3' := (hb.cell (p := ⟨_, 0, none⟩) (cell_lt g3)).trans g3
    go_wp2_with fail
    refine (k2 _ (e1.below hb) (e3.below hb)).mono ?_
    rintro e w2 ⟨rfl, hb2⟩
    go_wp2
    go_ret
    exact ⟨rfl, hb.trans (hb2.mono hb.size)⟩
  · have k1 := is_wrap_same t aZ w
    go_enter Tryz.func27, Tryz.ntmps27
    go_wp2_with fail
    refine k1.mono ?_
    rintro e w1 ⟨rfl, hb⟩
    go_wp2
    go_ret
    exact ⟨rfl, hb⟩
  · have k1 := is_wrap_other t aL aZ w (Ne.symm n3) e3 e2
    have k2 := fun W => is_wrap_same t aL W
    go_enter Tryz.func27, Tryz.ntmps27
    go_wp2_with fail
    refine k1.mono ?_
    rintro e w1 ⟨rfl, hb⟩
    have g3' := (hb.cell (p := ⟨_, 0, none⟩) (cell_lt g3)).trans g3
    go_wp2_with fail
    refine (k2 _).mono ?_
    rintro e w2 ⟨rfl, hb2⟩
    go_wp2
    go_ret
    exact ⟨rfl, hb.trans (hb2.mono hb.size)⟩
end Go.Proofs.YtahcpgldpbejiaaGreatDoor
