import Derived.Test.YtahcpgldpbejiaaGreatDoorFmH
namespace Go.Proofs.YtahcpgldpbejiaaGreatDoor
open Go.RowKit Go.Lib Go.Shelf
set_option linter.unusedVariables false
set_option linter.unusedSimpArgs false

theorem ftS_ex (sp s : ByteArray) : ∃ x y, ftS sp s = .tuple #[.string x, .int .i64 y] := by
  unfold ftS argsV fitV
  repeat' split
  all_goals exact ⟨_, _, rfl⟩
set_option maxHeartbeats 1000000 in
set_option maxRecDepth 100000 in
theorem law_formattext (sp s : ByteArray) (W : World) (hT : Tabs W) (hEx : ∃ aA aZ aL, Errs W aA aZ aL) (hEf : ErrF W) :
    Calls Tryz.prog 3 #[.string sp, .string s] W fun e w' => e = .returned (.bool true) ∧ Below W.heap.size W w' := by
  obtain ⟨aA, aZ, aL, hE⟩ := hEx
  by_cases hb1 : (1048576 : Int) < (sp.size : Int)
  · go_enter Tryz.func3, Tryz.ntmps3
    go_wp2
    go_ret
    exact ⟨rfl, Below.refl _ _⟩
  by_cases hb2 : (1048576 : Int) < (s.size : Int)
  · go_enter Tryz.func3, Tryz.ntmps3
    go_wp2
    go_ret
    exact ⟨rfl, Below.refl _ _⟩
  · have hS := formatTextS_any sp s W (by omega) (by omega)
    have hG := fun w h1 h2 h3 => formatText_any sp s w (by omega) (by omega) h1 aA aZ aL h2 h3
    obtain ⟨X, c, hX⟩ := ftS_ex sp s
    rw [hX] at hS hG
    have hX' : Hid (ftS sp s = .tuple #[.string X, .int .i64 c]) := hX
    clear hX
    go_enter Tryz.func3, Tryz.ntmps3
    go_wp2_with fail
    refine hS.mono ?_
    rintro e w1 ⟨rfl, hB1⟩
    have hG1 := hG w1 (hT.below hB1) (hE.below hB1) (hEf.below hB1)
    clear hS hG
    go_wp2_with fail
    refine hG1.mono ?_
    rintro e w2 ⟨rfl, hB2⟩
    clear hG1
    go_wp2
    go_ret
    exact ⟨rfl, hB1.trans (hB2.mono hB1.size)⟩
end Go.Proofs.YtahcpgldpbejiaaGreatDoor
