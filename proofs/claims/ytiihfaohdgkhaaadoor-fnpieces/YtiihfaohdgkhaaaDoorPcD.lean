import Derived.Test.YtiihfaohdgkhaaaDoorDrwU
namespace Go.Proofs.YtiihfaohdgkhaaaDoor
open Go.RowKit
set_option linter.unusedVariables false
set_option linter.unusedSimpArgs false

set_option maxRecDepth 100000 in
theorem drawTextRepr_any (w : World) (a : Option Addr) (n c : Nat) (bs : List Int) (h : Src w a n c bs) :
    Calls Tryd.prog 6 #[.slice a n c] w fun e w' => ∃ s : ByteArray, e = .returned (.string s) ∧ s.size ≤ 20000 ∧ Below w.heap.size w w' := by
  have hO := open_any w a n c bs h
  go_enter Tryd.func6, Tryd.ntmps6
  go_wp2_with fail
  refine hO.mono ?_
  rintro e w1 ⟨g, rfl, hg, hR, hB⟩
  have hT := drawText_any w1 g a n c bs hR
  go_wp2_with fail
  refine hT.mono ?_
  rintro e w2 ⟨s, rfl, hs, hD⟩
  have hB2 := hB.trans (gb_to hD.gb (fun k hk => by cases hk; exact hg) hB.size)
  clear hT hO
  go_wp2
  go_ret
  exact ⟨s, rfl, hs, hB2⟩
set_option maxRecDepth 100000 in
set_option maxHeartbeats 1000000 in
theorem drawTextFind_any (w : World) (a : Option Addr) (n c : Nat) (bs : List Int) (h : Src w a n c bs) :
    Calls Tryd.prog 12 #[.slice a n c] w fun e w' => ∃ (s t : ByteArray) (x : Int), e = .returned (.tuple #[.string s, .string t, .int .i64 x]) ∧ s.size ≤ 20000 ∧ t.size ≤ 20000 ∧ Below w.heap.size w w' := by
  have hO := open_any w a n c bs h
  go_enter Tryd.func12, Tryd.ntmps12
  go_wp2_with fail
  refine hO.mono ?_
  rintro e w1 ⟨g, rfl, hg, hR, hB⟩
  have hT := fun W h => drawText_any W g a n c bs h
  have hP := fun W h => drawPiece_any W g a n c bs h
  have h4 := fun W h => once_any W g a n c bs 4 (by omega) (by omega) h
  have h8 := fun W h => once_any W g a n c bs 8 (by omega) (by omega) h
  have hb := fun W h => below_any W g a n c bs 12 (by omega) (by omega) h
  clear hO
  go_wp2_with fail
  refine (hT _ hR).mono ?_
  rintro e w2 ⟨s, rfl, hs, hD⟩
  go_wp2_with fail
  refine (hP _ hD.rd).mono ?_
  rintro e w3 ⟨t, rfl, ht, hD3⟩
  replace hD := hD.trans hD3
  clear hD3
  replace ht : t.size ≤ 20000 := by omega
  go_wp2_with fail
  refine (h4 _ hD.rd).mono ?_
  rintro e w4 ⟨q4, rfl, hD4⟩
  replace hD := hD.trans hD4
  clear hD4
  have hend : ∀ W, Drawn w1 W g a n c bs → Below w.heap.size w W := fun W k => hB.trans (gb_to k.gb (fun k hk => by cases hk; exact hg) hB.size)
  cases q4
  · go_wp2_with fail
    refine (h8 _ hD.rd).mono ?_
    rintro e w5 ⟨q8, rfl, hD5⟩
    replace hD := hD.trans hD5
    clear hD5
    cases q8
    all_goals
      go_wp2_with fail
      refine (hb _ hD.rd).mono ?_
      rintro e w6 ⟨x, rfl, hx, hD6⟩
      replace hD := hD.trans hD6
      have hxz : (x : Int) < 12 := by omega
      clear hD6 hT hP h4 h8 hb
      have hE := hend _ hD
      go_wp2
      first
        | (refine bodyPost_ret (v := .tuple #[.string s, .string t, .int .i64 ((x : Int) - 2)]) ?_ rfl ⟨s, t, _, rfl, hs, ht, hE⟩; simp [results, Tryd.results12, go_sem]; done)
        | (refine bodyPost_ret (v := .tuple #[.string s, .string ⟨#[]⟩, .int .i64 ((x : Int) - 2)]) ?_ rfl ⟨s, ⟨#[]⟩, _, rfl, hs, by decide, hE⟩; simp [results, Tryd.results12, go_sem]; done)
  · go_wp2_with fail
    refine (hT _ hD.rd).mono ?_
    rintro e w5 ⟨t2, rfl, ht2, hD5⟩
    replace hD := hD.trans hD5
    clear hD5
    go_wp2_with fail
    refine (h8 _ hD.rd).mono ?_
    rintro e w5 ⟨q8, rfl, hD5⟩
    replace hD := hD.trans hD5
    clear hD5
    cases q8
    all_goals
      go_wp2_with fail
      refine (hb _ hD.rd).mono ?_
      rintro e w6 ⟨x, rfl, hx, hD6⟩
      replace hD := hD.trans hD6
      have hxz : (x : Int) < 12 := by omega
      clear hD6 hT hP h4 h8 hb
      have hE := hend _ hD
      go_wp2
      first
        | (refine bodyPost_ret (v := .tuple #[.string s, .string t2, .int .i64 ((x : Int) - 2)]) ?_ rfl ⟨s, t2, _, rfl, hs, ht2, hE⟩; simp [results, Tryd.results12, go_sem]; done)
        | (refine bodyPost_ret (v := .tuple #[.string s, .string ⟨#[]⟩, .int .i64 ((x : Int) - 2)]) ?_ rfl ⟨s, ⟨#[]⟩, _, rfl, hs, by decide, hE⟩; simp [results, Tryd.results12, go_sem]; done)
set_option maxRecDepth 100000 in
theorem drawTextSplit_any (w : World) (a : Option Addr) (n c : Nat) (bs : List Int) (h : Src w a n c bs) :
    Calls Tryd.prog 5 #[.slice a n c] w fun e w' => ∃ (s t : ByteArray), e = .returned (.tuple #[.string s, .string t]) ∧ s.size ≤ 20000 ∧ t.size ≤ 20000 ∧ Below w.heap.size w w' := by
  have hF := drawTextFind_any w a n c bs h
  go_enter Tryd.func5, Tryd.ntmps5
  go_wp2_with fail
  refine hF.mono ?_
  rintro e w1 ⟨s, t, x, rfl, hs, ht, hB⟩
  clear hF
  go_wp2
  exact bodyPost_ret (v := .tuple #[.string s, .string t]) (by simp [results, Tryd.results5, go_sem]) rfl ⟨s, t, rfl, hs, ht, hB⟩
end Go.Proofs.YtiihfaohdgkhaaaDoor
