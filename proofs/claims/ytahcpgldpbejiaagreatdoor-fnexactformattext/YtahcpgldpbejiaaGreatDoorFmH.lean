import Derived.Test.YtahcpgldpbejiaaGreatDoorFmG
namespace Go.Proofs.YtahcpgldpbejiaaGreatDoor
open Go.RowKit Go.Lib Go.Shelf
set_option linter.unusedVariables false
set_option linter.unusedSimpArgs false

set_option maxHeartbeats 1000000 in
set_option maxRecDepth 100000 in
theorem formatText_any (sp s : ByteArray) (w : World) (hsp : sp.size ≤ 16777216) (hs : s.size ≤ 16777216) (hT : Tabs w) (aA aZ aL : Addr) (hE : Errs w aA aZ aL) (hEf : ErrF w) :
    Calls Tryz.prog 7 #[.string sp, .string s] w fun e w' => e = .returned (ftS sp s) ∧ Below w.heap.size w w' := by
  have hF := formattedText_any sp s w hsp hs hT aA aZ aL hE hEf
  have hC := fun (X : ByteArray) W (h : X.size ≤ 281474976710656) => clone_any X W h
  go_enter Tryz.func7, Tryz.ntmps7
  go_wp2_with fail
  refine hF.mono ?_
  rintro e w1 ⟨X, er, code, rfl, hI, hR, hX, hB1⟩
  have hC1 := hC X w1 (by omega)
  clear hF hC
  have hR' : Hid (ftS sp s = .tuple #[.string X, .int .i64 code]) := hR
  clear hR
  go_wp2_with fail
  refine hC1.mono ?_
  rintro e w2 ⟨rfl, hB2⟩
  have hD := codeOf_any aA aZ aL er code w2 ((hE.below hB1).below (hB2)) hI
  clear hC1
  go_wp2_with fail
  refine hD.mono ?_
  rintro e w3 ⟨rfl, hB3⟩
  clear hD
  go_wp2
  refine bodyPost_ret (v := .tuple #[.string X, .int .i64 code]) (by simp [results, Tryz.results7, go_sem, Act.put]) rfl ?_
  have hB := (hB1.trans (hB2.mono hB1.size)).trans (hB3.mono (by have := hB1.size; have := hB2.size; omega))
  exact ⟨congrArg Ending.returned (show _ = ftS sp s from Eq.symm hR'), hB⟩
end Go.Proofs.YtahcpgldpbejiaaGreatDoor
