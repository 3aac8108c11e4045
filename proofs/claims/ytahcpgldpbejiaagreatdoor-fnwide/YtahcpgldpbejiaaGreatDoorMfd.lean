import Derived.Test.YtahcpgldpbejiaaGreatDoorFbI
import Derived.Test.YtahcpgldpbejiaaGreatDoorFmG
namespace Go.Proofs.YtahcpgldpbejiaaGreatDoor
open Go.RowKit Go.Lib Go.Shelf
set_option linter.unusedVariables false
set_option linter.unusedSimpArgs false

set_option maxHeartbeats 1000000 in
set_option maxRecDepth 100000 in
theorem formatBig_any (sp : ByteArray) (p : Bool) (u : Value) (xs : List Int) (w : World) (hsp : sp.size ≤ 16777216) (hx : Z.Rd w u xs) (hT : Tabs w) (aA aZ aL : Addr) (hE : Errs w aA aZ aL) (hEf : ErrF w) :
    Calls Tryz.prog 11 #[.string sp, .agg #[.bool p, u]] w fun e w' => e = .returned (fbS sp p xs) ∧ Below w.heap.size w w' := by
  have hx' := hx
  obtain ⟨a, cap, rfl, _, hzx, hnx, hcx⟩ := hx
  clear hcx hnx
  have bA := Z.Box.new w (.bool p) (.slice a xs.length cap) 30
  have rx := hx'.alloc (Obj.cells #[.bool p, .slice a xs.length cap] 30)
  have hW := (Below.refl w.heap.size w).alloc (Nat.le_refl _) (Obj.cells #[.bool p, .slice a xs.length cap] 30)
  have hF := fun W h1 h2 h3 h4 => formattedBig_any sp p (.slice a xs.length cap) xs W hsp h1 h2 aA aZ aL h3 h4
  go_enter Tryz.func11, Tryz.ntmps11
  go_upto_region 1 with fail
  generalize w.alloc _ = W0 at *
  obtain ⟨-, k0, k1⟩ := id bA
  go_wp2_with fail
  refine (hF W0 rx (hT.below hW) (hE.below hW) (hEf.below hW)).mono ?_
  rintro e w1 ⟨X, er, code, rfl, hI, hR, hX, hB1⟩
  clear hF k0 k1
  have hR' : Hid (fbS sp p xs = .tuple #[.string X, .int .i64 code]) := hR
  clear hR
  have hW1 := hW.trans (hB1.mono hW.size)
  have hD := codeOf_any aA aZ aL er code w1 (hE.below hW1) hI
  go_wp2_with fail
  refine hD.mono ?_
  rintro e w3 ⟨rfl, hB3⟩
  clear hD
  go_wp2
  refine bodyPost_ret (v := .tuple #[.string X, .int .i64 code]) (by simp [results, Tryz.results11, go_sem, Act.put]) rfl ?_
  exact ⟨congrArg Ending.returned (show _ = fbS sp p xs from Eq.symm hR'), hW1.trans (hB3.mono hW1.size)⟩
end Go.Proofs.YtahcpgldpbejiaaGreatDoor

namespace Go.Proofs.YtahcpgldpbejiaaGreatDoor
open Go.RowKit Go.Lib Go.Shelf
set_option linter.unusedVariables false
set_option linter.unusedSimpArgs false

set_option maxHeartbeats 1000000 in
set_option maxRecDepth 100000 in
theorem formatText_any (sp s : ByteArray) (w : World) (hsp : sp.size ≤ 16777216) (hs : s.size ≤ 16777216) (hT : Tabs w) (aA aZ aL : Addr) (hE : Errs w aA aZ aL) (hEf : ErrF w) :
    Calls Tryz.prog 7 #[.string sp, .string s] w fun e w' => e = .returned (ftS sp s) ∧ Below w.heap.size w w' := by
  have hF := formattedText_any sp s w hsp hs hT aA aZ aL hE hEf
  have hC := fun (X : ByteArray) W (h : X.size ≤ 281474976710656) => clone_any X W h
  go_enter Tryz.func7, Tryz.ntmps7
  go_wp2_with fail
  refine hF.mono ?_
  rintro e w1 ⟨X, er, code, rfl, hI, hR, hX, hB1⟩
  have hC1 := hC X w1 (by omega)
  clear hF hC
  have hR' : Hid (ftS sp s = .tuple #[.string X, .int .i64 code]) := hR
  clear hR
  go_wp2_with fail
  refine hC1.mono ?_
  rintro e w2 ⟨rfl, hB2⟩
  have hD := codeOf_any aA aZ aL er code w2 ((hE.below hB1).below (hB2)) hI
  clear hC1
  go_wp2_with fail
  refine hD.mono ?_
  rintro e w3 ⟨rfl, hB3⟩
  clear hD
  go_wp2
  refine bodyPost_ret (v := .tuple #[.string X, .int .i64 code]) (by simp [results, Tryz.results7, go_sem, Act.put]) rfl ?_
  have hB := (hB1.trans (hB2.mono hB1.size)).trans (hB3.mono (by have := hB1.size; have := hB2.size; omega))
  exact ⟨congrArg Ending.returned (show _ = ftS sp s from Eq.symm hR'), hB⟩
end Go.Proofs.YtahcpgldpbejiaaGreatDoor
