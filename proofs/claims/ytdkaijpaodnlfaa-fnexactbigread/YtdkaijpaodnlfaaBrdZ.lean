import Derived.Test.YtdkaijpaodnlfaaBrdI
import Derived.Test.YtdkaijpaodnlfaaBrdT
import Derived.Test.YtdkaijpaodnlfaaHelp
namespace Go.Proofs.Ytdkaijpaodnlfaa
open Go.RowKit
set_option linter.unusedVariables false
set_option linter.unusedSimpArgs false

theorem rdL_len (s : ByteArray) (base : Int) : (rdL (readAns s base)).length ≤ 128 := by
  have h : ∀ b D, ∀ n, rdD b D = some n → (lim n).length ≤ 128 := by
    intro b D n h
    unfold rdD at h
    split at h
    · cases h
    · split at h
      · split at h
        · cases h; assumption
        · cases h
      · cases h
  unfold readAns
  split
  · simp [rdL]
  · split
    · cases hr : rdD base.toNat (s.data.toList.drop 1) with
      | none => simp [rdL]
      | some n => simpa [rdL] using h _ _ _ hr
    · cases hr : rdD base.toNat s.data.toList with
      | none => simp [rdL]
      | some n => simpa [rdL] using h _ _ _ hr
set_option maxHeartbeats 1000000 in
set_option maxRecDepth 100000 in
theorem law_bigread (x : ByteArray) (base : Int) (w : World) (h0 : -9223372036854775808 ≤ base) (h1 : base ≤ 9223372036854775807) :
    Calls Try.prog 3 #[.string x, .int .i64 base] w fun e w' => e = .returned (.bool true) ∧ Below w.heap.size w w' := by
  by_cases hbig : (1048576 : Int) < (x.size : Int)
  · go_enter Try.func3, Try.ntmps3
    go_wp2
    go_ret
    exact ⟨rfl, Below.refl _ _⟩
  have hS := fun W => bigReadS_any x base W h0 h1
  have hG := fun W => bigReadI_any x base W h0 h1
  have hLl := rdL_len x base
  generalize rdL (readAns x base) = L at hS hG hLl
  generalize rdS (readAns x base) = s at hS hG
  generalize (readAns x base).isSome = C at hS hG
  go_enter Try.func3, Try.ntmps3
  have hW := Below.refl w.heap.size w
  go_wp2_with fail
  refine (hS _).mono ?_
  rintro e w1 ⟨aS, cS, rfl, oS, hB⟩
  replace hW := hW.trans (hB.mono hW.size)
  have hz1 : w.heap.size ≤ w1.heap.size := by have := hB.size; (try simp at this); omega
  clear hB
  have loS := oS.lt
  replace hW := hW.alloc hW.size (Obj.cells #[.bool s, .slice aS L.length cS] 24)
  replace oS := oS.alloc (Obj.cells #[.bool s, .slice aS L.length cS] 24)
  have bS := Box.new w1 (.bool s) (.slice aS L.length cS) 24
  obtain ⟨-, bSp, bSq⟩ := id bS
  go_wp2_with fail
  clear bSp bSq
  refine (hG _).mono ?_
  rintro e w2 ⟨aG, cG, rfl, oG, hB⟩
  replace hW := hW.trans (hB.mono hW.size)
  replace bS := bS.keep hB
  replace oS := oS.keep hB
  have hz2 : w1.heap.size + 1 ≤ w2.heap.size := by have := hB.size; (try simp at this); omega
  clear hB
  have loG := oG.lt
  simp only [World.size_alloc] at loG
  replace hW := hW.alloc hW.size (Obj.cells #[.bool s, .slice aG L.length cG] 24)
  replace bS := bS.alloc (Obj.cells #[.bool s, .slice aG L.length cG] 24)
  replace oS := oS.alloc (Obj.cells #[.bool s, .slice aG L.length cG] 24)
  replace oG := oG.alloc (Obj.cells #[.bool s, .slice aG L.length cG] 24)
  have bG := Box.new w2 (.bool s) (.slice aG L.length cG) 24
  obtain ⟨-, bSp, bSq⟩ := id bS
  obtain ⟨-, bGp, bGq⟩ := id bG
  go_wp2_with fail
  clear bSp bSq bGp bGq
  refine (eqBig_same _ _ _ L _ oG.rd oS.rd).mono ?_
  rintro e w3 ⟨rfl, hB⟩
  replace hW := hW.trans (hB.mono hW.size)
  replace bS := bS.keep hB
  replace bG := bG.keep hB
  replace oS := oS.keep hB
  replace oG := oG.keep hB
  have hz3 : w2.heap.size + 1 ≤ w3.heap.size := by have := hB.size; (try simp at this); omega
  clear hB
  obtain ⟨-, bSp, bSq⟩ := id bS
  obtain ⟨-, bGp, bGq⟩ := id bG
  go_wp2_with fail
  clear bSp bSq bGp bGq
  refine (markBig_any _ _ _ _ _ L 1 _ oG (by (try simp); omega) (by omega) (by omega)).mono ?_
  rintro e w4 ⟨rfl, oG', hg⟩
  replace hW := hW.trans (gb_to hg (fun k hk => by have := loG k hk; omega) hW.size)
  replace bS := bS.but hg (bx_ne loG (by omega))
  replace bG := bG.but hg (bx_ne loG (by omega))
  replace oS := oS.but hg (ob_ne loS loG (by omega))
  have hz4 : w3.heap.size ≤ w4.heap.size := by have := hg.size; (try simp at this); omega
  clear oG
  have oG := oG'
  clear oG'
  clear hg
  obtain ⟨-, bSp, bSq⟩ := id bS
  obtain ⟨-, bGp, bGq⟩ := id bG
  go_wp2_with fail
  clear bSp bSq bGp bGq
  refine (heldBig_any _ _ _ 1 L.length _ oG.rd (by omega) (by omega) rfl).mono ?_
  rintro e w5 ⟨rfl, hB⟩
  replace hW := hW.trans (hB.mono hW.size)
  replace bS := bS.keep hB
  replace bG := bG.keep hB
  replace oS := oS.keep hB
  replace oG := oG.keep hB
  have hz5 : w4.heap.size ≤ w5.heap.size := by have := hB.size; (try simp at this); omega
  clear hB
  obtain ⟨-, bSp, bSq⟩ := id bS
  obtain ⟨-, bGp, bGq⟩ := id bG
  go_wp2_with fail
  clear bSp bSq bGp bGq
  refine (hG _).mono ?_
  rintro e w6 ⟨aH, cH, rfl, oH, hB⟩
  replace hW := hW.trans (hB.mono hW.size)
  replace bS := bS.keep hB
  replace bG := bG.keep hB
  replace oS := oS.keep hB
  replace oG := oG.keep hB
  have hz6 : w5.heap.size ≤ w6.heap.size := by have := hB.size; (try simp at this); omega
  clear hB
  have loH := oH.lt
  replace hW := hW.alloc hW.size (Obj.cells #[.bool s, .slice aH L.length cH] 24)
  replace bS := bS.alloc (Obj.cells #[.bool s, .slice aH L.length cH] 24)
  replace bG := bG.alloc (Obj.cells #[.bool s, .slice aH L.length cH] 24)
  replace oS := oS.alloc (Obj.cells #[.bool s, .slice aH L.length cH] 24)
  replace oG := oG.alloc (Obj.cells #[.bool s, .slice aH L.length cH] 24)
  replace oH := oH.alloc (Obj.cells #[.bool s, .slice aH L.length cH] 24)
  have bH := Box.new w6 (.bool s) (.slice aH L.length cH) 24
  obtain ⟨-, bSp, bSq⟩ := id bS
  obtain ⟨-, bGp, bGq⟩ := id bG
  obtain ⟨-, bHp, bHq⟩ := id bH
  go_wp2_with fail
  clear bSp bSq bGp bGq bHp bHq
  refine (eqBig_same _ _ _ L _ oH.rd oS.rd).mono ?_
  rintro e w7 ⟨rfl, hB⟩
  replace hW := hW.trans (hB.mono hW.size)
  replace bS := bS.keep hB
  replace bG := bG.keep hB
  replace bH := bH.keep hB
  replace oS := oS.keep hB
  replace oG := oG.keep hB
  replace oH := oH.keep hB
  have hz7 : w6.heap.size + 1 ≤ w7.heap.size := by have := hB.size; (try simp at this); omega
  clear hB
  obtain ⟨-, bSp, bSq⟩ := id bS
  obtain ⟨-, bGp, bGq⟩ := id bG
  obtain ⟨-, bHp, bHq⟩ := id bH
  go_wp2_with fail
  clear bSp bSq bGp bGq bHp bHq
  refine (heldBig_any _ _ _ 1 L.length _ oG.rd (by omega) (by omega) rfl).mono ?_
  rintro e w8 ⟨rfl, hB⟩
  replace hW := hW.trans (hB.mono hW.size)
  replace bS := bS.keep hB
  replace bG := bG.keep hB
  replace bH := bH.keep hB
  replace oS := oS.keep hB
  replace oG := oG.keep hB
  replace oH := oH.keep hB
  have hz8 : w7.heap.size ≤ w8.heap.size := by have := hB.size; (try simp at this); omega
  clear hB
  obtain ⟨-, bSp, bSq⟩ := id bS
  obtain ⟨-, bGp, bGq⟩ := id bG
  obtain ⟨-, bHp, bHq⟩ := id bH
  go_wp2_with fail
  go_ret
  exact ⟨rfl, hW⟩
end Go.Proofs.Ytdkaijpaodnlfaa
