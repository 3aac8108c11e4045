import Derived.Test.YtdamddfhflhfbaaDoorCutP
import Derived.Test.YtdamddfhflhfbaaDoorPutS
namespace Go.Proofs.YtdamddfhflhfbaaDoor
open Go.RowKit Go.Lib
set_option linter.unusedVariables false
set_option linter.unusedSimpArgs false

theorem ansL_length' (rs : List Nat) : (ansL (some rs)).length = rs.length := by simp [ansL]
set_option maxHeartbeats 2000000 in
set_option maxRecDepth 100000 in
theorem textCutS_any (s : ByteArray) (lh : Bool) (la : Int) (hh : Bool) (ha : Int) (sh : Bool) (sa : Int) (w : World) (hm : s.size ≤ 16777216)
    (hl0 : -9223372036854775808 ≤ la) (hl1 : la ≤ 9223372036854775807) (hh0 : -9223372036854775808 ≤ ha) (hh1 : ha ≤ 9223372036854775807) (hs0 : -9223372036854775808 ≤ sa) (hs1 : sa ≤ 9223372036854775807) :
    Calls Tryd.prog 35 #[.string s, bnd lh la, bnd hh ha, bnd sh sa] w fun e w' => e = .returned (.tuple #[.string ⟨(cutAns s lh la hh ha sh sa).1.toArray⟩, .int .i64 (cutAns s lh la hh ha sh sa).2]) ∧ Below w.heap.size w w' := by
  have bW : Below w.heap.size w (((w.alloc (Obj.cells #[.bool lh, .int .i64 la] 27)).alloc (Obj.cells #[.bool hh, .int .i64 ha] 27)).alloc (Obj.cells #[.bool sh, .int .i64 sa] 27)) := (((Below.refl _ w).alloc (Nat.le_refl _) _).alloc (by simp) _).alloc (by simp; omega) _
  have bL := (((Box.new w (.bool lh) (.int .i64 la) 27).alloc (Obj.cells #[.bool hh, .int .i64 ha] 27)).alloc (Obj.cells #[.bool sh, .int .i64 sa] 27))
  have bH := ((Box.new (w.alloc (Obj.cells #[.bool lh, .int .i64 la] 27)) (.bool hh) (.int .i64 ha) 27).alloc (Obj.cells #[.bool sh, .int .i64 sa] 27))
  have bS := (Box.new ((w.alloc (Obj.cells #[.bool lh, .int .i64 la] 27)).alloc (Obj.cells #[.bool hh, .int .i64 ha] 27)) (.bool sh) (.int .i64 sa) 27)
  simp only [World.size_alloc] at bH bS
  have hR := fun W => l3Runes_any s W (by omega)
  cases hA : textOf s with
  | none =>
    have hfa : cutAns s lh la hh ha sh sa = ([], 1) := by unfold cutAns; rw [hA]
    rw [hfa]
    rw [hA, show (none : Option (List Nat)).isSome = false from rfl] at hR
    clear hA
    go_enter Tryd.func35, Tryd.ntmps35
    go_wp2_with fail
    refine (hR _).mono ?_
    rintro e w1 ⟨a1, c1, rfl, hO1, hB1⟩
    go_wp2
    refine bodyPost_ret (v := .tuple #[.string ⟨#[]⟩, .int .i64 1]) (by simp [results, Tryd.results35, go_sem]) rfl ?_
    exact ⟨rfl, bW.trans (hB1.mono bW.size)⟩
  | some rs =>
    have hfa : cutAns s lh la hh ha sh sa = (encs (pick rs (sliceAns (rs.length : Int) lh la hh ha sh sa).1), (sliceAns (rs.length : Int) lh la hh ha sh sa).2) := by unfold cutAns; rw [hA]
    rw [hfa]
    clear hfa
    rw [hA, ansL_length', show (some rs).isSome = true from rfl] at hR
    have hS := fun W => sliceS_any (rs.length : Int) lh la hh ha sh sa W hl0 hl1 hh0 hh1 hs0 hs1
    have hAl := ans_len (rs.length : Int) lh la hh ha sh sa
    have hAr := ans_range (n := (rs.length : Int)) (lh := lh) (la := la) (hh := hh) (ha := ha) (sh := sh) (sa := sa)
    generalize sliceAns (rs.length : Int) lh la hh ha sh sa = A at hS hAl hAr ⊢
    obtain ⟨L, c⟩ := A
    simp only at hS hAl hAr ⊢
    have hsc : ∀ r ∈ rs, Scalar r := by
      unfold textOf at hA
      by_cases h : s.size ≤ 16384
      · rw [if_pos h] at hA; exact ((runesOf_iff s rs).1 hA).2
      · rw [if_neg h] at hA; cases hA
    have HP : Hid (∀ r ∈ pick rs L, Scalar r) := pick_scalar hsc hAr
    have HR : Hid (∀ z ∈ L, 0 ≤ z ∧ z < (rs.length : Int)) := hAr
    have HS : Hid (∀ r ∈ rs, Scalar r) := hsc
    clear hA hAr hsc
    go_enter Tryd.func35, Tryd.ntmps35
    go_wp2_with fail
    refine (hR _).mono ?_
    rintro e w1 ⟨a1, c1, rfl, hO1, hB1⟩
    obtain ⟨-, k0, k1⟩ := bL.keep hB1
    obtain ⟨-, k2, k3⟩ := bH.keep hB1
    obtain ⟨-, k4, k5⟩ := bS.keep hB1
    have hW1 := bW.trans (hB1.mono bW.size)
    clear hR hB1 bL bH bS bW
    go_wp2_with fail
    refine (hS _).mono ?_
    rintro e w2 ⟨a2, c2, rfl, hO2, hB2⟩
    have hW2 := hW1.trans (hB2.mono hW1.size)
    have rC := (hO1.keep hB2).rd
    have rL := hO2.rd
    have hz2 := hW2.size
    clear hS hB2 hO1 hO2 hW1 k0 k1 k2 k3 k4 k5
    go_wp2
    go_loopw [14, 15] (fun o i wr => ∃ (k : Nat) (X : List Int) (ao : Option Addr) (co : Nat), k ≤ L.length ∧ X = (pick rs (L.take k)).map (fun (n : Nat) => (n : Int)) ∧ X.length = k ∧ i = .int .i64 k ∧ o = .slice ao X.length co ∧ Own wr w2.heap.size (.slice ao X.length co) X ∧ Below w2.heap.size w2 wr) (fun _ i _ => L.length - (RowKit.intOf i).toNat)
    case atStart => exact ⟨0, [], _, _, by omega, rfl, rfl, rfl, rfl, Own.empty w2, (Below.refl _ _).alloc (Nat.le_refl _) _⟩
    case round =>
      obtain ⟨k, X, ao, co, hk, hX, hXl, rfl, rfl, hOw, hBr⟩ := hrel
      have HX : Hid (X = (pick rs (L.take k)).map (fun (n : Nat) => (n : Int))) := hX
      have HXl : Hid (X.length = k) := hXl
      have hXb : X.length ≤ 16384 := by omega
      clear hX hXl
      have hwk := wrap64_id (a := (k : Int) + 1) (by omega) (by omega)
      by_cases hi : k < L.length
      · have hiz : (k : Int) < (L.length : Int) := by omega
        obtain ⟨aL', cL', e1, _, _, _, hcL⟩ := rL.keep hBr
        simp only [Value.slice.injEq] at e1
        obtain ⟨rfl, -, rfl⟩ := e1
        obtain ⟨bl, ol, rfl, hbl, hcellL⟩ := hcL (by omega)
        have hckL := hcellL k hi
        obtain ⟨z, hz⟩ : ∃ z, L.getD k 0 = z := ⟨_, rfl⟩
        rw [hz] at hckL
        have hzr := HR.out z (by rw [← hz]; have : L.getD k 0 = L[k] := by simp [List.getD, hi]
                                 rw [this]; exact List.getElem_mem hi)
        obtain ⟨m, hm2⟩ : ∃ m : Nat, z = (m : Int) := ⟨z.toNat, by omega⟩
        subst hm2
        have hmr : m < rs.length := by omega
        have hmz : (m : Int) < (rs.length : Int) := by omega
        obtain ⟨aC', cC', e2, _, _, _, hcC⟩ := rC.keep hBr
        simp only [Value.slice.injEq, ansL_length'] at e2
        obtain ⟨rfl, -, rfl⟩ := e2
        obtain ⟨bc, oc, rfl, hbc, hcellC⟩ := hcC (by rw [ansL_length']; omega)
        have hckC := hcellC m (by rw [ansL_length']; exact hmr)
        obtain ⟨r, hr⟩ : ∃ r, rs.getD m 0 = r := ⟨_, rfl⟩
        have hgd : (ansL (some rs)).getD m 0 = (r : Int) := by
          rw [← hr]; simp [ansL, List.getD, hmr]
        rw [hgd] at hckC
        have hrs : Scalar r := by
          rw [← hr]
          have : rs.getD m 0 = rs[m] := by simp [List.getD, hmr]
          rw [this]; exact HS.out _ (List.getElem_mem hmr)
        have hr1 : (r : Int) < 4294967296 := by unfold Scalar at hrs; omega
        have hr0 : (0 : Int) ≤ (r : Int) := by omega
        have HN : Hid (X ++ [(r : Int)] = (pick rs (L.take (k + 1))).map (fun (n : Nat) => (n : Int))) := by
          show _ = _
          rw [← pick_snoc rs L k hi, hz, show ((m : Int)).toNat = m from rfl, hr, List.map_append, HX.out]; rfl
        clear hcellL hcellC hgd hrs hr hz hzr hcL hcC
        go_wp2_with (at_builtin; refine wpList_append_rd rfl _ _ 24 rfl Tryd.underlying24 w2.heap.size _ _ X [(r : Int)] rfl rfl (hOw.alloc _) (Rd.one wr wr.heap.size rfl 2 hr0 hr1) (by simp; omega) (by have := hBr.size; simp; omega) ?_; intro a3 c3 w3 hO3 hB3)
        have hB4 := (hBr.alloc hBr.size (Obj.cells #[.int .i64 (r : Int)] 2)).trans hB3
        go_roundw
        case rel => exact ⟨k + 1, X ++ [(r : Int)], a3, c3, by omega, HN.out, by simp [HXl.out], by go_num, by simp, hO3, hB4⟩
        case measure => first | (simp [RowKit.intOf]; done) | (simp [RowKit.intOf]; omega)
      · have hiz : ¬ (k : Int) < (L.length : Int) := by omega
        have hX := HX.out
        rw [List.take_of_length_le (by omega)] at hX
        have hT := l3Text_any ao co (pick rs L) wr
        have hpl : (pick rs L).length = X.length := by rw [hX]; simp
        rw [hpl, ← hX] at hT
        have hT2 := hT hOw.rd HP.out (by omega)
        clear hT hX HX
        go_wp2_with fail
        refine hT2.mono ?_
        rintro e w4 ⟨rfl, hB4⟩
        go_wp2
        refine bodyPost_ret (v := .tuple #[.string ⟨(encs (pick rs L)).toArray⟩, .int .i64 c]) (by simp [results, Tryd.results35, go_sem]) rfl ?_
        exact ⟨rfl, hW2.trans ((hBr.trans (hB4.mono hBr.size)).mono hz2)⟩
end Go.Proofs.YtdamddfhflhfbaaDoor
