import Derived.Test.YtgbkniliojpejaaDoorBrdL
import Derived.Test.YtgbkniliojpejaaDoorFit
import Derived.Test.YtgbkniliojpejaaDoorBrdS
import Derived.Deep.RegionHeld3
namespace Go.Proofs.YtgbkniliojpejaaDoor
open Go.RowKit Go.Shelf
attribute [local go_sem] Oper.semAt_some
set_option linter.unusedVariables false
set_option linter.unusedSimpArgs false

set_option maxRecDepth 100000 in
theorem baseOkR_any (base : Int) (w : World) :
    Calls Tryd.prog 16 #[.int .i64 base] w fun e w' => e = .returned (.bool (decide (2 ≤ base ∧ base ≤ 36))) ∧ w' = w := by
  by_cases h1 : 2 ≤ base
  · by_cases h2 : base ≤ 36
    · rw [decide_eq_true ⟨h1, h2⟩]
      go_enter Tryd.func16, Tryd.ntmps16
      go_wp2
      go_ret
      exact ⟨rfl, rfl⟩
    · rw [decide_eq_false (fun h => h2 h.2)]
      have h3 : (36 : Int) < base := by omega
      go_enter Tryd.func16, Tryd.ntmps16
      go_wp2
      go_ret
      exact ⟨rfl, rfl⟩
  · rw [decide_eq_false (fun h => h1 h.1)]
    have h3 : base < 2 := by omega
    go_enter Tryd.func16, Tryd.ntmps16
    go_wp2
    go_ret
    exact ⟨rfl, rfl⟩
theorem extract_data (s : ByteArray) (i j : Nat) : (s.extract i j).data.toList = (s.data.toList.take j).drop i := by
  rw [ByteArray.data_extract]
  simp [List.drop_take]
theorem first_is (s : ByteArray) : ((s.extract 0 1).toList == [45]) = decide (s.data.toList.head? = some 45) := by
  rw [ByteArray.toList_eq, extract_data, List.drop_zero]
  cases s.data.toList with
  | nil => rfl
  | cons a l => by_cases h : a = 45 <;> simp [h]
set_option maxRecDepth 100000 in
theorem hasMinus_any (s : ByteArray) (w : World) (hs : s.size ≤ 5000) :
    Calls Tryd.prog 44 #[.string s, .string ⟨#[45]⟩] w fun e w' => e = .returned (.bool (decide (s.data.toList.head? = some 45))) ∧ w' = w := by
  by_cases h0 : s.size = 0
  · have hz : (s.size : Int) = 0 := by omega
    have hd : s.data.toList = [] := by
      apply List.eq_nil_of_length_eq_zero
      simpa using h0
    rw [hd]
    go_enter Tryd.func44, Tryd.ntmps44
    go_wp2
    go_ret
    exact ⟨rfl, rfl⟩
  · have hz : (1 : Int) ≤ (s.size : Int) := by omega
    go_enter Tryd.func44, Tryd.ntmps44
    go_wp2
    go_ret
    exact ⟨by rw [first_is]; rfl, rfl⟩
set_option maxRecDepth 100000 in
theorem cutMinusL_any (s : ByteArray) (w : World) (hs : s.size ≤ 5000) :
    Calls Tryd.prog 32 #[.string s, .string ⟨#[45]⟩] w fun e w' => e = .returned (.tuple #[.string (if s.data.toList.head? = some 45 then s.extract 1 s.size else s), .bool (decide (s.data.toList.head? = some 45))]) ∧ w' = w := by
  have h := hasMinus_any s w hs
  by_cases hx : s.data.toList.head? = some 45
  · rw [if_pos hx, decide_eq_true hx]
    rw [decide_eq_true hx] at h
    have hz : (1 : Int) ≤ (s.size : Int) := by
      cases hd : s.data.toList with
      | nil => rw [hd] at hx; simp at hx
      | cons a l =>
        have : s.data.toList.length = s.size := by simp
        rw [hd] at this; simp at this; omega
    go_enter Tryd.func32, Tryd.ntmps32
    go_wp2_with fail
    refine h.mono ?_
    rintro e w1 ⟨rfl, rfl⟩
    go_wp2
    refine bodyPost_ret (v := .tuple #[.string (s.extract 1 s.size), .bool true]) (by simp [results, Tryd.results32, go_sem]) rfl ⟨rfl, rfl⟩
  · rw [if_neg hx, decide_eq_false hx]
    rw [decide_eq_false hx] at h
    go_enter Tryd.func32, Tryd.ntmps32
    go_wp2_with fail
    refine h.mono ?_
    rintro e w1 ⟨rfl, rfl⟩
    go_wp2
    refine bodyPost_ret (v := .tuple #[.string s, .bool false]) (by simp [results, Tryd.results32, go_sem]) rfl ⟨rfl, rfl⟩
set_option maxRecDepth 100000 in
theorem cutMinus_any (s : ByteArray) (w : World) (hs : s.size ≤ 5000) :
    Calls Tryd.prog 18 #[.string s, .string ⟨#[45]⟩] w fun e w' => e = .returned (.tuple #[.string (if s.data.toList.head? = some 45 then s.extract 1 s.size else s), .bool (decide (s.data.toList.head? = some 45))]) ∧ w' = w := by
  have h := cutMinusL_any s w hs
  generalize (if s.data.toList.head? = some 45 then s.extract 1 s.size else s) = T at h ⊢
  generalize decide (s.data.toList.head? = some 45) = p at h ⊢
  go_enter Tryd.func18, Tryd.ntmps18
  go_wp2_with fail
  refine h.mono ?_
  rintro e w1 ⟨rfl, rfl⟩
  go_wp2
  refine bodyPost_ret (v := .tuple #[.string T, .bool p]) (by simp [results, Tryd.results18, go_sem]) rfl ⟨rfl, rfl⟩
set_option maxRecDepth 100000 in
theorem readLimbs_all (s : ByteArray) (b : Nat) (w : World) (hs : s.size ≤ 5000) (hb0 : 2 ≤ b) (hb1 : b ≤ 36) :
    Calls Tryd.prog 19 #[.string s, .int .u32 (b : Int)] w fun e w' => ∃ a c, e = .returned (.tuple #[.slice a (rlL (rlA b s.data.toList)).length c, .bool (rlA b s.data.toList).isSome]) ∧
      Own w' w.heap.size (.slice a (rlL (rlA b s.data.toList)).length c) (rlL (rlA b s.data.toList)) ∧ Below w.heap.size w w' := by
  by_cases h : 0 < s.size
  · exact readLimbs_any s b w hs hb0 hb1 h
  have hd : s.data.toList = [] := by
    apply List.eq_nil_of_length_eq_zero
    have : s.data.toList.length = s.size := by simp
    omega
  have hse : s.toList.isEmpty = true := by rw [ByteArray.toList_eq, hd]; rfl
  rw [hd, show rlA b [] = none from rfl]
  have c1 := (Boxed.new (w.alloc (Obj.cells #[.int .u32 (b : Int)] 43)) 41 (.slice none 0 0)).alloc (Obj.cells #[.bool false] 4)
  have c2 := Boxed.new ((w.alloc (Obj.cells #[.int .u32 (b : Int)] 43)).alloc (Obj.cells #[.slice none 0 0] 41)) 4 (.bool false)
  simp only [World.size_alloc] at c1 c2
  have k1 := c1.cell
  have k2 := c2.cell
  have f1 := c1.frozen
  have f2 := c2.frozen
  have hB := (((Below.refl w.heap.size w).alloc (Nat.le_refl _) (Obj.cells #[.int .u32 (b : Int)] 43)).alloc (by simp) (Obj.cells #[.slice none 0 0] 41)).alloc (by simp; omega) (Obj.cells #[.bool false] 4)
  go_enter Tryd.func19, Tryd.ntmps19
  go_wp2
  refine bodyPost_ret (v := .tuple #[.slice none 0 0, .bool false]) (by simp [results, Tryd.results19, go_sem, k1, k2, f1, f2]) rfl ⟨none, 0, rfl, Own.nil _ _, by first | exact hB | exact (hB.setCell (p := ⟨w.heap.size + 1, 0, none⟩) (Nat.le_succ _) _).setCell (p := ⟨w.heap.size + 1 + 1, 0, none⟩) (Nat.le_add_right _ 2) _⟩
theorem rdD_rl (b : Nat) (D : List UInt8) : rdD b D = (rlA b D).bind fun N => if (lim N).length ≤ 128 then some N else none := by
  unfold rdD rlA
  by_cases h1 : D = []
  · rw [if_pos h1, if_pos h1]; rfl
  · rw [if_neg h1, if_neg h1]
    by_cases h2 : goodD b D = true
    · rw [if_pos h2, if_pos h2]; rfl
    · rw [if_neg h2, if_neg h2]; rfl
set_option maxHeartbeats 1000000 in
set_option maxRecDepth 100000 in
theorem bigReadI_any (s : ByteArray) (base : Int) (w : World) (hb0 : -9223372036854775808 ≤ base) (hb1 : base ≤ 9223372036854775807) :
    Calls Tryd.prog 7 #[.string s, .int .i64 base] w fun e w' => ∃ a c, e = .returned (.tuple #[.agg #[.bool (rdS (readAns s base)), .slice a (rdL (readAns s base)).length c], .bool (readAns s base).isSome]) ∧
      Own w' w.heap.size (.slice a (rdL (readAns s base)).length c) (rdL (readAns s base)) ∧ Below w.heap.size w w' := by
  have b0 := Rbx.new w
  have hBw := (Below.refl w.heap.size w).alloc (Nat.le_refl _) (Obj.cells #[.bool false, .slice none 0 0] 26)
  obtain ⟨lb, k0, k1, f0, f1⟩ := b0
  have hbo := fun W => baseOkR_any base W
  by_cases hbk : 2 ≤ base ∧ base ≤ 36
  · rw [decide_eq_true hbk] at hbo
    obtain ⟨b, rfl⟩ : ∃ b : Nat, base = (b : Int) := ⟨base.toNat, by omega⟩
    by_cases hsz : (5000 : Int) < (s.size : Int)
    · have hA : readAns s b = none := by unfold readAns; rw [if_pos (by omega)]
      rw [hA]
      go_enter Tryd.func7, Tryd.ntmps7
      go_wp2_with fail
      refine (hbo _).mono ?_
      rintro e w1 ⟨rfl, rfl⟩
      go_wp2
      refine bodyPost_ret (v := .tuple #[.agg #[.bool false, .slice none 0 0], .bool false]) (by simp [results, Tryd.results7, go_sem, k0, k1, lb, f0, f1]) rfl (by first | exact rd_none _ _ _ hBw | exact rd_none _ _ _ ((hBw.setCell (Nat.le_refl _) _).setCell (Nat.le_refl _) _))
    have hC := fun W => cutMinus_any s W (by omega)
    obtain ⟨T, hT⟩ : ∃ T, (if s.data.toList.head? = some 45 then s.extract 1 s.size else s) = T := ⟨_, rfl⟩
    obtain ⟨p, hp⟩ : ∃ p, decide (s.data.toList.head? = some 45) = p := ⟨_, rfl⟩
    have hTl : T.size ≤ 5000 := by
      rw [← hT]; split
      · rw [ByteArray.size_extract]; omega
      · omega
    have hA : readAns s b = (rdD b T.data.toList).map (p, ·) := by
      unfold readAns
      rw [if_neg (by omega), ← hT, ← hp]
      by_cases hx : s.data.toList.head? = some 45
      · rw [if_pos hx, if_pos hx, decide_eq_true hx, extract_data, List.take_of_length_le (by simp)]; rfl
      · rw [if_neg hx, if_neg hx, decide_eq_false hx]; rfl
    rw [hT, hp] at hC
    rw [hA, rdD_rl]
    have hRl := fun W => readLimbs_all T b W hTl (by omega) (by omega)
    clear hT hp hA
    generalize rlA b T.data.toList = R at hRl ⊢
    generalize hAns : Option.map (p, ·) (R.bind fun N => if (lim N).length ≤ 128 then some N else none) = A
    have hSg := fun (N : Nat) B n cap a zs W hO hN hB => signed_any p B n cap a zs N W hO hN hB
    go_enter Tryd.func7, Tryd.ntmps7
    go_wp2_with fail
    refine (hbo _).mono ?_
    rintro e w1 ⟨rfl, rfl⟩
    go_wp2_with fail
    refine (hC _).mono ?_
    rintro e w1 ⟨rfl, rfl⟩
    go_wp2_with fail
    refine (hRl _).mono ?_
    rintro e w2 ⟨a2, c2, rfl, o2, hB2⟩
    have hz2 := hB2.size
    simp only [World.size_alloc] at hz2
    obtain ⟨lb2, k02, k12, f02, f12⟩ := (Rbx.new w).at hB2 (by simp)
    have hW2 := hBw.trans (hB2.mono (by simp))
    clear hRl hC hbo k0 k1 f0 f1 lb
    cases R with
    | none =>
      obtain rfl : A = none := hAns.symm
      go_wp2
      refine bodyPost_ret (v := .tuple #[.agg #[.bool false, .slice none 0 0], .bool false]) (by simp [results, Tryd.results7, go_sem, k02, k12, lb2, f02, f12]) rfl (by first | exact rd_none _ _ _ hW2 | exact rd_none _ _ _ ((hW2.setCell (Nat.le_refl _) _).setCell (Nat.le_refl _) _))
    | some N =>
      have hS := hSg N _ _ _ _ _ _ o2 (val_lim N) hB2.size
      clear hSg
      go_wp2_with fail
      refine hS.mono ?_
      rintro e w3 ⟨a3, c3, rfl, o3, hB3⟩
      have hz3 := hB3.size
      have hr3 : Rbx w3 w.heap.size := (⟨lb2, k02, k12, f02, f12⟩ : Rbx w2 w.heap.size).at hB3 lb2
      have hW3 := hW2.trans (hB3.mono (by omega))
      simp only [World.size_alloc] at o3
      have hfit : ((some N).bind fun N => if (lim N).length ≤ 128 then some N else none) = if (lim N).length ≤ 128 then some N else none := rfl
      rw [hfit] at hAns
      by_cases hl : (lim N).length ≤ 128
      · obtain ⟨e1, e2, e3⟩ := fit_yes hl p
        rw [if_pos hl] at hAns
        obtain rfl : A = some (p, N) := hAns.symm
        rw [e1] at o3 ⊢
        rw [e2, e3]
        have hA4 : Below w3.heap.size w3 (w3.alloc (Obj.cells #[.bool (nz p N), .slice a3 (lim N).length c3] 26)) := (Below.refl _ _).alloc (Nat.le_refl _) _
        obtain ⟨lb4, k04, k14, f04, f14⟩ := hr3.at hA4 (by omega)
        have n4 := Box.new w3 (.bool (nz p N)) (.slice a3 (lim N).length c3) 26
        obtain ⟨-, m0, m1⟩ := n4
        have hW4 := hW3.trans (hA4.mono (by omega))
        have o4 := o3.alloc (Obj.cells #[.bool (nz p N), .slice a3 (lim N).length c3] 26)
        go_wp2
        have o5 := ((o4.setBelow (a := ⟨w.heap.size, 0, none⟩) (show w.heap.size < _ by omega) (.bool (nz p N))).setBelow (a := ⟨w.heap.size, 1, none⟩) (show w.heap.size < _ by omega) (.slice a3 (lim N).length c3)).mono (show w.heap.size ≤ _ by omega)
        refine bodyPost_ret (v := .tuple #[.agg #[.bool (nz p N), .slice a3 (lim N).length c3], .bool true]) (by simp [results, Tryd.results7, go_sem, k04, k14, lb4, f04, f14]) rfl ⟨a3, c3, rfl, o5, (hW4.setCell (Nat.le_refl _) _).setCell (Nat.le_refl _) _⟩
      · obtain ⟨e1, e2, e3⟩ := fit_no hl p
        rw [if_neg hl] at hAns
        obtain rfl : A = none := hAns.symm
        rw [e1] at o3 ⊢
        rw [e2, e3]
        simp only [List.length_nil] at o3 ⊢
        have hA4 : Below w3.heap.size w3 (w3.alloc (Obj.cells #[.bool false, .slice a3 0 c3] 26)) := (Below.refl _ _).alloc (Nat.le_refl _) _
        obtain ⟨lb4, k04, k14, f04, f14⟩ := hr3.at hA4 (by omega)
        have n4 := Box.new w3 (.bool false) (.slice a3 0 c3) 26
        obtain ⟨-, m0, m1⟩ := n4
        have hW4 := hW3.trans (hA4.mono (by omega))
        have o4 := o3.alloc (Obj.cells #[.bool false, .slice a3 0 c3] 26)
        go_wp2
        have o5 := ((o4.setBelow (a := ⟨w.heap.size, 0, none⟩) (show w.heap.size < _ by omega) (.bool false)).setBelow (a := ⟨w.heap.size, 1, none⟩) (show w.heap.size < _ by omega) (.slice a3 0 c3)).mono (show w.heap.size ≤ _ by omega)
        refine bodyPost_ret (v := .tuple #[.agg #[.bool false, .slice a3 0 c3], .bool false]) (by simp [results, Tryd.results7, go_sem, k04, k14, lb4, f04, f14]) rfl ⟨a3, c3, rfl, o5, (hW4.setCell (Nat.le_refl _) _).setCell (Nat.le_refl _) _⟩
  · have hA : readAns s base = none := by unfold readAns; rw [if_pos (by omega)]
    rw [hA]
    rw [decide_eq_false hbk] at hbo
    go_enter Tryd.func7, Tryd.ntmps7
    go_wp2_with fail
    refine (hbo _).mono ?_
    rintro e w1 ⟨rfl, rfl⟩
    go_wp2
    refine bodyPost_ret (v := .tuple #[.agg #[.bool false, .slice none 0 0], .bool false]) (by simp [results, Tryd.results7, go_sem, k0, k1, lb, f0, f1]) rfl (by first | exact rd_none _ _ _ hBw | exact rd_none _ _ _ ((hBw.setCell (Nat.le_refl _) _).setCell (Nat.le_refl _) _))
end Go.Proofs.YtgbkniliojpejaaDoor
