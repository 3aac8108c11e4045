import Derived.Test.YtdamddfhflhfbaaDoorWrdS
import Derived.Test.YtdamddfhflhfbaaDoorLaidD
namespace Go.Proofs.YtdamddfhflhfbaaDoor
open Go.RowKit Go.Lib Go.Shelf
set_option linter.unusedVariables false
set_option linter.unusedSimpArgs false

def wordsAns (s : ByteArray) : List ByteArray := if (textOf s).isSome = true then wordsB s else []
theorem bsp_len (s : ByteArray) : ∀ f i st acc, (bsp s f i st acc).1.length ≤ acc.length + f := by
  intro f
  induction f with
  | zero => intro i st acc; simp [bsp]
  | succ f ih =>
    intro i st acc
    unfold bsp
    split
    · have := ih (i + 1) none (acc ++ cls st i)
      have hc : (cls st i).length ≤ 1 := by cases st <;> simp [cls]
      rw [List.length_append] at this
      omega
    · have := ih (i + 1) (opn st i) acc
      omega
theorem wordsB_len (s : ByteArray) : (wordsB s).length ≤ s.size + 1 := by
  unfold wordsB
  rw [List.length_map]
  have := bsp_len s s.size 0 none []
  unfold closeSpans
  split
  · rw [List.length_append]; simp at this ⊢; omega
  · simp at this; omega
theorem wordsB_sizes (s : ByteArray) : ∀ z ∈ wordsB s, z.size ≤ s.size := by
  intro z hz
  unfold wordsB at hz
  obtain ⟨x, _, rfl⟩ := List.mem_map.1 hz
  rw [ByteArray.size_extract]; omega
set_option maxRecDepth 100000 in
theorem between_any (b : Nat) (w : World) :
    Calls Tryd.prog 70 #[.int .i32 b] w fun e w' => e = .returned (.bool (spN b)) ∧ ∃ q, w' = w.drewN q := by
  by_cases h1 : b = 32
  · subst h1
    go_enter Tryd.func70, Tryd.ntmps70
    go_wp2
    go_ret
    exact ⟨rfl, 0, rfl⟩
  by_cases h2 : b = 9
  · subst h2
    go_enter Tryd.func70, Tryd.ntmps70
    go_wp2
    go_ret
    exact ⟨rfl, 0, rfl⟩
  by_cases h3 : b = 10
  · subst h3
    go_enter Tryd.func70, Tryd.ntmps70
    go_wp2
    go_ret
    exact ⟨rfl, 0, rfl⟩
  by_cases h4 : b = 13
  · subst h4
    go_enter Tryd.func70, Tryd.ntmps70
    go_wp2
    go_ret
    exact ⟨rfl, 0, rfl⟩
  have e0 : spN b = false := by simp [spN, h1, h2, h3, h4]
  rw [e0]
  have e1 : ((b : Int) == 32) = false := by simp; omega
  have e2 : ((b : Int) == 9) = false := by simp; omega
  have e3 : ((b : Int) == 10) = false := by simp; omega
  have e4 : ((b : Int) == 13) = false := by simp; omega
  go_enter Tryd.func70, Tryd.ntmps70
  go_wp2
  go_ret
  exact ⟨rfl, 0, rfl⟩
theorem fields_at (s : ByteArray) (w : World) (hs : s.size ≤ 1048576) :
    Calls Tryd.prog 69 #[.string s, .func (.func 70) #[] #[]] w fun e w' => ∃ A, e = .returned (.slice (some ⟨A, 0, none⟩) (wordsB s).length (wordsB s).length) ∧ w.heap.size ≤ A ∧ Str.Own w' w.heap.size (.slice (some ⟨A, 0, none⟩) (wordsB s).length (wordsB s).length) (wordsB s) ∧ Below w.heap.size w w' := by
  have h := Any.strings_FieldsFunc_runes Tryd.laysFields 70 #[] (enters_of Tryd.func70 (by kernel_rfl) rfl) spN s w (by omega) (fun W x hx hb => between_any x W) (by kernel_rfl) Str.Tryd.info9
  rw [words_eq] at h
  refine h.mono ?_
  rintro e w' ⟨A, he, hA, hO, hB⟩
  exact ⟨A, he, hA, ⟨hO, Nat.le_trans (wordsB_len s) (by omega)⟩, hB⟩
set_option maxHeartbeats 1000000 in
set_option maxRecDepth 100000 in
theorem textWordsS_any (s : ByteArray) (w : World) (hs : s.size ≤ 16777216) :
    Calls Tryd.prog 31 #[.string s] w fun e w' => ∃ a c, e = .returned (.slice a (wordsAns s).length c) ∧ Str.Own w' w.heap.size (.slice a (wordsAns s).length c) (wordsAns s) ∧ Below w.heap.size w w' := by
  have hK := fun W => textOkS_any s W (by omega)
  unfold wordsAns
  cases hok : (textOf s).isSome with
  | false =>
    rw [hok] at hK
    rw [if_neg (by decide)]
    have b0 : Below w.heap.size w (w.alloc (.cells #[] 9)) := (Below.refl _ w).alloc (Nat.le_refl _) _
    have hO0 := Str.Own.empty w
    go_enter Tryd.func31, Tryd.ntmps31
    go_wp2_with fail
    refine (hK _).mono ?_
    rintro e w1 ⟨rfl, hB1⟩
    go_wp2
    go_ret
    exact ⟨_, _, rfl, hO0.keep hB1, b0.trans (hB1.mono b0.size)⟩
  | true =>
    rw [hok] at hK
    rw [if_pos rfl]
    exact textWordsS_ok s w (textOf_size hok) hK
set_option maxHeartbeats 1000000 in
set_option maxRecDepth 100000 in
theorem textWords_any (s : ByteArray) (w : World) (hs : s.size ≤ 1048576) (hT : Tabs w) :
    Calls Tryd.prog 32 #[.string s] w fun e w' => ∃ a c, e = .returned (.slice a (wordsAns s).length c) ∧ Str.Own w' w.heap.size (.slice a (wordsAns s).length c) (wordsAns s) ∧ Below w.heap.size w w' := by
  have hK := fun W h => textOk_any s W (by omega) h
  unfold wordsAns
  cases hok : (textOf s).isSome with
  | false =>
    rw [hok] at hK
    rw [if_neg (by decide)]
    go_enter Tryd.func32, Tryd.ntmps32
    go_wp2_with fail
    refine (hK _ hT).mono ?_
    rintro e w1 ⟨rfl, hB1⟩
    go_wp2
    go_ret
    exact ⟨_, _, rfl, Str.Own.nil _ _, hB1⟩
  | true =>
    rw [hok] at hK
    rw [if_pos rfl]
    have hF := fun W => fields_at s W hs
    have hAs : ∀ z ∈ wordsB s, z.size ≤ 281474976710656 := fun z hz => Nat.le_trans (wordsB_sizes s z hz) (by omega)
    generalize wordsB s = A at hF hAs ⊢
    go_enter Tryd.func32, Tryd.ntmps32
    go_wp2_with fail
    refine (hK _ hT).mono ?_
    rintro e w1 ⟨rfl, hB1⟩
    go_wp2_with fail
    refine (hF _).mono ?_
    rintro e w2 ⟨g, rfl, hg, hO, hB2⟩
    go_wp2_with fail
    refine (cloned_any _ _ _ A _ hO hAs).mono ?_
    rintro e w3 ⟨rfl, hO3, hgb⟩
    go_wp2
    go_ret
    have hB3 : Below w1.heap.size w2 w3 := gb_to hgb (fun k hk => by simp at hk; omega) hB2.size
    exact ⟨_, _, rfl, hO3.mono hB1.size, hB1.trans ((hB2.trans hB3).mono hB1.size)⟩
theorem wordsAns_len (s : ByteArray) : (wordsAns s).length ≤ 16385 := by
  unfold wordsAns
  split
  · rename_i h
    have h1 := textOf_size h
    have := wordsB_len s
    omega
  · simp
set_option maxHeartbeats 4000000 in
set_option maxRecDepth 100000 in
theorem law_textwords (s : ByteArray) (W : World) (hT : Tabs W) :
    Calls Tryd.prog 9 #[.string s] W fun e w' => e = .returned (.bool true) ∧ Below W.heap.size W w' := by
  by_cases hbig : (1048576 : Int) < (s.size : Int)
  · go_enter Tryd.func9, Tryd.ntmps9
    go_wp2
    go_ret
    exact ⟨rfl, Below.refl _ _⟩
  have hS := fun w => textWordsS_any s w (by omega)
  have hG := fun w h => textWords_any s w (by omega) h
  have hAl := wordsAns_len s
  generalize wordsAns s = L at hS hG hAl
  go_enter Tryd.func9, Tryd.ntmps9
  go_wp2_with fail
  refine (hS _).mono ?_
  rintro e w1 ⟨aS, cS, rfl, oS, hB1⟩
  go_wp2_with fail
  refine (hG _ (hT.below hB1)).mono ?_
  rintro e w2 ⟨aG, cG, rfl, oG, hB2⟩
  have hW2 := hB1.trans (hB2.mono hB1.size)
  have loS := oS.lt
  have oS2 := oS.keep hB2
  have loG := oG.lt
  have z1 := hB1.size
  have z2 := hB2.size
  clear oS hB1 hB2
  go_wp2_with fail
  refine (eqT_any _ _ L _ oG.rd oS2.rd).mono ?_
  rintro e w3 ⟨rfl, hB⟩
  have hW3 := hW2.trans (hB.mono hW2.size)
  have oS3 := oS2.keep hB
  have oG3 := oG.keep hB
  have z3 := hB.size
  clear hB oS2 oG hW2
  go_wp2_with fail
  refine (markT_any _ _ _ _ L 1 _ oG3 (by omega) (by omega) (by omega)).mono ?_
  rintro e w4 ⟨rfl, oG4, hg⟩
  have hW4 := hW3.trans (gb_to hg (fun k hk => by have := loG k hk; omega) hW3.size)
  have oS4 := oS3.but hg (ob_ne loS loG (by omega))
  have z4 := hg.size
  clear hg oG3 oS3 hW3
  go_wp2_with fail
  refine (heldT_any _ _ 1 L.length _ oG4.rd (by omega) (by omega) rfl).mono ?_
  rintro e w5 ⟨rfl, hB⟩
  have hW5 := hW4.trans (hB.mono hW4.size)
  have oS5 := oS4.keep hB
  have oG5 := oG4.keep hB
  clear hB oG4 oS4 hW4
  have hkn : ¬ ((1 + L.length : Nat) : Int) < 0 := by omega
  go_wp2_with fail
  refine (hG _ (hT.below hW5)).mono ?_
  rintro e w6 ⟨aH, cH, rfl, oH, hB⟩
  have hW6 := hW5.trans (hB.mono hW5.size)
  have oS6 := oS5.keep hB
  have oG6 := oG5.keep hB
  clear hB oS5 oG5 hW5
  go_wp2_with fail
  refine (eqT_any _ _ L _ oH.rd oS6.rd).mono ?_
  rintro e w7 ⟨rfl, hB⟩
  have hW7 := hW6.trans (hB.mono hW6.size)
  have oG7 := oG6.keep hB
  clear hB oS6 oG6 oH hW6
  go_wp2_with fail
  refine (heldT_any _ _ 1 L.length _ oG7.rd (by omega) (by omega) rfl).mono ?_
  rintro e w8 ⟨rfl, hB⟩
  go_wp2
  go_ret
  exact ⟨rfl, hW7.trans (hB.mono hW7.size)⟩
end Go.Proofs.YtdamddfhflhfbaaDoor
