import Derived.Test.YtdamddfhflhfbaaDoorWrdP
import Derived.Test.YtdamddfhflhfbaaDoorSplI
namespace Go.Proofs.YtdamddfhflhfbaaDoor
open Go.RowKit Go.Lib
set_option linter.unusedVariables false
set_option linter.unusedSimpArgs false

set_option maxRecDepth 100000 in
theorem l3Blank_any (b : Nat) (w : World) :
    Calls Tryd.prog 68 #[.int .u8 b] w fun e w' => e = .returned (.bool (spN b)) ∧ w' = w := by
  by_cases h1 : b = 32
  · subst h1
    go_enter Tryd.func68, Tryd.ntmps68
    go_wp2
    go_ret
    exact ⟨rfl, rfl⟩
  by_cases h2 : b = 9
  · subst h2
    go_enter Tryd.func68, Tryd.ntmps68
    go_wp2
    go_ret
    exact ⟨rfl, rfl⟩
  by_cases h3 : b = 10
  · subst h3
    go_enter Tryd.func68, Tryd.ntmps68
    go_wp2
    go_ret
    exact ⟨rfl, rfl⟩
  by_cases h4 : b = 13
  · subst h4
    go_enter Tryd.func68, Tryd.ntmps68
    go_wp2
    go_ret
    exact ⟨rfl, rfl⟩
  have e0 : spN b = false := by simp [spN, h1, h2, h3, h4]
  rw [e0]
  have e1 : ((b : Int) == 32) = false := by simp; omega
  have e2 : ((b : Int) == 9) = false := by simp; omega
  have e3 : ((b : Int) == 10) = false := by simp; omega
  have e4 : ((b : Int) == 13) = false := by simp; omega
  go_enter Tryd.func68, Tryd.ntmps68
  go_wp2
  go_ret
  exact ⟨rfl, rfl⟩
/-- A row of texts is kept by what writes above it. -/
theorem Str.Own.under {w w' : World} {B C : Nat} {v : Value} {zs : List ByteArray} (h : Str.Own w B v zs) (hb : Below C w w') (hlt : ∀ k, v.ownBlock = some k → k < C) : Str.Own w' B v zs := by
  have hl2 := h.1.lt
  obtain ⟨⟨h1, h2⟩, hl⟩ := h
  refine ⟨⟨h1, ?_⟩, hl⟩
  rcases h2 with h2 | ⟨g, cap, cur, hv, hg, hh, r⟩
  · exact .inl h2
  · refine .inr ⟨g, cap, cur, hv, hg, ?_, r⟩
    rw [hb.block g (hlt g (by rw [hv]; rfl))]; exact hh
theorem bz_put (l : List UInt8) (b : UInt8) (E1 : Int) (h : (b.toNat : Int) = E1) : bz l ++ [E1] = bz (l ++ [b]) := by simp [bz, h]
set_option maxHeartbeats 2000000 in
set_option maxRecDepth 100000 in
theorem textWordsS_ok (s : ByteArray) (w : World) (hs : s.size ≤ 16384) (hK : ∀ W, Calls Tryd.prog 41 #[.string s] W fun e w' => e = .returned (.bool true) ∧ Below W.heap.size W w') :
    Calls Tryd.prog 31 #[.string s] w fun e w' => ∃ a c, e = .returned (.slice a (wordsB s).length c) ∧ Str.Own w' w.heap.size (.slice a (wordsB s).length c) (wordsB s) ∧ Below w.heap.size w w' := by
  have HI := WSt.init s
  have hO0 := Str.Own.empty w
  have b0 : Below w.heap.size w (w.alloc (.cells #[] 9)) := (Below.refl _ w).alloc (Nat.le_refl _) _
  go_enter Tryd.func31, Tryd.ntmps31
  go_wp2_with fail
  refine (hK _).mono ?_
  rintro e w1 ⟨rfl, hB1⟩
  have hO1 := hO0.keep hB1
  have b1 := b0.trans (hB1.mono b0.size)
  have lo1 := hO1.lt
  have hOv := hO1.alloc (.cells #[] 5)
  have hV0 := U8.Own.empty w1
  have b2 := b1.alloc b1.size (.cells #[] 5)
  clear hO0 hO1 b0 hB1
  go_wp2
  go_loopw [3, 4, 5] (fun o v i wr => ∃ (k : Nat) (X : List ByteArray) (V : List UInt8) (ao : Option Addr) (co : Nat) (av : Option Addr) (cv C : Nat), WSt' s k X V ∧ i = .int .i64 k ∧ o = .slice ao X.length co ∧ v = .slice av V.length cv ∧ Str.Own wr w.heap.size (.slice ao X.length co) X ∧ U8.Own wr C (.slice av V.length cv) (bz V) ∧ (∀ k, (Value.slice ao X.length co).ownBlock = some k → k < C) ∧ w.heap.size ≤ C ∧ C ≤ wr.heap.size ∧ Below w.heap.size w wr) (fun _ _ i _ => s.size + 1 - (RowKit.intOf i).toNat)
  case atStart => exact ⟨0, [], [], _, _, _, _, w1.heap.size, .inl ⟨Nat.zero_le _, HI⟩, rfl, rfl, rfl, hOv, hV0, fun k hk => (lo1 k hk).2, b1.size, by simp, b2⟩
  case round =>
    obtain ⟨k, X, V, ao, co, av, cv, C, hW, rfl, rfl, rfl, hOw, hVw, hlo, hwC, hCr, hBr⟩ := hrel
    rcases hW with ⟨hk, hW⟩ | ⟨hk, hXA, hV0, hXl⟩
    · have hlen := hW.len
      have hki : (k : Int) ≤ (s.size : Int) := by omega
      by_cases hlt : k < s.size
      · obtain ⟨x0, hx0⟩ : ∃ x0, s.get! k = x0 := ⟨_, rfl⟩
        have hs0 : s[k]'(by omega) = x0 := (get_at s k (by omega)).trans hx0
        have hbl := fun W => l3Blank_any x0.toNat W
        have hxl := x0.toNat_lt
        obtain ⟨E1, hE1⟩ : ∃ E1 : Int, (x0.toNat : Int) = E1 := ⟨_, rfl⟩
        rw [hE1] at hbl
        have p1 : 0 ≤ E1 := by omega
        have p1' : E1 < 4294967296 := by omega
        have hiz : (k : Int) < (s.size : Int) := by omega
        have hwk := wrap64_id (a := (k : Int) + 1) (by omega) (by omega)
        cases hsp : spN x0.toNat with
        | false =>
          rw [hsp] at hbl
          have HW : Hid (WSt' s (k + 1) X (V ++ [x0])) := by
            have := hW.put hlt (by rw [hx0]; exact hsp)
            rw [hx0] at this
            exact .inl ⟨by omega, this⟩
          have HU : Hid (bz V ++ [E1] = bz (V ++ [x0])) := bz_put V x0 E1 hE1
          have HLN : Hid ((bz V ++ [E1]).length = V.length + 1) := by show _ = _; simp [bz]
          have HL2 : Hid ((bz V).length + ([E1] : List Int).length = V.length + 1) := by show _ = _; simp [bz]
          clear hx0 hxl hW hsp
          go_wp2_with fail
          refine (hbl _).mono ?_
          rintro e wr ⟨rfl, rfl⟩
          go_wp2_with (at_builtin; refine U8.wpList_append_rd rfl _ _ 66 rfl Tryd.underlying66 C _ _ (bz V) [E1] rfl rfl (hVw.alloc _) (U8.Rd.one wr wr.heap.size rfl 5 p1 p1') (by rw [HL2.out]; omega) (by simp; omega) ?_; rw [HLN.out]; intro a1 c1 w2 hO1 hB1)
          have hB2 := ((Below.refl C wr).alloc hCr (Obj.cells #[.int .u8 E1] 5)).trans hB1
          have hOx := hOw.under hB2 hlo
          rw [HU.out] at hO1
          have hz2 := hB2.size
          go_roundw
          case rel => exact ⟨k + 1, X, V ++ [x0], ao, co, a1, c1, C, HW.out, by go_num, rfl, by simp, hOx, by simpa using hO1, hlo, hwC, by omega, hBr.trans (hB2.mono hwC)⟩
          case measure => first | (simp [RowKit.intOf]; done) | (simp [RowKit.intOf]; omega)
        | true =>
          rw [hsp] at hbl
          by_cases hV : V = []
          · subst hV
            have HW : Hid (WSt' s (k + 1) X []) := hW.skip hk (.inr (by rw [hx0]; exact hsp))
            clear hx0 hxl hW hsp
            go_wp2_with fail
            refine (hbl _).mono ?_
            rintro e wr ⟨rfl, rfl⟩
            go_wp2
            go_roundw
            case rel => exact ⟨k + 1, X, [], ao, co, _, _, wr.heap.size, HW.out, by go_num, rfl, rfl, hOw.alloc _, U8.Own.empty wr, fun k hk => (hOw.lt k hk).2, hBr.size, by simp, hBr.alloc hBr.size _⟩
            case measure => first | (simp [RowKit.intOf]; done) | (simp [RowKit.intOf]; omega)
          · have HW : Hid (WSt' s (k + 1) (X ++ [⟨V.toArray⟩]) []) := hW.cut hk (.inr (by rw [hx0]; exact hsp)) hV
            have hVl : 0 < V.length := List.length_pos_iff.2 hV
            have hVz : (0 : Int) < (V.length : Int) := by omega
            obtain ⟨g, rfl⟩ : ∃ g, av = some ⟨g, 0, none⟩ := by
              rcases hVw.shape with ⟨hv, hv2⟩ | ⟨g1, cp, hv, _⟩
              · exfalso; simp only [Value.slice.injEq] at hv; omega
              · simp only [Value.slice.injEq] at hv; exact ⟨g1, hv.1⟩
            have hcv := bytes_back wr C g cv V V.length rfl hVw
            obtain ⟨T, hT⟩ : ∃ T : ByteArray, (⟨V.toArray⟩ : ByteArray) = T := ⟨_, rfl⟩
            rw [hT] at hcv HW
            clear hT hV hW hx0 hxl hsp
            go_wp2_with fail
            refine (hbl _).mono ?_
            rintro e wr ⟨rfl, rfl⟩
            go_wp2_with ((at_builtin; (refine Str.wpList_append_rd rfl _ _ 38 rfl Tryd.underlying38 w.heap.size _ X T rfl (hOw.alloc _) ⟨wr.heap.size, 0, none⟩ 1 rfl (by rw [show (⟨wr.heap.size, 0, none⟩ : Addr).add 0 = ⟨wr.heap.size, 0, none⟩ from rfl, World.cell?_alloc_at _ _ wr.heap.size 0 rfl]; rfl) (by omega) (by have := hBr.size; simp; omega) ?_; intro a1 c1 w2 hO1 hB1)))
            have hB2 := (hBr.alloc hBr.size (Obj.cells #[.string T] 9)).trans hB1
            go_roundw
            case rel => exact ⟨k + 1, X ++ [T], [], a1, c1, _, _, w2.heap.size, HW.out, by go_num, by simp, rfl, hO1.alloc _, U8.Own.empty w2, fun k hk => (hO1.lt k hk).2, hB2.size, by simp, hB2.alloc hB2.size _⟩
            case measure => first | (simp [RowKit.intOf]; done) | (simp [RowKit.intOf]; omega)
      · have hke : k = s.size := by omega
        have hiz : ¬ (k : Int) < (s.size : Int) := by omega
        have hwk := wrap64_id (a := (k : Int) + 1) (by omega) (by omega)
        by_cases hV : V = []
        · subst hV
          have HW : Hid (WSt' s (k + 1) X []) := hW.skip hk (.inl hke)
          clear hW hke
          go_wp2
          go_roundw
          case rel => exact ⟨k + 1, X, [], ao, co, _, _, wr.heap.size, HW.out, by go_num, rfl, rfl, hOw.alloc _, U8.Own.empty wr, fun k hk => (hOw.lt k hk).2, hBr.size, by simp, hBr.alloc hBr.size _⟩
          case measure => first | (simp [RowKit.intOf]; done) | (simp [RowKit.intOf]; omega)
        · have HW : Hid (WSt' s (k + 1) (X ++ [⟨V.toArray⟩]) []) := hW.cut hk (.inl hke) hV
          have hVl : 0 < V.length := List.length_pos_iff.2 hV
          have hVz : (0 : Int) < (V.length : Int) := by omega
          obtain ⟨g, rfl⟩ : ∃ g, av = some ⟨g, 0, none⟩ := by
            rcases hVw.shape with ⟨hv, hv2⟩ | ⟨g1, cp, hv, _⟩
            · exfalso; simp only [Value.slice.injEq] at hv; omega
            · simp only [Value.slice.injEq] at hv; exact ⟨g1, hv.1⟩
          have hcv := bytes_back wr C g cv V V.length rfl hVw
          obtain ⟨T, hT⟩ : ∃ T : ByteArray, (⟨V.toArray⟩ : ByteArray) = T := ⟨_, rfl⟩
          rw [hT] at hcv HW
          clear hT hV hW hke
          go_wp2_with ((at_builtin; (refine Str.wpList_append_rd rfl _ _ 38 rfl Tryd.underlying38 w.heap.size _ X T rfl (hOw.alloc _) ⟨wr.heap.size, 0, none⟩ 1 rfl (by rw [show (⟨wr.heap.size, 0, none⟩ : Addr).add 0 = ⟨wr.heap.size, 0, none⟩ from rfl, World.cell?_alloc_at _ _ wr.heap.size 0 rfl]; rfl) (by omega) (by have := hBr.size; simp; omega) ?_; intro a1 c1 w2 hO1 hB1)))
          have hB2 := (hBr.alloc hBr.size (Obj.cells #[.string T] 9)).trans hB1
          go_roundw
          case rel => exact ⟨k + 1, X ++ [T], [], a1, c1, _, _, w2.heap.size, HW.out, by go_num, by simp, rfl, hO1.alloc _, U8.Own.empty w2, fun k hk => (hO1.lt k hk).2, hB2.size, by simp, hB2.alloc hB2.size _⟩
          case measure => first | (simp [RowKit.intOf]; done) | (simp [RowKit.intOf]; omega)
    · have hki : ¬ (k : Int) ≤ (s.size : Int) := by omega
      have HX : Hid (X = wordsB s) := hXA
      clear hXA hk hV0
      go_wp2
      go_ret
      rw [← HX.out]
      exact ⟨ao, co, rfl, hOw, hBr⟩
end Go.Proofs.YtdamddfhflhfbaaDoor
