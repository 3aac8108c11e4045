import Derived.Test.YtjggbjhokjloaaaDoorBaseU
import Derived.Test.YtjggbjhokjloaaaDoorRuneB
import Derived.Test.YtjggbjhokjloaaaDoorCaseP
import Derived.Laws.IdiomStrings
namespace Go.Proofs.YtjggbjhokjloaaaDoor
open Go.RowKit Go.Lib
set_option linter.unusedVariables false
set_option linter.unusedSimpArgs false

theorem wrap64_id {a : Int} (h0 : 0 ≤ a) (h1 : a < 9223372036854775808) : IntKind.i64.wrap a = a := by
  simp [IntKind.wrap, IntKind.bits, IntKind.signed]; omega
/-- The bytes as numbers. -/
def bz (l : List UInt8) : List Int := l.map fun b => (b.toNat : Int)
theorem bz_limbs (l : List UInt8) : U8.Limbs (bz l) := fun z hz => by
  obtain ⟨b, _, rfl⟩ := List.mem_map.1 hz
  have := b.toNat_lt
  omega
theorem bz_getD (l : List UInt8) (k : Nat) (h : k < l.length) : (bz l).getD k 0 = (l[k].toNat : Int) := by
  simp [bz, List.getD, h]
theorem caseB_toNat (how : Int) (b : UInt8) : (((caseB how b).toNat : Nat) : Int) = recase how (b.toNat : Int) := by
  have hb := b.toNat_lt
  have h : 0 ≤ recase how (b.toNat : Int) ∧ recase how (b.toNat : Int) < 256 := by
    unfold recase
    split
    · omega
    · split <;> omega
  unfold caseB
  generalize recase how (b.toNat : Int) = z at h ⊢
  rw [Nat.toUInt8, UInt8.toNat_ofNat']
  omega
theorem bz_snoc (l : List UInt8) (k : Nat) (h : k < l.length) (Y : Int) (hY : ((l.getD k 0).toNat : Int) = Y) : bz (l.take k) ++ [Y] = bz (l.take (k + 1)) := by
  have e : l.getD k 0 = l[k] := by simp [List.getD, h]
  rw [e] at hY
  rw [List.take_add_one, List.getElem?_eq_getElem h, ← hY]
  unfold bz
  rw [List.map_append]; rfl
theorem add_at (g j : Nat) : (⟨g, 0, none⟩ : Addr).add j = ⟨g, j, none⟩ := by
  unfold Addr.add
  by_cases h : j = 0
  · simp [h]
  · simp [h]
theorem bytes_back (w : World) (B g co : Nat) (L : List UInt8) (n : Nat) (hn : n = L.length) (h : U8.Own w B (.slice (some ⟨g, 0, none⟩) n co) (bz L)) :
    (convert 26 9 (.slice (some ⟨g, 0, none⟩) n co)).run Tryd.prog w = .ok (.string ⟨L.toArray⟩) w := by
  subst hn
  refine run_convert_bytes_back w 26 9 5 ⟨g, 0, none⟩ co L Tryd.underlying26 Tryd.underlying5 Tryd.underlying9 (fun j hj => ?_)
  rw [add_at]
  have := h.cell j (by simp [bz]; exact hj)
  rw [bz_getD L j hj] at this
  exact this
set_option maxHeartbeats 4000000 in
set_option maxRecDepth 100000 in
theorem textCaseS_loop1 (how : Int) (s : ByteArray) (w : World) (hm : s.size ≤ 16384) (hh : how = 1)
    (hK : Calls Tryd.prog 9 #[.string s] w fun e w' => e = .returned (.bool true) ∧ Below w.heap.size w w') :
    Calls Tryd.prog 5 #[.string s, .int .i64 how] w fun e w' => e = .returned (.string ⟨(s.data.toList.map (caseB how)).toArray⟩) ∧ Below w.heap.size w w' := by
  have hl : (s.data.toList.map (caseB how)).length = s.size := by rw [List.length_map, ← size_eq]
  have HL : Hid (∀ (k : Nat) (h : k < s.size), ((((s.data.toList.map (caseB how)).getD k 0).toNat : Nat) : Int) = recase how ((s.get! k).toNat : Int)) := fun k h => by
    have e : (s.data.toList.map (caseB how)).getD k 0 = caseB how (s.get! k) := by
      rw [← get_at s k h]
      have hk : k < s.data.toList.length := by rw [← size_eq]; exact h
      rw [List.getD_eq_getElem?_getD, List.getElem?_map, List.getElem?_eq_getElem hk]
      show caseB how (s.data.toList[k]) = caseB how s[k]
      rw [Array.getElem_toList]; rfl
    rw [e, caseB_toNat]
  generalize s.data.toList.map (caseB how) = L at hl HL ⊢
  have n1 : ¬ how < 1 := by omega
  have e1 : (how == 1) = true := by rw [hh]; rfl
  have e2 : (how == 2) = false := by rw [hh]; rfl
  have n2 : ¬ 2 < how := by omega
  have HH : Hid (how = 1) := hh
  clear hh
  go_enter Tryd.func5, Tryd.ntmps5
  go_wp2_with fail
  refine hK.mono ?_
  rintro e w0 ⟨rfl, hB0⟩
  clear hK
  go_wp2
  go_loopw [5, 6] (fun o i wr => ∃ (k g co : Nat), k ≤ s.size ∧ i = .int .i64 k ∧ o = .slice (some ⟨g, 0, none⟩) k co ∧ U8.Own wr w.heap.size (.slice (some ⟨g, 0, none⟩) k co) (bz (L.take k)) ∧ Below w.heap.size w wr) (fun _ i _ => s.size - (intOf i).toNat)
  case atStart => exact ⟨0, w0.heap.size, 0, by omega, rfl, rfl, (U8.Own.empty w0).mono hB0.size, hB0.alloc hB0.size _⟩
  case round =>
    obtain ⟨k, g, co, hk, rfl, rfl, hOw, hBr⟩ := hrel
    by_cases hi : k < s.size
    · have hiz : (k : Int) < (s.size : Int) := by omega
      obtain ⟨x0, hx0⟩ : ∃ x0, s.get! k = x0 := ⟨_, rfl⟩
      have hs0 : s[k]'(by omega) = x0 := (get_at s k (by omega)).trans hx0
      have hl0 : x0.toNat < 256 := x0.toNat_lt
      obtain ⟨X, hX⟩ : ∃ X : Int, (x0.toNat : Int) = X := ⟨_, rfl⟩
      have hLk := HL.out k hi
      rw [hx0, hX] at hLk
      have hwk := wrap64_id (a := (k : Int) + 1) (by omega) (by omega)
      by_cases b1 : 97 ≤ X
      · by_cases b2 : X ≤ 122
        · obtain ⟨Y, hY⟩ : ∃ Y : Int, X - 32 = Y := ⟨_, rfl⟩
          have hrc : recase how X = Y := by rw [HH.out, ← hY]; unfold recase; rw [if_pos ⟨rfl, b1, b2⟩]
          have HSN : Hid (bz (L.take k) ++ [Y] = bz (L.take (k + 1))) := bz_snoc L k (by omega) Y (hLk.trans hrc)
          have hY0 : 0 ≤ Y := by omega
          have hY1 : Y < 4294967296 := by omega
          have hwy : IntKind.u8.wrap (X - 32) = Y := by rw [← hY]; simp [IntKind.wrap, IntKind.bits, IntKind.signed]; omega
          clear hrc hLk hx0 hl0 hY
          go_wp2_with (at_builtin; refine U8.wpList_append_rd rfl _ _ 26 rfl Tryd.underlying26 w.heap.size _ _ (bz (L.take k)) [Y] rfl rfl (hOw.alloc _) (U8.Rd.one wr wr.heap.size rfl 5 hY0 hY1) (by simp [bz]; omega) (by have := hBr.size; simp; omega) ?_; intro a1 c1 w1 hO1 hB1)
          have hB2 := (hBr.alloc hBr.size (Obj.cells #[.int .u8 Y] 5)).trans hB1
          obtain ⟨g1, rfl⟩ : ∃ g1, a1 = some ⟨g1, 0, none⟩ := by
            rcases hO1.shape with ⟨hv, _⟩ | ⟨g1, cp, hv, _⟩
            · simp at hv
            · simp only [Value.slice.injEq] at hv; exact ⟨g1, hv.1⟩
          have hlk : (bz (L.take k)).length = k := by simp [bz]; omega
          have hln : (bz (L.take k) ++ [Y]).length = k + 1 := by rw [HSN.out]; simp [bz]; omega
          rw [hln, HSN.out] at hO1
          go_roundw
          case rel => exact ⟨k + 1, g1, c1, by omega, by go_num, by first | rw [hlk] | simp [hlk], hO1, hB2⟩
          case measure => first | (simp [intOf]; done) | (simp [intOf]; omega)
        · obtain ⟨Y, hY⟩ : ∃ Y : Int, X = Y := ⟨_, rfl⟩
          have hrc : recase how X = Y := by rw [HH.out, ← hY]; unfold recase; rw [if_neg (fun h => b2 h.2.2), if_neg (fun h => absurd h.1 (by decide))]
          have HSN : Hid (bz (L.take k) ++ [Y] = bz (L.take (k + 1))) := bz_snoc L k (by omega) Y (hLk.trans hrc)
          have hY0 : 0 ≤ Y := by omega
          have hY1 : Y < 4294967296 := by omega
          subst hY
          clear hrc hLk hx0 hl0
          go_wp2_with (at_builtin; refine U8.wpList_append_rd rfl _ _ 26 rfl Tryd.underlying26 w.heap.size _ _ (bz (L.take k)) [X] rfl rfl (hOw.alloc _) (U8.Rd.one wr wr.heap.size rfl 5 hY0 hY1) (by simp [bz]; omega) (by have := hBr.size; simp; omega) ?_; intro a1 c1 w1 hO1 hB1)
          have hB2 := (hBr.alloc hBr.size (Obj.cells #[.int .u8 X] 5)).trans hB1
          obtain ⟨g1, rfl⟩ : ∃ g1, a1 = some ⟨g1, 0, none⟩ := by
            rcases hO1.shape with ⟨hv, _⟩ | ⟨g1, cp, hv, _⟩
            · simp at hv
            · simp only [Value.slice.injEq] at hv; exact ⟨g1, hv.1⟩
          have hlk : (bz (L.take k)).length = k := by simp [bz]; omega
          have hln : (bz (L.take k) ++ [X]).length = k + 1 := by rw [HSN.out]; simp [bz]; omega
          rw [hln, HSN.out] at hO1
          go_roundw
          case rel => exact ⟨k + 1, g1, c1, by omega, by go_num, by first | rw [hlk] | simp [hlk], hO1, hB2⟩
          case measure => first | (simp [intOf]; done) | (simp [intOf]; omega)
      · obtain ⟨Y, hY⟩ : ∃ Y : Int, X = Y := ⟨_, rfl⟩
        have hrc : recase how X = Y := by rw [HH.out, ← hY]; unfold recase; rw [if_neg (fun h => b1 h.2.1), if_neg (fun h => absurd h.1 (by decide))]
        have HSN : Hid (bz (L.take k) ++ [Y] = bz (L.take (k + 1))) := bz_snoc L k (by omega) Y (hLk.trans hrc)
        have hY0 : 0 ≤ Y := by omega
        have hY1 : Y < 4294967296 := by omega
        subst hY
        clear hrc hLk hx0 hl0
        go_wp2_with (at_builtin; refine U8.wpList_append_rd rfl _ _ 26 rfl Tryd.underlying26 w.heap.size _ _ (bz (L.take k)) [X] rfl rfl (hOw.alloc _) (U8.Rd.one wr wr.heap.size rfl 5 hY0 hY1) (by simp [bz]; omega) (by have := hBr.size; simp; omega) ?_; intro a1 c1 w1 hO1 hB1)
        have hB2 := (hBr.alloc hBr.size (Obj.cells #[.int .u8 X] 5)).trans hB1
        obtain ⟨g1, rfl⟩ : ∃ g1, a1 = some ⟨g1, 0, none⟩ := by
          rcases hO1.shape with ⟨hv, _⟩ | ⟨g1, cp, hv, _⟩
          · simp at hv
          · simp only [Value.slice.injEq] at hv; exact ⟨g1, hv.1⟩
        have hlk : (bz (L.take k)).length = k := by simp [bz]; omega
        have hln : (bz (L.take k) ++ [X]).length = k + 1 := by rw [HSN.out]; simp [bz]; omega
        rw [hln, HSN.out] at hO1
        go_roundw
        case rel => exact ⟨k + 1, g1, c1, by omega, by go_num, by first | rw [hlk] | simp [hlk], hO1, hB2⟩
        case measure => first | (simp [intOf]; done) | (simp [intOf]; omega)
    · have hiz : ¬ (k : Int) < (s.size : Int) := by omega
      obtain rfl : k = s.size := by omega
      rw [List.take_of_length_le (by omega)] at hOw
      have hcv := bytes_back wr w.heap.size g co L s.size hl.symm hOw
      go_wp2
      go_ret
      exact ⟨rfl, hBr⟩
set_option maxHeartbeats 4000000 in
set_option maxRecDepth 100000 in
theorem textCaseS_loop2 (how : Int) (s : ByteArray) (w : World) (hm : s.size ≤ 16384) (hh : how = 2)
    (hK : Calls Tryd.prog 9 #[.string s] w fun e w' => e = .returned (.bool true) ∧ Below w.heap.size w w') :
    Calls Tryd.prog 5 #[.string s, .int .i64 how] w fun e w' => e = .returned (.string ⟨(s.data.toList.map (caseB how)).toArray⟩) ∧ Below w.heap.size w w' := by
  have hl : (s.data.toList.map (caseB how)).length = s.size := by rw [List.length_map, ← size_eq]
  have HL : Hid (∀ (k : Nat) (h : k < s.size), ((((s.data.toList.map (caseB how)).getD k 0).toNat : Nat) : Int) = recase how ((s.get! k).toNat : Int)) := fun k h => by
    have e : (s.data.toList.map (caseB how)).getD k 0 = caseB how (s.get! k) := by
      rw [← get_at s k h]
      have hk : k < s.data.toList.length := by rw [← size_eq]; exact h
      rw [List.getD_eq_getElem?_getD, List.getElem?_map, List.getElem?_eq_getElem hk]
      show caseB how (s.data.toList[k]) = caseB how s[k]
      rw [Array.getElem_toList]; rfl
    rw [e, caseB_toNat]
  generalize s.data.toList.map (caseB how) = L at hl HL ⊢
  have n1 : ¬ how < 1 := by omega
  have e1 : (how == 1) = false := by rw [hh]; rfl
  have e2 : (how == 2) = true := by rw [hh]; rfl
  have n2 : ¬ 2 < how := by omega
  have HH : Hid (how = 2) := hh
  clear hh
  go_enter Tryd.func5, Tryd.ntmps5
  go_wp2_with fail
  refine hK.mono ?_
  rintro e w0 ⟨rfl, hB0⟩
  clear hK
  go_wp2
  go_loopw [5, 6] (fun o i wr => ∃ (k g co : Nat), k ≤ s.size ∧ i = .int .i64 k ∧ o = .slice (some ⟨g, 0, none⟩) k co ∧ U8.Own wr w.heap.size (.slice (some ⟨g, 0, none⟩) k co) (bz (L.take k)) ∧ Below w.heap.size w wr) (fun _ i _ => s.size - (intOf i).toNat)
  case atStart => exact ⟨0, w0.heap.size, 0, by omega, rfl, rfl, (U8.Own.empty w0).mono hB0.size, hB0.alloc hB0.size _⟩
  case round =>
    obtain ⟨k, g, co, hk, rfl, rfl, hOw, hBr⟩ := hrel
    by_cases hi : k < s.size
    · have hiz : (k : Int) < (s.size : Int) := by omega
      obtain ⟨x0, hx0⟩ : ∃ x0, s.get! k = x0 := ⟨_, rfl⟩
      have hs0 : s[k]'(by omega) = x0 := (get_at s k (by omega)).trans hx0
      have hl0 : x0.toNat < 256 := x0.toNat_lt
      obtain ⟨X, hX⟩ : ∃ X : Int, (x0.toNat : Int) = X := ⟨_, rfl⟩
      have hLk := HL.out k hi
      rw [hx0, hX] at hLk
      have hwk := wrap64_id (a := (k : Int) + 1) (by omega) (by omega)
      by_cases b1 : 65 ≤ X
      · by_cases b2 : X ≤ 90
        · obtain ⟨Y, hY⟩ : ∃ Y : Int, X + 32 = Y := ⟨_, rfl⟩
          have hrc : recase how X = Y := by rw [HH.out, ← hY]; unfold recase; rw [if_neg (fun h => absurd h.1 (by decide)), if_pos ⟨rfl, b1, b2⟩]
          have HSN : Hid (bz (L.take k) ++ [Y] = bz (L.take (k + 1))) := bz_snoc L k (by omega) Y (hLk.trans hrc)
          have hY0 : 0 ≤ Y := by omega
          have hY1 : Y < 4294967296 := by omega
          have hwy : IntKind.u8.wrap (X + 32) = Y := by rw [← hY]; simp [IntKind.wrap, IntKind.bits, IntKind.signed]; omega
          clear hrc hLk hx0 hl0 hY
          go_wp2_with (at_builtin; refine U8.wpList_append_rd rfl _ _ 26 rfl Tryd.underlying26 w.heap.size _ _ (bz (L.take k)) [Y] rfl rfl (hOw.alloc _) (U8.Rd.one wr wr.heap.size rfl 5 hY0 hY1) (by simp [bz]; omega) (by have := hBr.size; simp; omega) ?_; intro a1 c1 w1 hO1 hB1)
          have hB2 := (hBr.alloc hBr.size (Obj.cells #[.int .u8 Y] 5)).trans hB1
          obtain ⟨g1, rfl⟩ : ∃ g1, a1 = some ⟨g1, 0, none⟩ := by
            rcases hO1.shape with ⟨hv, _⟩ | ⟨g1, cp, hv, _⟩
            · simp at hv
            · simp only [Value.slice.injEq] at hv; exact ⟨g1, hv.1⟩
          have hlk : (bz (L.take k)).length = k := by simp [bz]; omega
          have hln : (bz (L.take k) ++ [Y]).length = k + 1 := by rw [HSN.out]; simp [bz]; omega
          rw [hln, HSN.out] at hO1
          go_roundw
          case rel => exact ⟨k + 1, g1, c1, by omega, by go_num, by first | rw [hlk] | simp [hlk], hO1, hB2⟩
          case measure => first | (simp [intOf]; done) | (simp [intOf]; omega)
        · obtain ⟨Y, hY⟩ : ∃ Y : Int, X = Y := ⟨_, rfl⟩
          have hrc : recase how X = Y := by rw [HH.out, ← hY]; unfold recase; rw [if_neg (fun h => absurd h.1 (by decide)), if_neg (fun h => b2 h.2.2)]
          have HSN : Hid (bz (L.take k) ++ [Y] = bz (L.take (k + 1))) := bz_snoc L k (by omega) Y (hLk.trans hrc)
          have hY0 : 0 ≤ Y := by omega
          have hY1 : Y < 4294967296 := by omega
          subst hY
          clear hrc hLk hx0 hl0
          go_wp2_with (at_builtin; refine U8.wpList_append_rd rfl _ _ 26 rfl Tryd.underlying26 w.heap.size _ _ (bz (L.take k)) [X] rfl rfl (hOw.alloc _) (U8.Rd.one wr wr.heap.size rfl 5 hY0 hY1) (by simp [bz]; omega) (by have := hBr.size; simp; omega) ?_; intro a1 c1 w1 hO1 hB1)
          have hB2 := (hBr.alloc hBr.size (Obj.cells #[.int .u8 X] 5)).trans hB1
          obtain ⟨g1, rfl⟩ : ∃ g1, a1 = some ⟨g1, 0, none⟩ := by
            rcases hO1.shape with ⟨hv, _⟩ | ⟨g1, cp, hv, _⟩
            · simp at hv
            · simp only [Value.slice.injEq] at hv; exact ⟨g1, hv.1⟩
          have hlk : (bz (L.take k)).length = k := by simp [bz]; omega
          have hln : (bz (L.take k) ++ [X]).length = k + 1 := by rw [HSN.out]; simp [bz]; omega
          rw [hln, HSN.out] at hO1
          go_roundw
          case rel => exact ⟨k + 1, g1, c1, by omega, by go_num, by first | rw [hlk] | simp [hlk], hO1, hB2⟩
          case measure => first | (simp [intOf]; done) | (simp [intOf]; omega)
      · obtain ⟨Y, hY⟩ : ∃ Y : Int, X = Y := ⟨_, rfl⟩
        have hrc : recase how X = Y := by rw [HH.out, ← hY]; unfold recase; rw [if_neg (fun h => absurd h.1 (by decide)), if_neg (fun h => b1 h.2.1)]
        have HSN : Hid (bz (L.take k) ++ [Y] = bz (L.take (k + 1))) := bz_snoc L k (by omega) Y (hLk.trans hrc)
        have hY0 : 0 ≤ Y := by omega
        have hY1 : Y < 4294967296 := by omega
        subst hY
        clear hrc hLk hx0 hl0
        go_wp2_with (at_builtin; refine U8.wpList_append_rd rfl _ _ 26 rfl Tryd.underlying26 w.heap.size _ _ (bz (L.take k)) [X] rfl rfl (hOw.alloc _) (U8.Rd.one wr wr.heap.size rfl 5 hY0 hY1) (by simp [bz]; omega) (by have := hBr.size; simp; omega) ?_; intro a1 c1 w1 hO1 hB1)
        have hB2 := (hBr.alloc hBr.size (Obj.cells #[.int .u8 X] 5)).trans hB1
        obtain ⟨g1, rfl⟩ : ∃ g1, a1 = some ⟨g1, 0, none⟩ := by
          rcases hO1.shape with ⟨hv, _⟩ | ⟨g1, cp, hv, _⟩
          · simp at hv
          · simp only [Value.slice.injEq] at hv; exact ⟨g1, hv.1⟩
        have hlk : (bz (L.take k)).length = k := by simp [bz]; omega
        have hln : (bz (L.take k) ++ [X]).length = k + 1 := by rw [HSN.out]; simp [bz]; omega
        rw [hln, HSN.out] at hO1
        go_roundw
        case rel => exact ⟨k + 1, g1, c1, by omega, by go_num, by first | rw [hlk] | simp [hlk], hO1, hB2⟩
        case measure => first | (simp [intOf]; done) | (simp [intOf]; omega)
    · have hiz : ¬ (k : Int) < (s.size : Int) := by omega
      obtain rfl : k = s.size := by omega
      rw [List.take_of_length_le (by omega)] at hOw
      have hcv := bytes_back wr w.heap.size g co L s.size hl.symm hOw
      go_wp2
      go_ret
      exact ⟨rfl, hBr⟩
end Go.Proofs.YtjggbjhokjloaaaDoor
