import Derived.Test.YtdamddfhflhfbaaDoorReprP
import Derived.Test.YtdamddfhflhfbaaDoorPutS
import Derived.Deep.RegionHeldLaw
import Derived.Deep.AppendLies
namespace Go.Proofs.YtdamddfhflhfbaaDoor
open Go.RowKit Go.Lib
set_option linter.unusedVariables false
set_option linter.unusedSimpArgs false

set_option maxRecDepth 100000 in
theorem l3Has_any (s : ByteArray) (c : UInt8) (C : Int) (hC : (c.toNat : Int) = C) (w : World) (hs : s.size ≤ 16777216) :
    Calls Tryd.prog 49 #[.string s, .int .u8 C] w fun e w' => e = .returned (.bool (s.data.toList.contains c)) ∧ w' = w := by
  have hl : s.data.toList.length = s.size := (size_eq s).symm
  obtain ⟨b, hb⟩ : ∃ b, s.data.toList.contains c = b := ⟨_, rfl⟩
  have HB : Hid (s.data.toList.contains c = b) := hb
  rw [hb]
  have HC : Hid ((c.toNat : Int) = C) := hC
  clear hb hC
  go_enter Tryd.func49, Tryd.ntmps49
  go_wp2
  go_loopw [5] (fun i wr => ∃ (k : Nat), k ≤ s.size ∧ i = .int .i64 k ∧ (∀ j, j < k → s.data.toList[j]? ≠ some c) ∧ wr = w) (fun i _ => s.size - (RowKit.intOf i).toNat)
  case atStart => exact ⟨0, by omega, rfl, fun j h => by omega, rfl⟩
  case round =>
    obtain ⟨k, hk, rfl, hn, rfl⟩ := hrel
    have HN : Hid (∀ j, j < k → s.data.toList[j]? ≠ some c) := hn
    clear hn
    have hwk := wrap64_id (a := (k : Int) + 1) (by omega) (by omega)
    by_cases hi : k < s.size
    · have hiz : (k : Int) < (s.size : Int) := by omega
      obtain ⟨x0, hx0⟩ : ∃ x0, s.get! k = x0 := ⟨_, rfl⟩
      have hs0 : s[k]'(by omega) = x0 := (get_at s k (by omega)).trans hx0
      have hat : s.data.toList[k]? = some x0 := by
        rw [List.getElem?_eq_getElem (by omega), ← hs0]; rfl
      obtain ⟨X, hX⟩ : ∃ X : Int, (x0.toNat : Int) = X := ⟨_, rfl⟩
      by_cases he : X = C
      · have hxc : x0 = c := by
          apply UInt8.toNat_inj.1
          have := HC.out
          omega
        have hfin : b = true := by
          rw [← HB.out]
          exact List.contains_iff_mem.2 (List.mem_of_getElem? (by rw [hat, hxc]))
        have hbe : (X == C) = true := by rw [beq_iff_eq]; exact he
        clear he hxc hat hx0 HB HC HN
        subst hfin
        go_wp2
        go_ret
        exact ⟨rfl, rfl⟩
      · have hbe : (X == C) = false := by rw [beq_eq_false_iff_ne]; exact he
        have HN2 : Hid (∀ j, j < k + 1 → s.data.toList[j]? ≠ some c) := fun j hj => by
          by_cases h : j = k
          · rw [h, hat]
            intro h2
            simp only [Option.some.injEq] at h2
            apply he
            have := HC.out
            rw [← hX, h2, this]
          · exact HN.out j (by omega)
        clear he hat hx0 HN
        go_wp2
        go_roundw
        case rel => exact ⟨k + 1, by omega, by go_num, HN2.out, trivial⟩
        case measure => first | (simp [RowKit.intOf]; done) | (simp [RowKit.intOf]; omega)
    · have hiz : ¬ (k : Int) < (s.size : Int) := by omega
      have hfin : b = false := by
        rw [← HB.out, Bool.eq_false_iff]
        intro h
        obtain ⟨j, hj⟩ := List.getElem?_of_mem (List.contains_iff_mem.1 h)
        have hjl : j < s.data.toList.length := by
          rcases Nat.lt_or_ge j s.data.toList.length with h' | h'
          · exact h'
          · rw [List.getElem?_eq_none h'] at hj; cases hj
        exact HN.out j (by omega) hj
      clear HB HC HN
      subst hfin
      go_wp2
      go_ret
      exact ⟨rfl, rfl⟩
/-- The signs of the digits. -/
abbrev hexS : ByteArray := ⟨#[48, 49, 50, 51, 52, 53, 54, 55, 56, 57, 97, 98, 99, 100, 101, 102]⟩
theorem hex_at (n : Nat) (h : n < 16) : hexS[n]'(by show n < 16; exact h) = (hexN n).toUInt8 := by
  have : ∀ m : Fin 16, hexS[m.1]'(by show m.1 < 16; exact m.2) = (hexN m.1).toUInt8 := by decide
  exact this ⟨n, h⟩
theorem u8_and15 (a : Nat) (ha : a < 256) : bits .and .u8 (a : Int) 15 = ((a % 16 : Nat) : Int) := by
  have : ∀ m : Fin 256, bits .and .u8 (m.1 : Int) 15 = ((m.1 % 16 : Nat) : Int) := by decide +kernel
  exact this ⟨a, ha⟩
/-- The bytes of a repr up to a place. -/
def reprTo (q : Nat) (s : ByteArray) (k : Nat) : List UInt8 := [q.toUInt8] ++ (s.data.toList.take k).flatMap (reprB q)
theorem reprTo_succ (q : Nat) (s : ByteArray) (k : Nat) (h : k < s.size) : reprTo q s (k + 1) = reprTo q s k ++ reprB q (s.get! k) := by
  have hk : k < s.data.toList.length := by rw [← size_eq]; exact h
  unfold reprTo
  rw [List.take_succ_eq_append_getElem hk, List.flatMap_append]
  have e : s.data.toList[k] = s.get! k := by rw [← get_at s k h]; rfl
  rw [e]; simp
theorem reprTo_len (q : Nat) (s : ByteArray) (k : Nat) : (reprTo q s k).length ≤ 4 * k + 1 := by
  unfold reprTo
  have : ∀ l : List UInt8, (l.flatMap (reprB q)).length ≤ 4 * l.length := by
    intro l
    induction l with
    | nil => simp
    | cons a l ih =>
      rw [List.flatMap_cons, List.length_append, List.length_cons]
      have : (reprB q a).length ≤ 4 := by unfold reprB toB; rw [List.length_map]; exact reprN_len _ _
      omega
  have h2 := this (s.data.toList.take k)
  rw [List.length_take] at h2
  simp only [List.length_append, List.length_cons, List.length_nil]
  omega
theorem bz_length (l : List UInt8) : (bz l).length = l.length := by simp [bz]
theorem bz_toB (l : List Nat) (h : ∀ x ∈ l, x < 256) : bz (toB l) = l.map fun (n : Nat) => (n : Int) := by
  unfold bz toB
  rw [List.map_map]
  refine List.map_congr_left fun x hx => ?_
  show ((x.toUInt8.toNat : Nat) : Int) = x
  rw [byte_nat (h x hx)]
theorem bz_reprTo (q : Nat) (s : ByteArray) (k : Nat) (h : k < s.size) (ys : List Int) (hy : (reprN q (s.get! k).toNat).map (fun (n : Nat) => (n : Int)) = ys) : bz (reprTo q s k) ++ ys = bz (reprTo q s (k + 1)) := by
  rw [reprTo_succ q s k h, ← hy, ← bz_toB _ (reprN_byte (UInt8.toNat_lt _))]
  unfold bz reprB; rw [List.map_append]
set_option maxHeartbeats 4000000 in
set_option maxRecDepth 100000 in
theorem reprS_a (s : ByteArray) (w : World) (hs : s.size ≤ 16384)
    (hK : Calls Tryd.prog 41 #[.string s] w fun e w' => e = .returned (.bool true) ∧ Below w.heap.size w w') (h39 : s.data.toList.contains 39 = false) :
    Calls Tryd.prog 20 #[.string s] w fun e w' => e = .returned (.string ⟨(reprTo 39 s s.size ++ [(39 : Nat).toUInt8]).toArray⟩) ∧ Below w.heap.size w w' := by
  go_enter Tryd.func20, Tryd.ntmps20
  go_wp2_with fail
  refine hK.mono ?_
  rintro e w0 ⟨rfl, hB0⟩
  clear hK
  go_wp2_with fail
  refine (l3Has_any s 39 39 rfl _ (by omega)).mono ?_
  rw [h39]
  rintro e w0 ⟨rfl, rfl⟩
  try clear h39
  try clear h34
  go_wp2
  go_loopw [4, 5] (fun o i wr => ∃ (k g m co : Nat) (T : List UInt8), k ≤ s.size ∧ T = reprTo 39 s k ∧ m = T.length ∧ i = .int .i64 k ∧ o = .slice (some ⟨g, 0, none⟩) m co ∧ U8.Own wr w.heap.size (.slice (some ⟨g, 0, none⟩) m co) (bz T) ∧ Below w.heap.size w wr) (fun _ i _ => s.size - (RowKit.intOf i).toNat)
  case atStart => exact ⟨0, w0.heap.size, 1, 1, _, by omega, rfl, rfl, rfl, rfl, (U8.Own.lit1 w0 w0.heap.size rfl (x := 39) (by omega) (by omega)).mono hB0.size, hB0.alloc hB0.size _⟩
  case round =>
    obtain ⟨k, g, m, co, T, hk, hT, hm, rfl, rfl, hOw, hBr⟩ := hrel
    have HT : Hid (T = reprTo 39 s k) := hT
    have HBL : Hid ((bz T).length = m) := by show _ = _; rw [bz_length, hm]
    have hrl : m ≤ 65537 := by rw [hm, hT]; have := reprTo_len 39 s k; omega
    clear hT hm
    by_cases hi : k < s.size
    · skip
      have hiz : (k : Int) < (s.size : Int) := by omega
      obtain ⟨x0, hx0⟩ : ∃ x0, s.get! k = x0 := ⟨_, rfl⟩
      have hs0 : s[k]'(by omega) = x0 := (get_at s k (by omega)).trans hx0
      have hlx : x0.toNat < 256 := x0.toNat_lt
      obtain ⟨X, hX⟩ : ∃ X : Int, (x0.toNat : Int) = X := ⟨_, rfl⟩
      have hX0 : 0 ≤ X := by omega
      have hX1 : X < 256 := by omega
      have hwk := wrap64_id (a := (k : Int) + 1) (by omega) (by omega)
      by_cases c1 : X = 39
      · subst c1
        have HU : Hid (bz T ++ [92, 39] = bz (reprTo 39 s (k + 1))) := by rw [HT.out]; exact bz_reprTo 39 s k hi _ (by rw [hx0]; unfold reprN; rw [if_pos (by omega)]; simp only [List.map_cons, List.map_nil, hX]; rfl)
        have HLN : Hid ((bz T ++ [92, 39]).length = m + 2) := by show _ = _; rw [List.length_append, HBL.out]; rfl
        have HL2 : Hid ((bz T).length + ([92, 39] : List Int).length = m + 2) := by show _ = _; rw [HBL.out]; rfl
        clear hx0 hlx
        try clear c1
        try clear c2
        try clear d0
        try clear d1
        try clear d2
        try clear h6
        go_wp2_with (at_builtin; refine U8.wpList_append_rd rfl _ _ 66 rfl Tryd.underlying66 w.heap.size _ _ (bz T) [92, 39] rfl rfl (hOw.alloc _) (U8.Rd.two wr wr.heap.size rfl (by omega) (by omega) (by omega) (by omega)) (by rw [HL2.out]; omega) (by have := hBr.size; simp; omega) ?_; rw [HLN.out]; intro a1 c1 w1 hO1 hB1)
        have hB2 := (hBr.alloc hBr.size (Obj.cells #[.int .u8 92, .int .u8 39] 5)).trans hB1
        obtain ⟨g1, rfl⟩ : ∃ g1, a1 = some ⟨g1, 0, none⟩ := by
          rcases hO1.shape with ⟨hv, hv2⟩ | ⟨g1, cp, hv, _⟩
          · exfalso; simp only [Value.slice.injEq] at hv; omega
          · simp only [Value.slice.injEq] at hv; exact ⟨g1, hv.1⟩
        have HLM := HLN.out
        rw [HU.out] at hO1 HLM
        rw [bz_length] at HLM
        go_roundw
        case rel => exact ⟨k + 1, g1, _, c1, reprTo 39 s (k + 1), by omega, rfl, HLM.symm, by go_num, by go_num, hO1, hB2⟩
        case measure => first | (simp [RowKit.intOf]; done) | (simp [RowKit.intOf]; omega)
      · have e1 : (X == 39) = false := by rw [beq_eq_false_iff_ne]; exact c1
        by_cases c2 : X = 92
        · subst c2
          have HU : Hid (bz T ++ [92, 92] = bz (reprTo 39 s (k + 1))) := by rw [HT.out]; exact bz_reprTo 39 s k hi _ (by rw [hx0]; unfold reprN; rw [if_pos (by omega)]; simp only [List.map_cons, List.map_nil, hX]; rfl)
          have HLN : Hid ((bz T ++ [92, 92]).length = m + 2) := by show _ = _; rw [List.length_append, HBL.out]; rfl
          have HL2 : Hid ((bz T).length + ([92, 92] : List Int).length = m + 2) := by show _ = _; rw [HBL.out]; rfl
          clear hx0 hlx
          try clear c1
          try clear c2
          try clear d0
          try clear d1
          try clear d2
          try clear h6
          go_wp2_with (at_builtin; refine U8.wpList_append_rd rfl _ _ 66 rfl Tryd.underlying66 w.heap.size _ _ (bz T) [92, 92] rfl rfl (hOw.alloc _) (U8.Rd.two wr wr.heap.size rfl (by omega) (by omega) (by omega) (by omega)) (by rw [HL2.out]; omega) (by have := hBr.size; simp; omega) ?_; rw [HLN.out]; intro a1 c1 w1 hO1 hB1)
          have hB2 := (hBr.alloc hBr.size (Obj.cells #[.int .u8 92, .int .u8 92] 5)).trans hB1
          obtain ⟨g1, rfl⟩ : ∃ g1, a1 = some ⟨g1, 0, none⟩ := by
            rcases hO1.shape with ⟨hv, hv2⟩ | ⟨g1, cp, hv, _⟩
            · exfalso; simp only [Value.slice.injEq] at hv; omega
            · simp only [Value.slice.injEq] at hv; exact ⟨g1, hv.1⟩
          have HLM := HLN.out
          rw [HU.out] at hO1 HLM
          rw [bz_length] at HLM
          go_roundw
          case rel => exact ⟨k + 1, g1, _, c1, reprTo 39 s (k + 1), by omega, rfl, HLM.symm, by go_num, by go_num, hO1, hB2⟩
          case measure => first | (simp [RowKit.intOf]; done) | (simp [RowKit.intOf]; omega)
        · have e2 : (X == 92) = false := by rw [beq_eq_false_iff_ne]; exact c2
          by_cases d0 : X = 10
          · subst d0
            have HU : Hid (bz T ++ [92, 110] = bz (reprTo 39 s (k + 1))) := by rw [HT.out]; exact bz_reprTo 39 s k hi _ (by rw [hx0]; unfold reprN; rw [if_neg (by omega), if_pos (by omega)]; rfl)
            have HLN : Hid ((bz T ++ [92, 110]).length = m + 2) := by show _ = _; rw [List.length_append, HBL.out]; rfl
            have HL2 : Hid ((bz T).length + ([92, 110] : List Int).length = m + 2) := by show _ = _; rw [HBL.out]; rfl
            clear hx0 hlx
            try clear c1
            try clear c2
            try clear d0
            try clear d1
            try clear d2
            try clear h6
            go_wp2_with (at_builtin; refine U8.wpList_append_rd rfl _ _ 66 rfl Tryd.underlying66 w.heap.size _ _ (bz T) [92, 110] rfl rfl (hOw.alloc _) (U8.Rd.two wr wr.heap.size rfl (by omega) (by omega) (by omega) (by omega)) (by rw [HL2.out]; omega) (by have := hBr.size; simp; omega) ?_; rw [HLN.out]; intro a1 c1 w1 hO1 hB1)
            have hB2 := (hBr.alloc hBr.size (Obj.cells #[.int .u8 92, .int .u8 110] 5)).trans hB1
            obtain ⟨g1, rfl⟩ : ∃ g1, a1 = some ⟨g1, 0, none⟩ := by
              rcases hO1.shape with ⟨hv, hv2⟩ | ⟨g1, cp, hv, _⟩
              · exfalso; simp only [Value.slice.injEq] at hv; omega
              · simp only [Value.slice.injEq] at hv; exact ⟨g1, hv.1⟩
            have HLM := HLN.out
            rw [HU.out] at hO1 HLM
            rw [bz_length] at HLM
            go_roundw
            case rel => exact ⟨k + 1, g1, _, c1, reprTo 39 s (k + 1), by omega, rfl, HLM.symm, by go_num, by go_num, hO1, hB2⟩
            case measure => first | (simp [RowKit.intOf]; done) | (simp [RowKit.intOf]; omega)
          · have f0 : (X == 10) = false := by rw [beq_eq_false_iff_ne]; exact d0
            by_cases d1 : X = 9
            · subst d1
              have HU : Hid (bz T ++ [92, 116] = bz (reprTo 39 s (k + 1))) := by rw [HT.out]; exact bz_reprTo 39 s k hi _ (by rw [hx0]; unfold reprN; rw [if_neg (by omega), if_neg (by omega), if_pos (by omega)]; rfl)
              have HLN : Hid ((bz T ++ [92, 116]).length = m + 2) := by show _ = _; rw [List.length_append, HBL.out]; rfl
              have HL2 : Hid ((bz T).length + ([92, 116] : List Int).length = m + 2) := by show _ = _; rw [HBL.out]; rfl
              clear hx0 hlx
              try clear c1
              try clear c2
              try clear d0
              try clear d1
              try clear d2
              try clear h6
              go_wp2_with (at_builtin; refine U8.wpList_append_rd rfl _ _ 66 rfl Tryd.underlying66 w.heap.size _ _ (bz T) [92, 116] rfl rfl (hOw.alloc _) (U8.Rd.two wr wr.heap.size rfl (by omega) (by omega) (by omega) (by omega)) (by rw [HL2.out]; omega) (by have := hBr.size; simp; omega) ?_; rw [HLN.out]; intro a1 c1 w1 hO1 hB1)
              have hB2 := (hBr.alloc hBr.size (Obj.cells #[.int .u8 92, .int .u8 116] 5)).trans hB1
              obtain ⟨g1, rfl⟩ : ∃ g1, a1 = some ⟨g1, 0, none⟩ := by
                rcases hO1.shape with ⟨hv, hv2⟩ | ⟨g1, cp, hv, _⟩
                · exfalso; simp only [Value.slice.injEq] at hv; omega
                · simp only [Value.slice.injEq] at hv; exact ⟨g1, hv.1⟩
              have HLM := HLN.out
              rw [HU.out] at hO1 HLM
              rw [bz_length] at HLM
              go_roundw
              case rel => exact ⟨k + 1, g1, _, c1, reprTo 39 s (k + 1), by omega, rfl, HLM.symm, by go_num, by go_num, hO1, hB2⟩
              case measure => first | (simp [RowKit.intOf]; done) | (simp [RowKit.intOf]; omega)
            · have f1 : (X == 9) = false := by rw [beq_eq_false_iff_ne]; exact d1
              by_cases d2 : X = 13
              · subst d2
                have HU : Hid (bz T ++ [92, 114] = bz (reprTo 39 s (k + 1))) := by rw [HT.out]; exact bz_reprTo 39 s k hi _ (by rw [hx0]; unfold reprN; rw [if_neg (by omega), if_neg (by omega), if_neg (by omega), if_pos (by omega)]; rfl)
                have HLN : Hid ((bz T ++ [92, 114]).length = m + 2) := by show _ = _; rw [List.length_append, HBL.out]; rfl
                have HL2 : Hid ((bz T).length + ([92, 114] : List Int).length = m + 2) := by show _ = _; rw [HBL.out]; rfl
                clear hx0 hlx
                try clear c1
                try clear c2
                try clear d0
                try clear d1
                try clear d2
                try clear h6
                go_wp2_with (at_builtin; refine U8.wpList_append_rd rfl _ _ 66 rfl Tryd.underlying66 w.heap.size _ _ (bz T) [92, 114] rfl rfl (hOw.alloc _) (U8.Rd.two wr wr.heap.size rfl (by omega) (by omega) (by omega) (by omega)) (by rw [HL2.out]; omega) (by have := hBr.size; simp; omega) ?_; rw [HLN.out]; intro a1 c1 w1 hO1 hB1)
                have hB2 := (hBr.alloc hBr.size (Obj.cells #[.int .u8 92, .int .u8 114] 5)).trans hB1
                obtain ⟨g1, rfl⟩ : ∃ g1, a1 = some ⟨g1, 0, none⟩ := by
                  rcases hO1.shape with ⟨hv, hv2⟩ | ⟨g1, cp, hv, _⟩
                  · exfalso; simp only [Value.slice.injEq] at hv; omega
                  · simp only [Value.slice.injEq] at hv; exact ⟨g1, hv.1⟩
                have HLM := HLN.out
                rw [HU.out] at hO1 HLM
                rw [bz_length] at HLM
                go_roundw
                case rel => exact ⟨k + 1, g1, _, c1, reprTo 39 s (k + 1), by omega, rfl, HLM.symm, by go_num, by go_num, hO1, hB2⟩
                case measure => first | (simp [RowKit.intOf]; done) | (simp [RowKit.intOf]; omega)
              · have f2 : (X == 13) = false := by rw [beq_eq_false_iff_ne]; exact d2
                by_cases h6 : X < 32 ∨ X = 127
                · skip
                  obtain ⟨A, hA⟩ : ∃ A : Nat, hexN (x0.toNat / 16) = A := ⟨_, rfl⟩
                  obtain ⟨B, hB⟩ : ∃ B : Nat, hexN (x0.toNat % 16) = B := ⟨_, rfl⟩
                  have hA1 : A < 256 := by rw [← hA]; unfold hexN; split <;> omega
                  have hB1' : B < 256 := by rw [← hB]; unfold hexN; split <;> omega
                  have HU : Hid (bz T ++ [92, 120, (A : Int), (B : Int)] = bz (reprTo 39 s (k + 1))) := by rw [HT.out]; exact bz_reprTo 39 s k hi _ (by rw [hx0]; unfold reprN; rw [if_neg (by omega), if_neg (by omega), if_neg (by omega), if_neg (by omega), if_pos (by omega), hA, hB]; rfl)
                  have HLN : Hid ((bz T ++ [92, 120, (A : Int), (B : Int)]).length = m + 4) := by show _ = _; rw [List.length_append, HBL.out]; rfl
                  have HL2 : Hid ((bz T).length + ([92, 120, (A : Int), (B : Int)] : List Int).length = m + 4) := by show _ = _; rw [HBL.out]; rfl
                  obtain ⟨n1, hn1⟩ : ∃ n1 : Nat, x0.toNat / 16 = n1 := ⟨_, rfl⟩
                  obtain ⟨n2, hn2⟩ : ∃ n2 : Nat, x0.toNat % 16 = n2 := ⟨_, rfl⟩
                  have hn1b : n1 < 16 := by omega
                  have hn2b : n2 < 16 := by omega
                  have hsA := hex_at n1 hn1b
                  have hsB := hex_at n2 hn2b
                  rw [hn1] at hA
                  rw [hn2] at hB
                  rw [hA] at hsA
                  rw [hB] at hsB
                  have hvA : ((A.toUInt8.toNat : Nat) : Int) = (A : Int) := by rw [byte_nat hA1]
                  have hvB : ((B.toUInt8.toNat : Nat) : Int) = (B : Int) := by rw [byte_nat hB1']
                  have hq : X / 16 = (n1 : Int) := by omega
                  have hand := u8_and15 x0.toNat hlx
                  rw [hn2, hX] at hand
                  have i1 : (n1 : Int) < 16 := by omega
                  have i2 : (n2 : Int) < 16 := by omega
                  clear hn1 hn2 hA hB hx0 hlx c1 c2 d0 d1 d2
                  obtain ⟨i0, hi0, hz0, hz1, hz2⟩ := info_parts U8.Tryd.info5
                  have hOm : wr.ownsRow w.heap.size 5 1 (.slice (some ⟨g, 0, none⟩) m co) m ((bz T).map (Value.int .u8)) := by
                    have h := hOw.1
                    rw [HBL.out] at h
                    exact h
                  have hlb := hOw.2.2
                  have HU2 : Hid ((bz T).map (Value.int .u8) ++ [Value.int .u8 92, Value.int .u8 120, Value.int .u8 (A : Int), Value.int .u8 (B : Int)] = (bz (reprTo 39 s (k + 1))).map (Value.int .u8)) := by
                    show _ = _
                    rw [← HU.out, List.map_append]; rfl
                  have hz9 := hBr.size
                  have hA256 : (A : Int) % 256 = (A : Int) := by omega
                  have hB256 : (B : Int) % 256 = (B : Int) := by omega
                  have q63 : m + 4 ≤ maxLen := by unfold maxLen; omega
                  have qby : (m + 4) * 1 ≤ 140737488355328 := by omega
                  have qba : w.heap.size ≤ (wr.alloc (Obj.cells #[.int .u8 92, .int .u8 120, .int .u8 (A : Int), .int .u8 (B : Int)] 5)).drew.heap.size := by simp; omega
                  have qsz : (wr.alloc (Obj.cells #[.int .u8 92, .int .u8 120, .int .u8 (A : Int), .int .u8 (B : Int)] 5)).drew.heap.size = wr.heap.size + 1 := by simp
                  have q1 : ∀ u ∈ [Value.int .u8 92, Value.int .u8 120, Value.int .u8 (A : Int), Value.int .u8 (B : Int)], u.oneCell' = true := by
                    intro u hu
                    simp only [List.mem_cons, List.not_mem_nil, or_false] at hu
                    rcases hu with rfl | rfl | rfl | rfl <;> rfl
                  have qne : ∀ j u, [Value.int .u8 92, Value.int .u8 120, Value.int .u8 (A : Int), Value.int .u8 (B : Int)][j]? = some u → (wr.alloc (Obj.cells #[.int .u8 92, .int .u8 120, .int .u8 (A : Int), .int .u8 (B : Int)] 5)).drew.cell? ((⟨wr.heap.size, 0, none⟩ : Addr).add j) = some u := by
                    intro j u hu
                    rw [add_at, show (wr.alloc (Obj.cells #[.int .u8 92, .int .u8 120, .int .u8 (A : Int), .int .u8 (B : Int)] 5)).drew.cell? ⟨wr.heap.size, j, none⟩ = (wr.alloc (Obj.cells #[.int .u8 92, .int .u8 120, .int .u8 (A : Int), .int .u8 (B : Int)] 5)).cell? ⟨wr.heap.size, j, none⟩ from rfl, World.cell?_alloc_at (w := wr) _ _ wr.heap.size j rfl]
                    simpa using hu
                  have qow := (hOm.alloc (Obj.cells #[.int .u8 92, .int .u8 120, .int .u8 (A : Int), .int .u8 (B : Int)] 5)).drew
                  have hsg := hOw.lt g rfl
                  by_cases h7 : X < 32
                  · clear h6
                    go_wp2_with fail
                    go_region_held_law (fun _ => True) (trivial) ((refine step_append_lies _ ?_ (.tmp 60) (.tmp 67) 66 ?_ w.heap.size 5 i0 (.int .u8 0) 1 1 Tryd.underlying66 hi0 hz0 hz1 hz2 rfl (by decide) (.slice (some ⟨g, 0, none⟩) m co) m ((bz T).map (Value.int .u8)) ?_ qow ⟨wr.heap.size, 0, none⟩ 4 4 [Value.int .u8 92, Value.int .u8 120, Value.int .u8 (A : Int), Value.int .u8 (B : Int)] ?_ rfl qne q1 (by decide) q63 qby qba (wr.heap.size + 1) qsz ?_; rfl; rfl; rfl; rfl; intro g1 cp1 w1 hO1 hgr hat hlt))
                    · skip
                      have HZL : Hid ((bz (reprTo 39 s (k + 1))).length = m + 4) := by show _ = _; rw [← HU.out]; exact HLN.out
                      have hO2 : U8.Own w1 w.heap.size (.slice (some ⟨g1, 0, none⟩) (m + 4) cp1) (bz (reprTo 39 s (k + 1))) := by
                        refine ⟨?_, ?_, bz_limbs _⟩
                        · rw [HU2.out] at hO1
                          rw [HZL.out]; exact hO1
                        · rw [HZL.out]; omega
                      have hB2 := ((hBr.alloc hBr.size (Obj.cells #[.int .u8 92, .int .u8 120, .int .u8 (A : Int), .int .u8 (B : Int)] 5)).drew).trans (U8.gb_to hgr (fun j hj => (hOw.lt j hj).1) qba)
                      have HLM := HZL.out
                      rw [bz_length] at HLM
                      clear hO1 hgr hat hlt qba qsz qne qow hOm
                      go_wp2
                      go_roundw
                      case rel => exact ⟨k + 1, g1, _, cp1, reprTo 39 s (k + 1), by omega, rfl, HLM.symm, by go_num, by go_num, hO2, hB2⟩
                      case measure => first | (simp [RowKit.intOf]; done) | (simp [RowKit.intOf]; omega)
                    · skip
                      have HZL : Hid ((bz (reprTo 39 s (k + 1))).length = m + 4) := by show _ = _; rw [← HU.out]; exact HLN.out
                      have hO2 : U8.Own w1 w.heap.size (.slice (some ⟨g1, 0, none⟩) (m + 4) cp1) (bz (reprTo 39 s (k + 1))) := by
                        refine ⟨?_, ?_, bz_limbs _⟩
                        · rw [HU2.out] at hO1
                          rw [HZL.out]; exact hO1
                        · rw [HZL.out]; omega
                      have hB2 := ((hBr.alloc hBr.size (Obj.cells #[.int .u8 92, .int .u8 120, .int .u8 (A : Int), .int .u8 (B : Int)] 5)).drew).trans (U8.gb_to hgr (fun j hj => (hOw.lt j hj).1) qba)
                      have HLM := HZL.out
                      rw [bz_length] at HLM
                      clear hO1 hgr hat hlt qba qsz qne qow hOm
                      go_wp2
                      go_roundw
                      case rel => exact ⟨k + 1, g1, _, cp1, reprTo 39 s (k + 1), by omega, rfl, HLM.symm, by go_num, by go_num, hO2, hB2⟩
                      case measure => first | (simp [RowKit.intOf]; done) | (simp [RowKit.intOf]; omega)
                  · have h127 : X = 127 := by omega
                    subst h127
                    clear h6
                    go_wp2_with fail
                    go_region_held_law (fun _ => True) (trivial) ((refine step_append_lies _ ?_ (.tmp 60) (.tmp 67) 66 ?_ w.heap.size 5 i0 (.int .u8 0) 1 1 Tryd.underlying66 hi0 hz0 hz1 hz2 rfl (by decide) (.slice (some ⟨g, 0, none⟩) m co) m ((bz T).map (Value.int .u8)) ?_ qow ⟨wr.heap.size, 0, none⟩ 4 4 [Value.int .u8 92, Value.int .u8 120, Value.int .u8 (A : Int), Value.int .u8 (B : Int)] ?_ rfl qne q1 (by decide) q63 qby qba (wr.heap.size + 1) qsz ?_; rfl; rfl; rfl; rfl; intro g1 cp1 w1 hO1 hgr hat hlt))
                    · skip
                      have HZL : Hid ((bz (reprTo 39 s (k + 1))).length = m + 4) := by show _ = _; rw [← HU.out]; exact HLN.out
                      have hO2 : U8.Own w1 w.heap.size (.slice (some ⟨g1, 0, none⟩) (m + 4) cp1) (bz (reprTo 39 s (k + 1))) := by
                        refine ⟨?_, ?_, bz_limbs _⟩
                        · rw [HU2.out] at hO1
                          rw [HZL.out]; exact hO1
                        · rw [HZL.out]; omega
                      have hB2 := ((hBr.alloc hBr.size (Obj.cells #[.int .u8 92, .int .u8 120, .int .u8 (A : Int), .int .u8 (B : Int)] 5)).drew).trans (U8.gb_to hgr (fun j hj => (hOw.lt j hj).1) qba)
                      have HLM := HZL.out
                      rw [bz_length] at HLM
                      clear hO1 hgr hat hlt qba qsz qne qow hOm
                      go_wp2
                      go_roundw
                      case rel => exact ⟨k + 1, g1, _, cp1, reprTo 39 s (k + 1), by omega, rfl, HLM.symm, by go_num, by go_num, hO2, hB2⟩
                      case measure => first | (simp [RowKit.intOf]; done) | (simp [RowKit.intOf]; omega)
                    · skip
                      have HZL : Hid ((bz (reprTo 39 s (k + 1))).length = m + 4) := by show _ = _; rw [← HU.out]; exact HLN.out
                      have hO2 : U8.Own w1 w.heap.size (.slice (some ⟨g1, 0, none⟩) (m + 4) cp1) (bz (reprTo 39 s (k + 1))) := by
                        refine ⟨?_, ?_, bz_limbs _⟩
                        · rw [HU2.out] at hO1
                          rw [HZL.out]; exact hO1
                        · rw [HZL.out]; omega
                      have hB2 := ((hBr.alloc hBr.size (Obj.cells #[.int .u8 92, .int .u8 120, .int .u8 (A : Int), .int .u8 (B : Int)] 5)).drew).trans (U8.gb_to hgr (fun j hj => (hOw.lt j hj).1) qba)
                      have HLM := HZL.out
                      rw [bz_length] at HLM
                      clear hO1 hgr hat hlt qba qsz qne qow hOm
                      go_wp2
                      go_roundw
                      case rel => exact ⟨k + 1, g1, _, cp1, reprTo 39 s (k + 1), by omega, rfl, HLM.symm, by go_num, by go_num, hO2, hB2⟩
                      case measure => first | (simp [RowKit.intOf]; done) | (simp [RowKit.intOf]; omega)
                · have g1 : ¬ X < 32 := by omega
                  have g2 : (X == 127) = false := by rw [beq_eq_false_iff_ne]; omega
                  have HU : Hid (bz T ++ [X] = bz (reprTo 39 s (k + 1))) := by rw [HT.out]; exact bz_reprTo 39 s k hi _ (by rw [hx0]; unfold reprN; rw [if_neg (by omega), if_neg (by omega), if_neg (by omega), if_neg (by omega), if_neg (by omega)]; simp [hX])
                  have HLN : Hid ((bz T ++ [X]).length = m + 1) := by show _ = _; rw [List.length_append, HBL.out]; rfl
                  have HL2 : Hid ((bz T).length + ([X] : List Int).length = m + 1) := by show _ = _; rw [HBL.out]; rfl
                  clear hx0 hlx
                  try clear c1
                  try clear c2
                  try clear d0
                  try clear d1
                  try clear d2
                  try clear h6
                  go_wp2_with (at_builtin; refine U8.wpList_append_rd rfl _ _ 66 rfl Tryd.underlying66 w.heap.size _ _ (bz T) [X] rfl rfl (hOw.alloc _) (U8.Rd.one wr wr.heap.size rfl 5 hX0 (by omega)) (by rw [HL2.out]; omega) (by have := hBr.size; simp; omega) ?_; rw [HLN.out]; intro a1 c1 w1 hO1 hB1)
                  have hB2 := (hBr.alloc hBr.size (Obj.cells #[.int .u8 X] 5)).trans hB1
                  obtain ⟨g1, rfl⟩ : ∃ g1, a1 = some ⟨g1, 0, none⟩ := by
                    rcases hO1.shape with ⟨hv, hv2⟩ | ⟨g1, cp, hv, _⟩
                    · exfalso; simp only [Value.slice.injEq] at hv; omega
                    · simp only [Value.slice.injEq] at hv; exact ⟨g1, hv.1⟩
                  have HLM := HLN.out
                  rw [HU.out] at hO1 HLM
                  rw [bz_length] at HLM
                  go_roundw
                  case rel => exact ⟨k + 1, g1, _, c1, reprTo 39 s (k + 1), by omega, rfl, HLM.symm, by go_num, by go_num, hO1, hB2⟩
                  case measure => first | (simp [RowKit.intOf]; done) | (simp [RowKit.intOf]; omega)
    · have hiz : ¬ (k : Int) < (s.size : Int) := by omega
      have hke : k = s.size := by omega
      have HLN : Hid ((bz T ++ [39]).length = m + 1) := by show _ = _; rw [List.length_append, HBL.out]; rfl
      have HL2 : Hid ((bz T).length + ([39] : List Int).length = m + 1) := by show _ = _; rw [HBL.out]; rfl
      have HBQ : Hid (bz T ++ [39] = bz (T ++ [(39 : Nat).toUInt8])) := by show _ = _; unfold bz; rw [List.map_append]; rfl
      have HTT : Hid (T = reprTo 39 s s.size) := by rw [← hke]; exact HT.out
      have HTL : Hid (m + 1 = (T ++ [(39 : Nat).toUInt8]).length) := by
        show _ = _
        have := HBL.out
        rw [bz_length] at this
        rw [List.length_append, this]; rfl
      clear hke HT
      go_wp2_with (at_builtin; refine U8.wpList_append_rd rfl _ _ 66 rfl Tryd.underlying66 w.heap.size _ _ (bz T) [39] rfl rfl (hOw.alloc _) (U8.Rd.one wr wr.heap.size rfl 5 (by omega) (by omega)) (by rw [HL2.out]; omega) (by have := hBr.size; simp; omega) ?_; rw [HLN.out, HBQ.out]; intro a1 c1 w1 hO1 hB1; obtain ⟨g1, rfl⟩ : ∃ g1, a1 = some ⟨g1, 0, none⟩ := (by rcases hO1.shape with ⟨hv, hv2⟩ | ⟨g1, cp, hv, _⟩ <;> simp only [Value.slice.injEq] at hv <;> first | (exfalso; omega) | exact ⟨g1, hv.1⟩); have hcv := bytes_back w1 w.heap.size g1 c1 (T ++ [(39 : Nat).toUInt8]) (m + 1) HTL.out hO1)
      go_ret
      rw [← HTT.out]
      exact ⟨rfl, (hBr.alloc hBr.size _).trans hB1⟩
set_option maxHeartbeats 4000000 in
set_option maxRecDepth 100000 in
theorem reprS_b (s : ByteArray) (w : World) (hs : s.size ≤ 16384)
    (hK : Calls Tryd.prog 41 #[.string s] w fun e w' => e = .returned (.bool true) ∧ Below w.heap.size w w') (h39 : s.data.toList.contains 39 = true) (h34 : s.data.toList.contains 34 = true) :
    Calls Tryd.prog 20 #[.string s] w fun e w' => e = .returned (.string ⟨(reprTo 39 s s.size ++ [(39 : Nat).toUInt8]).toArray⟩) ∧ Below w.heap.size w w' := by
  go_enter Tryd.func20, Tryd.ntmps20
  go_wp2_with fail
  refine hK.mono ?_
  rintro e w0 ⟨rfl, hB0⟩
  clear hK
  go_wp2_with fail
  refine (l3Has_any s 39 39 rfl _ (by omega)).mono ?_
  rw [h39]
  rintro e w0 ⟨rfl, rfl⟩
  go_wp2_with fail
  refine (l3Has_any s 34 34 rfl _ (by omega)).mono ?_
  rw [h34]
  rintro e w0 ⟨rfl, rfl⟩
  try clear h39
  try clear h34
  go_wp2
  go_loopw [4, 5] (fun o i wr => ∃ (k g m co : Nat) (T : List UInt8), k ≤ s.size ∧ T = reprTo 39 s k ∧ m = T.length ∧ i = .int .i64 k ∧ o = .slice (some ⟨g, 0, none⟩) m co ∧ U8.Own wr w.heap.size (.slice (some ⟨g, 0, none⟩) m co) (bz T) ∧ Below w.heap.size w wr) (fun _ i _ => s.size - (RowKit.intOf i).toNat)
  case atStart => exact ⟨0, w0.heap.size, 1, 1, _, by omega, rfl, rfl, rfl, rfl, (U8.Own.lit1 w0 w0.heap.size rfl (x := 39) (by omega) (by omega)).mono hB0.size, hB0.alloc hB0.size _⟩
  case round =>
    obtain ⟨k, g, m, co, T, hk, hT, hm, rfl, rfl, hOw, hBr⟩ := hrel
    have HT : Hid (T = reprTo 39 s k) := hT
    have HBL : Hid ((bz T).length = m) := by show _ = _; rw [bz_length, hm]
    have hrl : m ≤ 65537 := by rw [hm, hT]; have := reprTo_len 39 s k; omega
    clear hT hm
    by_cases hi : k < s.size
    · skip
      have hiz : (k : Int) < (s.size : Int) := by omega
      obtain ⟨x0, hx0⟩ : ∃ x0, s.get! k = x0 := ⟨_, rfl⟩
      have hs0 : s[k]'(by omega) = x0 := (get_at s k (by omega)).trans hx0
      have hlx : x0.toNat < 256 := x0.toNat_lt
      obtain ⟨X, hX⟩ : ∃ X : Int, (x0.toNat : Int) = X := ⟨_, rfl⟩
      have hX0 : 0 ≤ X := by omega
      have hX1 : X < 256 := by omega
      have hwk := wrap64_id (a := (k : Int) + 1) (by omega) (by omega)
      by_cases c1 : X = 39
      · subst c1
        have HU : Hid (bz T ++ [92, 39] = bz (reprTo 39 s (k + 1))) := by rw [HT.out]; exact bz_reprTo 39 s k hi _ (by rw [hx0]; unfold reprN; rw [if_pos (by omega)]; simp only [List.map_cons, List.map_nil, hX]; rfl)
        have HLN : Hid ((bz T ++ [92, 39]).length = m + 2) := by show _ = _; rw [List.length_append, HBL.out]; rfl
        have HL2 : Hid ((bz T).length + ([92, 39] : List Int).length = m + 2) := by show _ = _; rw [HBL.out]; rfl
        clear hx0 hlx
        try clear c1
        try clear c2
        try clear d0
        try clear d1
        try clear d2
        try clear h6
        go_wp2_with (at_builtin; refine U8.wpList_append_rd rfl _ _ 66 rfl Tryd.underlying66 w.heap.size _ _ (bz T) [92, 39] rfl rfl (hOw.alloc _) (U8.Rd.two wr wr.heap.size rfl (by omega) (by omega) (by omega) (by omega)) (by rw [HL2.out]; omega) (by have := hBr.size; simp; omega) ?_; rw [HLN.out]; intro a1 c1 w1 hO1 hB1)
        have hB2 := (hBr.alloc hBr.size (Obj.cells #[.int .u8 92, .int .u8 39] 5)).trans hB1
        obtain ⟨g1, rfl⟩ : ∃ g1, a1 = some ⟨g1, 0, none⟩ := by
          rcases hO1.shape with ⟨hv, hv2⟩ | ⟨g1, cp, hv, _⟩
          · exfalso; simp only [Value.slice.injEq] at hv; omega
          · simp only [Value.slice.injEq] at hv; exact ⟨g1, hv.1⟩
        have HLM := HLN.out
        rw [HU.out] at hO1 HLM
        rw [bz_length] at HLM
        go_roundw
        case rel => exact ⟨k + 1, g1, _, c1, reprTo 39 s (k + 1), by omega, rfl, HLM.symm, by go_num, by go_num, hO1, hB2⟩
        case measure => first | (simp [RowKit.intOf]; done) | (simp [RowKit.intOf]; omega)
      · have e1 : (X == 39) = false := by rw [beq_eq_false_iff_ne]; exact c1
        by_cases c2 : X = 92
        · subst c2
          have HU : Hid (bz T ++ [92, 92] = bz (reprTo 39 s (k + 1))) := by rw [HT.out]; exact bz_reprTo 39 s k hi _ (by rw [hx0]; unfold reprN; rw [if_pos (by omega)]; simp only [List.map_cons, List.map_nil, hX]; rfl)
          have HLN : Hid ((bz T ++ [92, 92]).length = m + 2) := by show _ = _; rw [List.length_append, HBL.out]; rfl
          have HL2 : Hid ((bz T).length + ([92, 92] : List Int).length = m + 2) := by show _ = _; rw [HBL.out]; rfl
          clear hx0 hlx
          try clear c1
          try clear c2
          try clear d0
          try clear d1
          try clear d2
          try clear h6
          go_wp2_with (at_builtin; refine U8.wpList_append_rd rfl _ _ 66 rfl Tryd.underlying66 w.heap.size _ _ (bz T) [92, 92] rfl rfl (hOw.alloc _) (U8.Rd.two wr wr.heap.size rfl (by omega) (by omega) (by omega) (by omega)) (by rw [HL2.out]; omega) (by have := hBr.size; simp; omega) ?_; rw [HLN.out]; intro a1 c1 w1 hO1 hB1)
          have hB2 := (hBr.alloc hBr.size (Obj.cells #[.int .u8 92, .int .u8 92] 5)).trans hB1
          obtain ⟨g1, rfl⟩ : ∃ g1, a1 = some ⟨g1, 0, none⟩ := by
            rcases hO1.shape with ⟨hv, hv2⟩ | ⟨g1, cp, hv, _⟩
            · exfalso; simp only [Value.slice.injEq] at hv; omega
            · simp only [Value.slice.injEq] at hv; exact ⟨g1, hv.1⟩
          have HLM := HLN.out
          rw [HU.out] at hO1 HLM
          rw [bz_length] at HLM
          go_roundw
          case rel => exact ⟨k + 1, g1, _, c1, reprTo 39 s (k + 1), by omega, rfl, HLM.symm, by go_num, by go_num, hO1, hB2⟩
          case measure => first | (simp [RowKit.intOf]; done) | (simp [RowKit.intOf]; omega)
        · have e2 : (X == 92) = false := by rw [beq_eq_false_iff_ne]; exact c2
          by_cases d0 : X = 10
          · subst d0
            have HU : Hid (bz T ++ [92, 110] = bz (reprTo 39 s (k + 1))) := by rw [HT.out]; exact bz_reprTo 39 s k hi _ (by rw [hx0]; unfold reprN; rw [if_neg (by omega), if_pos (by omega)]; rfl)
            have HLN : Hid ((bz T ++ [92, 110]).length = m + 2) := by show _ = _; rw [List.length_append, HBL.out]; rfl
            have HL2 : Hid ((bz T).length + ([92, 110] : List Int).length = m + 2) := by show _ = _; rw [HBL.out]; rfl
            clear hx0 hlx
            try clear c1
            try clear c2
            try clear d0
            try clear d1
            try clear d2
            try clear h6
            go_wp2_with (at_builtin; refine U8.wpList_append_rd rfl _ _ 66 rfl Tryd.underlying66 w.heap.size _ _ (bz T) [92, 110] rfl rfl (hOw.alloc _) (U8.Rd.two wr wr.heap.size rfl (by omega) (by omega) (by omega) (by omega)) (by rw [HL2.out]; omega) (by have := hBr.size; simp; omega) ?_; rw [HLN.out]; intro a1 c1 w1 hO1 hB1)
            have hB2 := (hBr.alloc hBr.size (Obj.cells #[.int .u8 92, .int .u8 110] 5)).trans hB1
            obtain ⟨g1, rfl⟩ : ∃ g1, a1 = some ⟨g1, 0, none⟩ := by
              rcases hO1.shape with ⟨hv, hv2⟩ | ⟨g1, cp, hv, _⟩
              · exfalso; simp only [Value.slice.injEq] at hv; omega
              · simp only [Value.slice.injEq] at hv; exact ⟨g1, hv.1⟩
            have HLM := HLN.out
            rw [HU.out] at hO1 HLM
            rw [bz_length] at HLM
            go_roundw
            case rel => exact ⟨k + 1, g1, _, c1, reprTo 39 s (k + 1), by omega, rfl, HLM.symm, by go_num, by go_num, hO1, hB2⟩
            case measure => first | (simp [RowKit.intOf]; done) | (simp [RowKit.intOf]; omega)
          · have f0 : (X == 10) = false := by rw [beq_eq_false_iff_ne]; exact d0
            by_cases d1 : X = 9
            · subst d1
              have HU : Hid (bz T ++ [92, 116] = bz (reprTo 39 s (k + 1))) := by rw [HT.out]; exact bz_reprTo 39 s k hi _ (by rw [hx0]; unfold reprN; rw [if_neg (by omega), if_neg (by omega), if_pos (by omega)]; rfl)
              have HLN : Hid ((bz T ++ [92, 116]).length = m + 2) := by show _ = _; rw [List.length_append, HBL.out]; rfl
              have HL2 : Hid ((bz T).length + ([92, 116] : List Int).length = m + 2) := by show _ = _; rw [HBL.out]; rfl
              clear hx0 hlx
              try clear c1
              try clear c2
              try clear d0
              try clear d1
              try clear d2
              try clear h6
              go_wp2_with (at_builtin; refine U8.wpList_append_rd rfl _ _ 66 rfl Tryd.underlying66 w.heap.size _ _ (bz T) [92, 116] rfl rfl (hOw.alloc _) (U8.Rd.two wr wr.heap.size rfl (by omega) (by omega) (by omega) (by omega)) (by rw [HL2.out]; omega) (by have := hBr.size; simp; omega) ?_; rw [HLN.out]; intro a1 c1 w1 hO1 hB1)
              have hB2 := (hBr.alloc hBr.size (Obj.cells #[.int .u8 92, .int .u8 116] 5)).trans hB1
              obtain ⟨g1, rfl⟩ : ∃ g1, a1 = some ⟨g1, 0, none⟩ := by
                rcases hO1.shape with ⟨hv, hv2⟩ | ⟨g1, cp, hv, _⟩
                · exfalso; simp only [Value.slice.injEq] at hv; omega
                · simp only [Value.slice.injEq] at hv; exact ⟨g1, hv.1⟩
              have HLM := HLN.out
              rw [HU.out] at hO1 HLM
              rw [bz_length] at HLM
              go_roundw
              case rel => exact ⟨k + 1, g1, _, c1, reprTo 39 s (k + 1), by omega, rfl, HLM.symm, by go_num, by go_num, hO1, hB2⟩
              case measure => first | (simp [RowKit.intOf]; done) | (simp [RowKit.intOf]; omega)
            · have f1 : (X == 9) = false := by rw [beq_eq_false_iff_ne]; exact d1
              by_cases d2 : X = 13
              · subst d2
                have HU : Hid (bz T ++ [92, 114] = bz (reprTo 39 s (k + 1))) := by rw [HT.out]; exact bz_reprTo 39 s k hi _ (by rw [hx0]; unfold reprN; rw [if_neg (by omega), if_neg (by omega), if_neg (by omega), if_pos (by omega)]; rfl)
                have HLN : Hid ((bz T ++ [92, 114]).length = m + 2) := by show _ = _; rw [List.length_append, HBL.out]; rfl
                have HL2 : Hid ((bz T).length + ([92, 114] : List Int).length = m + 2) := by show _ = _; rw [HBL.out]; rfl
                clear hx0 hlx
                try clear c1
                try clear c2
                try clear d0
                try clear d1
                try clear d2
                try clear h6
                go_wp2_with (at_builtin; refine U8.wpList_append_rd rfl _ _ 66 rfl Tryd.underlying66 w.heap.size _ _ (bz T) [92, 114] rfl rfl (hOw.alloc _) (U8.Rd.two wr wr.heap.size rfl (by omega) (by omega) (by omega) (by omega)) (by rw [HL2.out]; omega) (by have := hBr.size; simp; omega) ?_; rw [HLN.out]; intro a1 c1 w1 hO1 hB1)
                have hB2 := (hBr.alloc hBr.size (Obj.cells #[.int .u8 92, .int .u8 114] 5)).trans hB1
                obtain ⟨g1, rfl⟩ : ∃ g1, a1 = some ⟨g1, 0, none⟩ := by
                  rcases hO1.shape with ⟨hv, hv2⟩ | ⟨g1, cp, hv, _⟩
                  · exfalso; simp only [Value.slice.injEq] at hv; omega
                  · simp only [Value.slice.injEq] at hv; exact ⟨g1, hv.1⟩
                have HLM := HLN.out
                rw [HU.out] at hO1 HLM
                rw [bz_length] at HLM
                go_roundw
                case rel => exact ⟨k + 1, g1, _, c1, reprTo 39 s (k + 1), by omega, rfl, HLM.symm, by go_num, by go_num, hO1, hB2⟩
                case measure => first | (simp [RowKit.intOf]; done) | (simp [RowKit.intOf]; omega)
              · have f2 : (X == 13) = false := by rw [beq_eq_false_iff_ne]; exact d2
                by_cases h6 : X < 32 ∨ X = 127
                · skip
                  obtain ⟨A, hA⟩ : ∃ A : Nat, hexN (x0.toNat / 16) = A := ⟨_, rfl⟩
                  obtain ⟨B, hB⟩ : ∃ B : Nat, hexN (x0.toNat % 16) = B := ⟨_, rfl⟩
                  have hA1 : A < 256 := by rw [← hA]; unfold hexN; split <;> omega
                  have hB1' : B < 256 := by rw [← hB]; unfold hexN; split <;> omega
                  have HU : Hid (bz T ++ [92, 120, (A : Int), (B : Int)] = bz (reprTo 39 s (k + 1))) := by rw [HT.out]; exact bz_reprTo 39 s k hi _ (by rw [hx0]; unfold reprN; rw [if_neg (by omega), if_neg (by omega), if_neg (by omega), if_neg (by omega), if_pos (by omega), hA, hB]; rfl)
                  have HLN : Hid ((bz T ++ [92, 120, (A : Int), (B : Int)]).length = m + 4) := by show _ = _; rw [List.length_append, HBL.out]; rfl
                  have HL2 : Hid ((bz T).length + ([92, 120, (A : Int), (B : Int)] : List Int).length = m + 4) := by show _ = _; rw [HBL.out]; rfl
                  obtain ⟨n1, hn1⟩ : ∃ n1 : Nat, x0.toNat / 16 = n1 := ⟨_, rfl⟩
                  obtain ⟨n2, hn2⟩ : ∃ n2 : Nat, x0.toNat % 16 = n2 := ⟨_, rfl⟩
                  have hn1b : n1 < 16 := by omega
                  have hn2b : n2 < 16 := by omega
                  have hsA := hex_at n1 hn1b
                  have hsB := hex_at n2 hn2b
                  rw [hn1] at hA
                  rw [hn2] at hB
                  rw [hA] at hsA
                  rw [hB] at hsB
                  have hvA : ((A.toUInt8.toNat : Nat) : Int) = (A : Int) := by rw [byte_nat hA1]
                  have hvB : ((B.toUInt8.toNat : Nat) : Int) = (B : Int) := by rw [byte_nat hB1']
                  have hq : X / 16 = (n1 : Int) := by omega
                  have hand := u8_and15 x0.toNat hlx
                  rw [hn2, hX] at hand
                  have i1 : (n1 : Int) < 16 := by omega
                  have i2 : (n2 : Int) < 16 := by omega
                  clear hn1 hn2 hA hB hx0 hlx c1 c2 d0 d1 d2
                  obtain ⟨i0, hi0, hz0, hz1, hz2⟩ := info_parts U8.Tryd.info5
                  have hOm : wr.ownsRow w.heap.size 5 1 (.slice (some ⟨g, 0, none⟩) m co) m ((bz T).map (Value.int .u8)) := by
                    have h := hOw.1
                    rw [HBL.out] at h
                    exact h
                  have hlb := hOw.2.2
                  have HU2 : Hid ((bz T).map (Value.int .u8) ++ [Value.int .u8 92, Value.int .u8 120, Value.int .u8 (A : Int), Value.int .u8 (B : Int)] = (bz (reprTo 39 s (k + 1))).map (Value.int .u8)) := by
                    show _ = _
                    rw [← HU.out, List.map_append]; rfl
                  have hz9 := hBr.size
                  have hA256 : (A : Int) % 256 = (A : Int) := by omega
                  have hB256 : (B : Int) % 256 = (B : Int) := by omega
                  have q63 : m + 4 ≤ maxLen := by unfold maxLen; omega
                  have qby : (m + 4) * 1 ≤ 140737488355328 := by omega
                  have qba : w.heap.size ≤ (wr.alloc (Obj.cells #[.int .u8 92, .int .u8 120, .int .u8 (A : Int), .int .u8 (B : Int)] 5)).drew.heap.size := by simp; omega
                  have qsz : (wr.alloc (Obj.cells #[.int .u8 92, .int .u8 120, .int .u8 (A : Int), .int .u8 (B : Int)] 5)).drew.heap.size = wr.heap.size + 1 := by simp
                  have q1 : ∀ u ∈ [Value.int .u8 92, Value.int .u8 120, Value.int .u8 (A : Int), Value.int .u8 (B : Int)], u.oneCell' = true := by
                    intro u hu
                    simp only [List.mem_cons, List.not_mem_nil, or_false] at hu
                    rcases hu with rfl | rfl | rfl | rfl <;> rfl
                  have qne : ∀ j u, [Value.int .u8 92, Value.int .u8 120, Value.int .u8 (A : Int), Value.int .u8 (B : Int)][j]? = some u → (wr.alloc (Obj.cells #[.int .u8 92, .int .u8 120, .int .u8 (A : Int), .int .u8 (B : Int)] 5)).drew.cell? ((⟨wr.heap.size, 0, none⟩ : Addr).add j) = some u := by
                    intro j u hu
                    rw [add_at, show (wr.alloc (Obj.cells #[.int .u8 92, .int .u8 120, .int .u8 (A : Int), .int .u8 (B : Int)] 5)).drew.cell? ⟨wr.heap.size, j, none⟩ = (wr.alloc (Obj.cells #[.int .u8 92, .int .u8 120, .int .u8 (A : Int), .int .u8 (B : Int)] 5)).cell? ⟨wr.heap.size, j, none⟩ from rfl, World.cell?_alloc_at (w := wr) _ _ wr.heap.size j rfl]
                    simpa using hu
                  have qow := (hOm.alloc (Obj.cells #[.int .u8 92, .int .u8 120, .int .u8 (A : Int), .int .u8 (B : Int)] 5)).drew
                  have hsg := hOw.lt g rfl
                  by_cases h7 : X < 32
                  · clear h6
                    go_wp2_with fail
                    go_region_held_law (fun _ => True) (trivial) ((refine step_append_lies _ ?_ (.tmp 60) (.tmp 67) 66 ?_ w.heap.size 5 i0 (.int .u8 0) 1 1 Tryd.underlying66 hi0 hz0 hz1 hz2 rfl (by decide) (.slice (some ⟨g, 0, none⟩) m co) m ((bz T).map (Value.int .u8)) ?_ qow ⟨wr.heap.size, 0, none⟩ 4 4 [Value.int .u8 92, Value.int .u8 120, Value.int .u8 (A : Int), Value.int .u8 (B : Int)] ?_ rfl qne q1 (by decide) q63 qby qba (wr.heap.size + 1) qsz ?_; rfl; rfl; rfl; rfl; intro g1 cp1 w1 hO1 hgr hat hlt))
                    · skip
                      have HZL : Hid ((bz (reprTo 39 s (k + 1))).length = m + 4) := by show _ = _; rw [← HU.out]; exact HLN.out
                      have hO2 : U8.Own w1 w.heap.size (.slice (some ⟨g1, 0, none⟩) (m + 4) cp1) (bz (reprTo 39 s (k + 1))) := by
                        refine ⟨?_, ?_, bz_limbs _⟩
                        · rw [HU2.out] at hO1
                          rw [HZL.out]; exact hO1
                        · rw [HZL.out]; omega
                      have hB2 := ((hBr.alloc hBr.size (Obj.cells #[.int .u8 92, .int .u8 120, .int .u8 (A : Int), .int .u8 (B : Int)] 5)).drew).trans (U8.gb_to hgr (fun j hj => (hOw.lt j hj).1) qba)
                      have HLM := HZL.out
                      rw [bz_length] at HLM
                      clear hO1 hgr hat hlt qba qsz qne qow hOm
                      go_wp2
                      go_roundw
                      case rel => exact ⟨k + 1, g1, _, cp1, reprTo 39 s (k + 1), by omega, rfl, HLM.symm, by go_num, by go_num, hO2, hB2⟩
                      case measure => first | (simp [RowKit.intOf]; done) | (simp [RowKit.intOf]; omega)
                    · skip
                      have HZL : Hid ((bz (reprTo 39 s (k + 1))).length = m + 4) := by show _ = _; rw [← HU.out]; exact HLN.out
                      have hO2 : U8.Own w1 w.heap.size (.slice (some ⟨g1, 0, none⟩) (m + 4) cp1) (bz (reprTo 39 s (k + 1))) := by
                        refine ⟨?_, ?_, bz_limbs _⟩
                        · rw [HU2.out] at hO1
                          rw [HZL.out]; exact hO1
                        · rw [HZL.out]; omega
                      have hB2 := ((hBr.alloc hBr.size (Obj.cells #[.int .u8 92, .int .u8 120, .int .u8 (A : Int), .int .u8 (B : Int)] 5)).drew).trans (U8.gb_to hgr (fun j hj => (hOw.lt j hj).1) qba)
                      have HLM := HZL.out
                      rw [bz_length] at HLM
                      clear hO1 hgr hat hlt qba qsz qne qow hOm
                      go_wp2
                      go_roundw
                      case rel => exact ⟨k + 1, g1, _, cp1, reprTo 39 s (k + 1), by omega, rfl, HLM.symm, by go_num, by go_num, hO2, hB2⟩
                      case measure => first | (simp [RowKit.intOf]; done) | (simp [RowKit.intOf]; omega)
                  · have h127 : X = 127 := by omega
                    subst h127
                    clear h6
                    go_wp2_with fail
                    go_region_held_law (fun _ => True) (trivial) ((refine step_append_lies _ ?_ (.tmp 60) (.tmp 67) 66 ?_ w.heap.size 5 i0 (.int .u8 0) 1 1 Tryd.underlying66 hi0 hz0 hz1 hz2 rfl (by decide) (.slice (some ⟨g, 0, none⟩) m co) m ((bz T).map (Value.int .u8)) ?_ qow ⟨wr.heap.size, 0, none⟩ 4 4 [Value.int .u8 92, Value.int .u8 120, Value.int .u8 (A : Int), Value.int .u8 (B : Int)] ?_ rfl qne q1 (by decide) q63 qby qba (wr.heap.size + 1) qsz ?_; rfl; rfl; rfl; rfl; intro g1 cp1 w1 hO1 hgr hat hlt))
                    · skip
                      have HZL : Hid ((bz (reprTo 39 s (k + 1))).length = m + 4) := by show _ = _; rw [← HU.out]; exact HLN.out
                      have hO2 : U8.Own w1 w.heap.size (.slice (some ⟨g1, 0, none⟩) (m + 4) cp1) (bz (reprTo 39 s (k + 1))) := by
                        refine ⟨?_, ?_, bz_limbs _⟩
                        · rw [HU2.out] at hO1
                          rw [HZL.out]; exact hO1
                        · rw [HZL.out]; omega
                      have hB2 := ((hBr.alloc hBr.size (Obj.cells #[.int .u8 92, .int .u8 120, .int .u8 (A : Int), .int .u8 (B : Int)] 5)).drew).trans (U8.gb_to hgr (fun j hj => (hOw.lt j hj).1) qba)
                      have HLM := HZL.out
                      rw [bz_length] at HLM
                      clear hO1 hgr hat hlt qba qsz qne qow hOm
                      go_wp2
                      go_roundw
                      case rel => exact ⟨k + 1, g1, _, cp1, reprTo 39 s (k + 1), by omega, rfl, HLM.symm, by go_num, by go_num, hO2, hB2⟩
                      case measure => first | (simp [RowKit.intOf]; done) | (simp [RowKit.intOf]; omega)
                    · skip
                      have HZL : Hid ((bz (reprTo 39 s (k + 1))).length = m + 4) := by show _ = _; rw [← HU.out]; exact HLN.out
                      have hO2 : U8.Own w1 w.heap.size (.slice (some ⟨g1, 0, none⟩) (m + 4) cp1) (bz (reprTo 39 s (k + 1))) := by
                        refine ⟨?_, ?_, bz_limbs _⟩
                        · rw [HU2.out] at hO1
                          rw [HZL.out]; exact hO1
                        · rw [HZL.out]; omega
                      have hB2 := ((hBr.alloc hBr.size (Obj.cells #[.int .u8 92, .int .u8 120, .int .u8 (A : Int), .int .u8 (B : Int)] 5)).drew).trans (U8.gb_to hgr (fun j hj => (hOw.lt j hj).1) qba)
                      have HLM := HZL.out
                      rw [bz_length] at HLM
                      clear hO1 hgr hat hlt qba qsz qne qow hOm
                      go_wp2
                      go_roundw
                      case rel => exact ⟨k + 1, g1, _, cp1, reprTo 39 s (k + 1), by omega, rfl, HLM.symm, by go_num, by go_num, hO2, hB2⟩
                      case measure => first | (simp [RowKit.intOf]; done) | (simp [RowKit.intOf]; omega)
                · have g1 : ¬ X < 32 := by omega
                  have g2 : (X == 127) = false := by rw [beq_eq_false_iff_ne]; omega
                  have HU : Hid (bz T ++ [X] = bz (reprTo 39 s (k + 1))) := by rw [HT.out]; exact bz_reprTo 39 s k hi _ (by rw [hx0]; unfold reprN; rw [if_neg (by omega), if_neg (by omega), if_neg (by omega), if_neg (by omega), if_neg (by omega)]; simp [hX])
                  have HLN : Hid ((bz T ++ [X]).length = m + 1) := by show _ = _; rw [List.length_append, HBL.out]; rfl
                  have HL2 : Hid ((bz T).length + ([X] : List Int).length = m + 1) := by show _ = _; rw [HBL.out]; rfl
                  clear hx0 hlx
                  try clear c1
                  try clear c2
                  try clear d0
                  try clear d1
                  try clear d2
                  try clear h6
                  go_wp2_with (at_builtin; refine U8.wpList_append_rd rfl _ _ 66 rfl Tryd.underlying66 w.heap.size _ _ (bz T) [X] rfl rfl (hOw.alloc _) (U8.Rd.one wr wr.heap.size rfl 5 hX0 (by omega)) (by rw [HL2.out]; omega) (by have := hBr.size; simp; omega) ?_; rw [HLN.out]; intro a1 c1 w1 hO1 hB1)
                  have hB2 := (hBr.alloc hBr.size (Obj.cells #[.int .u8 X] 5)).trans hB1
                  obtain ⟨g1, rfl⟩ : ∃ g1, a1 = some ⟨g1, 0, none⟩ := by
                    rcases hO1.shape with ⟨hv, hv2⟩ | ⟨g1, cp, hv, _⟩
                    · exfalso; simp only [Value.slice.injEq] at hv; omega
                    · simp only [Value.slice.injEq] at hv; exact ⟨g1, hv.1⟩
                  have HLM := HLN.out
                  rw [HU.out] at hO1 HLM
                  rw [bz_length] at HLM
                  go_roundw
                  case rel => exact ⟨k + 1, g1, _, c1, reprTo 39 s (k + 1), by omega, rfl, HLM.symm, by go_num, by go_num, hO1, hB2⟩
                  case measure => first | (simp [RowKit.intOf]; done) | (simp [RowKit.intOf]; omega)
    · have hiz : ¬ (k : Int) < (s.size : Int) := by omega
      have hke : k = s.size := by omega
      have HLN : Hid ((bz T ++ [39]).length = m + 1) := by show _ = _; rw [List.length_append, HBL.out]; rfl
      have HL2 : Hid ((bz T).length + ([39] : List Int).length = m + 1) := by show _ = _; rw [HBL.out]; rfl
      have HBQ : Hid (bz T ++ [39] = bz (T ++ [(39 : Nat).toUInt8])) := by show _ = _; unfold bz; rw [List.map_append]; rfl
      have HTT : Hid (T = reprTo 39 s s.size) := by rw [← hke]; exact HT.out
      have HTL : Hid (m + 1 = (T ++ [(39 : Nat).toUInt8]).length) := by
        show _ = _
        have := HBL.out
        rw [bz_length] at this
        rw [List.length_append, this]; rfl
      clear hke HT
      go_wp2_with (at_builtin; refine U8.wpList_append_rd rfl _ _ 66 rfl Tryd.underlying66 w.heap.size _ _ (bz T) [39] rfl rfl (hOw.alloc _) (U8.Rd.one wr wr.heap.size rfl 5 (by omega) (by omega)) (by rw [HL2.out]; omega) (by have := hBr.size; simp; omega) ?_; rw [HLN.out, HBQ.out]; intro a1 c1 w1 hO1 hB1; obtain ⟨g1, rfl⟩ : ∃ g1, a1 = some ⟨g1, 0, none⟩ := (by rcases hO1.shape with ⟨hv, hv2⟩ | ⟨g1, cp, hv, _⟩ <;> simp only [Value.slice.injEq] at hv <;> first | (exfalso; omega) | exact ⟨g1, hv.1⟩); have hcv := bytes_back w1 w.heap.size g1 c1 (T ++ [(39 : Nat).toUInt8]) (m + 1) HTL.out hO1)
      go_ret
      rw [← HTT.out]
      exact ⟨rfl, (hBr.alloc hBr.size _).trans hB1⟩
set_option maxHeartbeats 4000000 in
set_option maxRecDepth 100000 in
theorem reprS_c (s : ByteArray) (w : World) (hs : s.size ≤ 16384)
    (hK : Calls Tryd.prog 41 #[.string s] w fun e w' => e = .returned (.bool true) ∧ Below w.heap.size w w') (h39 : s.data.toList.contains 39 = true) (h34 : s.data.toList.contains 34 = false) :
    Calls Tryd.prog 20 #[.string s] w fun e w' => e = .returned (.string ⟨(reprTo 34 s s.size ++ [(34 : Nat).toUInt8]).toArray⟩) ∧ Below w.heap.size w w' := by
  go_enter Tryd.func20, Tryd.ntmps20
  go_wp2_with fail
  refine hK.mono ?_
  rintro e w0 ⟨rfl, hB0⟩
  clear hK
  go_wp2_with fail
  refine (l3Has_any s 39 39 rfl _ (by omega)).mono ?_
  rw [h39]
  rintro e w0 ⟨rfl, rfl⟩
  go_wp2_with fail
  refine (l3Has_any s 34 34 rfl _ (by omega)).mono ?_
  rw [h34]
  rintro e w0 ⟨rfl, rfl⟩
  try clear h39
  try clear h34
  go_wp2
  go_loopw [4, 5] (fun o i wr => ∃ (k g m co : Nat) (T : List UInt8), k ≤ s.size ∧ T = reprTo 34 s k ∧ m = T.length ∧ i = .int .i64 k ∧ o = .slice (some ⟨g, 0, none⟩) m co ∧ U8.Own wr w.heap.size (.slice (some ⟨g, 0, none⟩) m co) (bz T) ∧ Below w.heap.size w wr) (fun _ i _ => s.size - (RowKit.intOf i).toNat)
  case atStart => exact ⟨0, w0.heap.size, 1, 1, _, by omega, rfl, rfl, rfl, rfl, (U8.Own.lit1 w0 w0.heap.size rfl (x := 34) (by omega) (by omega)).mono hB0.size, hB0.alloc hB0.size _⟩
  case round =>
    obtain ⟨k, g, m, co, T, hk, hT, hm, rfl, rfl, hOw, hBr⟩ := hrel
    have HT : Hid (T = reprTo 34 s k) := hT
    have HBL : Hid ((bz T).length = m) := by show _ = _; rw [bz_length, hm]
    have hrl : m ≤ 65537 := by rw [hm, hT]; have := reprTo_len 34 s k; omega
    clear hT hm
    by_cases hi : k < s.size
    · skip
      have hiz : (k : Int) < (s.size : Int) := by omega
      obtain ⟨x0, hx0⟩ : ∃ x0, s.get! k = x0 := ⟨_, rfl⟩
      have hs0 : s[k]'(by omega) = x0 := (get_at s k (by omega)).trans hx0
      have hlx : x0.toNat < 256 := x0.toNat_lt
      obtain ⟨X, hX⟩ : ∃ X : Int, (x0.toNat : Int) = X := ⟨_, rfl⟩
      have hX0 : 0 ≤ X := by omega
      have hX1 : X < 256 := by omega
      have hwk := wrap64_id (a := (k : Int) + 1) (by omega) (by omega)
      by_cases c1 : X = 34
      · subst c1
        have HU : Hid (bz T ++ [92, 34] = bz (reprTo 34 s (k + 1))) := by rw [HT.out]; exact bz_reprTo 34 s k hi _ (by rw [hx0]; unfold reprN; rw [if_pos (by omega)]; simp only [List.map_cons, List.map_nil, hX]; rfl)
        have HLN : Hid ((bz T ++ [92, 34]).length = m + 2) := by show _ = _; rw [List.length_append, HBL.out]; rfl
        have HL2 : Hid ((bz T).length + ([92, 34] : List Int).length = m + 2) := by show _ = _; rw [HBL.out]; rfl
        clear hx0 hlx
        try clear c1
        try clear c2
        try clear d0
        try clear d1
        try clear d2
        try clear h6
        go_wp2_with (at_builtin; refine U8.wpList_append_rd rfl _ _ 66 rfl Tryd.underlying66 w.heap.size _ _ (bz T) [92, 34] rfl rfl (hOw.alloc _) (U8.Rd.two wr wr.heap.size rfl (by omega) (by omega) (by omega) (by omega)) (by rw [HL2.out]; omega) (by have := hBr.size; simp; omega) ?_; rw [HLN.out]; intro a1 c1 w1 hO1 hB1)
        have hB2 := (hBr.alloc hBr.size (Obj.cells #[.int .u8 92, .int .u8 34] 5)).trans hB1
        obtain ⟨g1, rfl⟩ : ∃ g1, a1 = some ⟨g1, 0, none⟩ := by
          rcases hO1.shape with ⟨hv, hv2⟩ | ⟨g1, cp, hv, _⟩
          · exfalso; simp only [Value.slice.injEq] at hv; omega
          · simp only [Value.slice.injEq] at hv; exact ⟨g1, hv.1⟩
        have HLM := HLN.out
        rw [HU.out] at hO1 HLM
        rw [bz_length] at HLM
        go_roundw
        case rel => exact ⟨k + 1, g1, _, c1, reprTo 34 s (k + 1), by omega, rfl, HLM.symm, by go_num, by go_num, hO1, hB2⟩
        case measure => first | (simp [RowKit.intOf]; done) | (simp [RowKit.intOf]; omega)
      · have e1 : (X == 34) = false := by rw [beq_eq_false_iff_ne]; exact c1
        by_cases c2 : X = 92
        · subst c2
          have HU : Hid (bz T ++ [92, 92] = bz (reprTo 34 s (k + 1))) := by rw [HT.out]; exact bz_reprTo 34 s k hi _ (by rw [hx0]; unfold reprN; rw [if_pos (by omega)]; simp only [List.map_cons, List.map_nil, hX]; rfl)
          have HLN : Hid ((bz T ++ [92, 92]).length = m + 2) := by show _ = _; rw [List.length_append, HBL.out]; rfl
          have HL2 : Hid ((bz T).length + ([92, 92] : List Int).length = m + 2) := by show _ = _; rw [HBL.out]; rfl
          clear hx0 hlx
          try clear c1
          try clear c2
          try clear d0
          try clear d1
          try clear d2
          try clear h6
          go_wp2_with (at_builtin; refine U8.wpList_append_rd rfl _ _ 66 rfl Tryd.underlying66 w.heap.size _ _ (bz T) [92, 92] rfl rfl (hOw.alloc _) (U8.Rd.two wr wr.heap.size rfl (by omega) (by omega) (by omega) (by omega)) (by rw [HL2.out]; omega) (by have := hBr.size; simp; omega) ?_; rw [HLN.out]; intro a1 c1 w1 hO1 hB1)
          have hB2 := (hBr.alloc hBr.size (Obj.cells #[.int .u8 92, .int .u8 92] 5)).trans hB1
          obtain ⟨g1, rfl⟩ : ∃ g1, a1 = some ⟨g1, 0, none⟩ := by
            rcases hO1.shape with ⟨hv, hv2⟩ | ⟨g1, cp, hv, _⟩
            · exfalso; simp only [Value.slice.injEq] at hv; omega
            · simp only [Value.slice.injEq] at hv; exact ⟨g1, hv.1⟩
          have HLM := HLN.out
          rw [HU.out] at hO1 HLM
          rw [bz_length] at HLM
          go_roundw
          case rel => exact ⟨k + 1, g1, _, c1, reprTo 34 s (k + 1), by omega, rfl, HLM.symm, by go_num, by go_num, hO1, hB2⟩
          case measure => first | (simp [RowKit.intOf]; done) | (simp [RowKit.intOf]; omega)
        · have e2 : (X == 92) = false := by rw [beq_eq_false_iff_ne]; exact c2
          by_cases d0 : X = 10
          · subst d0
            have HU : Hid (bz T ++ [92, 110] = bz (reprTo 34 s (k + 1))) := by rw [HT.out]; exact bz_reprTo 34 s k hi _ (by rw [hx0]; unfold reprN; rw [if_neg (by omega), if_pos (by omega)]; rfl)
            have HLN : Hid ((bz T ++ [92, 110]).length = m + 2) := by show _ = _; rw [List.length_append, HBL.out]; rfl
            have HL2 : Hid ((bz T).length + ([92, 110] : List Int).length = m + 2) := by show _ = _; rw [HBL.out]; rfl
            clear hx0 hlx
            try clear c1
            try clear c2
            try clear d0
            try clear d1
            try clear d2
            try clear h6
            go_wp2_with (at_builtin; refine U8.wpList_append_rd rfl _ _ 66 rfl Tryd.underlying66 w.heap.size _ _ (bz T) [92, 110] rfl rfl (hOw.alloc _) (U8.Rd.two wr wr.heap.size rfl (by omega) (by omega) (by omega) (by omega)) (by rw [HL2.out]; omega) (by have := hBr.size; simp; omega) ?_; rw [HLN.out]; intro a1 c1 w1 hO1 hB1)
            have hB2 := (hBr.alloc hBr.size (Obj.cells #[.int .u8 92, .int .u8 110] 5)).trans hB1
            obtain ⟨g1, rfl⟩ : ∃ g1, a1 = some ⟨g1, 0, none⟩ := by
              rcases hO1.shape with ⟨hv, hv2⟩ | ⟨g1, cp, hv, _⟩
              · exfalso; simp only [Value.slice.injEq] at hv; omega
              · simp only [Value.slice.injEq] at hv; exact ⟨g1, hv.1⟩
            have HLM := HLN.out
            rw [HU.out] at hO1 HLM
            rw [bz_length] at HLM
            go_roundw
            case rel => exact ⟨k + 1, g1, _, c1, reprTo 34 s (k + 1), by omega, rfl, HLM.symm, by go_num, by go_num, hO1, hB2⟩
            case measure => first | (simp [RowKit.intOf]; done) | (simp [RowKit.intOf]; omega)
          · have f0 : (X == 10) = false := by rw [beq_eq_false_iff_ne]; exact d0
            by_cases d1 : X = 9
            · subst d1
              have HU : Hid (bz T ++ [92, 116] = bz (reprTo 34 s (k + 1))) := by rw [HT.out]; exact bz_reprTo 34 s k hi _ (by rw [hx0]; unfold reprN; rw [if_neg (by omega), if_neg (by omega), if_pos (by omega)]; rfl)
              have HLN : Hid ((bz T ++ [92, 116]).length = m + 2) := by show _ = _; rw [List.length_append, HBL.out]; rfl
              have HL2 : Hid ((bz T).length + ([92, 116] : List Int).length = m + 2) := by show _ = _; rw [HBL.out]; rfl
              clear hx0 hlx
              try clear c1
              try clear c2
              try clear d0
              try clear d1
              try clear d2
              try clear h6
              go_wp2_with (at_builtin; refine U8.wpList_append_rd rfl _ _ 66 rfl Tryd.underlying66 w.heap.size _ _ (bz T) [92, 116] rfl rfl (hOw.alloc _) (U8.Rd.two wr wr.heap.size rfl (by omega) (by omega) (by omega) (by omega)) (by rw [HL2.out]; omega) (by have := hBr.size; simp; omega) ?_; rw [HLN.out]; intro a1 c1 w1 hO1 hB1)
              have hB2 := (hBr.alloc hBr.size (Obj.cells #[.int .u8 92, .int .u8 116] 5)).trans hB1
              obtain ⟨g1, rfl⟩ : ∃ g1, a1 = some ⟨g1, 0, none⟩ := by
                rcases hO1.shape with ⟨hv, hv2⟩ | ⟨g1, cp, hv, _⟩
                · exfalso; simp only [Value.slice.injEq] at hv; omega
                · simp only [Value.slice.injEq] at hv; exact ⟨g1, hv.1⟩
              have HLM := HLN.out
              rw [HU.out] at hO1 HLM
              rw [bz_length] at HLM
              go_roundw
              case rel => exact ⟨k + 1, g1, _, c1, reprTo 34 s (k + 1), by omega, rfl, HLM.symm, by go_num, by go_num, hO1, hB2⟩
              case measure => first | (simp [RowKit.intOf]; done) | (simp [RowKit.intOf]; omega)
            · have f1 : (X == 9) = false := by rw [beq_eq_false_iff_ne]; exact d1
              by_cases d2 : X = 13
              · subst d2
                have HU : Hid (bz T ++ [92, 114] = bz (reprTo 34 s (k + 1))) := by rw [HT.out]; exact bz_reprTo 34 s k hi _ (by rw [hx0]; unfold reprN; rw [if_neg (by omega), if_neg (by omega), if_neg (by omega), if_pos (by omega)]; rfl)
                have HLN : Hid ((bz T ++ [92, 114]).length = m + 2) := by show _ = _; rw [List.length_append, HBL.out]; rfl
                have HL2 : Hid ((bz T).length + ([92, 114] : List Int).length = m + 2) := by show _ = _; rw [HBL.out]; rfl
                clear hx0 hlx
                try clear c1
                try clear c2
                try clear d0
                try clear d1
                try clear d2
                try clear h6
                go_wp2_with (at_builtin; refine U8.wpList_append_rd rfl _ _ 66 rfl Tryd.underlying66 w.heap.size _ _ (bz T) [92, 114] rfl rfl (hOw.alloc _) (U8.Rd.two wr wr.heap.size rfl (by omega) (by omega) (by omega) (by omega)) (by rw [HL2.out]; omega) (by have := hBr.size; simp; omega) ?_; rw [HLN.out]; intro a1 c1 w1 hO1 hB1)
                have hB2 := (hBr.alloc hBr.size (Obj.cells #[.int .u8 92, .int .u8 114] 5)).trans hB1
                obtain ⟨g1, rfl⟩ : ∃ g1, a1 = some ⟨g1, 0, none⟩ := by
                  rcases hO1.shape with ⟨hv, hv2⟩ | ⟨g1, cp, hv, _⟩
                  · exfalso; simp only [Value.slice.injEq] at hv; omega
                  · simp only [Value.slice.injEq] at hv; exact ⟨g1, hv.1⟩
                have HLM := HLN.out
                rw [HU.out] at hO1 HLM
                rw [bz_length] at HLM
                go_roundw
                case rel => exact ⟨k + 1, g1, _, c1, reprTo 34 s (k + 1), by omega, rfl, HLM.symm, by go_num, by go_num, hO1, hB2⟩
                case measure => first | (simp [RowKit.intOf]; done) | (simp [RowKit.intOf]; omega)
              · have f2 : (X == 13) = false := by rw [beq_eq_false_iff_ne]; exact d2
                by_cases h6 : X < 32 ∨ X = 127
                · skip
                  obtain ⟨A, hA⟩ : ∃ A : Nat, hexN (x0.toNat / 16) = A := ⟨_, rfl⟩
                  obtain ⟨B, hB⟩ : ∃ B : Nat, hexN (x0.toNat % 16) = B := ⟨_, rfl⟩
                  have hA1 : A < 256 := by rw [← hA]; unfold hexN; split <;> omega
                  have hB1' : B < 256 := by rw [← hB]; unfold hexN; split <;> omega
                  have HU : Hid (bz T ++ [92, 120, (A : Int), (B : Int)] = bz (reprTo 34 s (k + 1))) := by rw [HT.out]; exact bz_reprTo 34 s k hi _ (by rw [hx0]; unfold reprN; rw [if_neg (by omega), if_neg (by omega), if_neg (by omega), if_neg (by omega), if_pos (by omega), hA, hB]; rfl)
                  have HLN : Hid ((bz T ++ [92, 120, (A : Int), (B : Int)]).length = m + 4) := by show _ = _; rw [List.length_append, HBL.out]; rfl
                  have HL2 : Hid ((bz T).length + ([92, 120, (A : Int), (B : Int)] : List Int).length = m + 4) := by show _ = _; rw [HBL.out]; rfl
                  obtain ⟨n1, hn1⟩ : ∃ n1 : Nat, x0.toNat / 16 = n1 := ⟨_, rfl⟩
                  obtain ⟨n2, hn2⟩ : ∃ n2 : Nat, x0.toNat % 16 = n2 := ⟨_, rfl⟩
                  have hn1b : n1 < 16 := by omega
                  have hn2b : n2 < 16 := by omega
                  have hsA := hex_at n1 hn1b
                  have hsB := hex_at n2 hn2b
                  rw [hn1] at hA
                  rw [hn2] at hB
                  rw [hA] at hsA
                  rw [hB] at hsB
                  have hvA : ((A.toUInt8.toNat : Nat) : Int) = (A : Int) := by rw [byte_nat hA1]
                  have hvB : ((B.toUInt8.toNat : Nat) : Int) = (B : Int) := by rw [byte_nat hB1']
                  have hq : X / 16 = (n1 : Int) := by omega
                  have hand := u8_and15 x0.toNat hlx
                  rw [hn2, hX] at hand
                  have i1 : (n1 : Int) < 16 := by omega
                  have i2 : (n2 : Int) < 16 := by omega
                  clear hn1 hn2 hA hB hx0 hlx c1 c2 d0 d1 d2
                  obtain ⟨i0, hi0, hz0, hz1, hz2⟩ := info_parts U8.Tryd.info5
                  have hOm : wr.ownsRow w.heap.size 5 1 (.slice (some ⟨g, 0, none⟩) m co) m ((bz T).map (Value.int .u8)) := by
                    have h := hOw.1
                    rw [HBL.out] at h
                    exact h
                  have hlb := hOw.2.2
                  have HU2 : Hid ((bz T).map (Value.int .u8) ++ [Value.int .u8 92, Value.int .u8 120, Value.int .u8 (A : Int), Value.int .u8 (B : Int)] = (bz (reprTo 34 s (k + 1))).map (Value.int .u8)) := by
                    show _ = _
                    rw [← HU.out, List.map_append]; rfl
                  have hz9 := hBr.size
                  have hA256 : (A : Int) % 256 = (A : Int) := by omega
                  have hB256 : (B : Int) % 256 = (B : Int) := by omega
                  have q63 : m + 4 ≤ maxLen := by unfold maxLen; omega
                  have qby : (m + 4) * 1 ≤ 140737488355328 := by omega
                  have qba : w.heap.size ≤ (wr.alloc (Obj.cells #[.int .u8 92, .int .u8 120, .int .u8 (A : Int), .int .u8 (B : Int)] 5)).drew.heap.size := by simp; omega
                  have qsz : (wr.alloc (Obj.cells #[.int .u8 92, .int .u8 120, .int .u8 (A : Int), .int .u8 (B : Int)] 5)).drew.heap.size = wr.heap.size + 1 := by simp
                  have q1 : ∀ u ∈ [Value.int .u8 92, Value.int .u8 120, Value.int .u8 (A : Int), Value.int .u8 (B : Int)], u.oneCell' = true := by
                    intro u hu
                    simp only [List.mem_cons, List.not_mem_nil, or_false] at hu
                    rcases hu with rfl | rfl | rfl | rfl <;> rfl
                  have qne : ∀ j u, [Value.int .u8 92, Value.int .u8 120, Value.int .u8 (A : Int), Value.int .u8 (B : Int)][j]? = some u → (wr.alloc (Obj.cells #[.int .u8 92, .int .u8 120, .int .u8 (A : Int), .int .u8 (B : Int)] 5)).drew.cell? ((⟨wr.heap.size, 0, none⟩ : Addr).add j) = some u := by
                    intro j u hu
                    rw [add_at, show (wr.alloc (Obj.cells #[.int .u8 92, .int .u8 120, .int .u8 (A : Int), .int .u8 (B : Int)] 5)).drew.cell? ⟨wr.heap.size, j, none⟩ = (wr.alloc (Obj.cells #[.int .u8 92, .int .u8 120, .int .u8 (A : Int), .int .u8 (B : Int)] 5)).cell? ⟨wr.heap.size, j, none⟩ from rfl, World.cell?_alloc_at (w := wr) _ _ wr.heap.size j rfl]
                    simpa using hu
                  have qow := (hOm.alloc (Obj.cells #[.int .u8 92, .int .u8 120, .int .u8 (A : Int), .int .u8 (B : Int)] 5)).drew
                  have hsg := hOw.lt g rfl
                  by_cases h7 : X < 32
                  · clear h6
                    go_wp2_with fail
                    go_region_held_law (fun _ => True) (trivial) ((refine step_append_lies _ ?_ (.tmp 60) (.tmp 67) 66 ?_ w.heap.size 5 i0 (.int .u8 0) 1 1 Tryd.underlying66 hi0 hz0 hz1 hz2 rfl (by decide) (.slice (some ⟨g, 0, none⟩) m co) m ((bz T).map (Value.int .u8)) ?_ qow ⟨wr.heap.size, 0, none⟩ 4 4 [Value.int .u8 92, Value.int .u8 120, Value.int .u8 (A : Int), Value.int .u8 (B : Int)] ?_ rfl qne q1 (by decide) q63 qby qba (wr.heap.size + 1) qsz ?_; rfl; rfl; rfl; rfl; intro g1 cp1 w1 hO1 hgr hat hlt))
                    · skip
                      have HZL : Hid ((bz (reprTo 34 s (k + 1))).length = m + 4) := by show _ = _; rw [← HU.out]; exact HLN.out
                      have hO2 : U8.Own w1 w.heap.size (.slice (some ⟨g1, 0, none⟩) (m + 4) cp1) (bz (reprTo 34 s (k + 1))) := by
                        refine ⟨?_, ?_, bz_limbs _⟩
                        · rw [HU2.out] at hO1
                          rw [HZL.out]; exact hO1
                        · rw [HZL.out]; omega
                      have hB2 := ((hBr.alloc hBr.size (Obj.cells #[.int .u8 92, .int .u8 120, .int .u8 (A : Int), .int .u8 (B : Int)] 5)).drew).trans (U8.gb_to hgr (fun j hj => (hOw.lt j hj).1) qba)
                      have HLM := HZL.out
                      rw [bz_length] at HLM
                      clear hO1 hgr hat hlt qba qsz qne qow hOm
                      go_wp2
                      go_roundw
                      case rel => exact ⟨k + 1, g1, _, cp1, reprTo 34 s (k + 1), by omega, rfl, HLM.symm, by go_num, by go_num, hO2, hB2⟩
                      case measure => first | (simp [RowKit.intOf]; done) | (simp [RowKit.intOf]; omega)
                    · skip
                      have HZL : Hid ((bz (reprTo 34 s (k + 1))).length = m + 4) := by show _ = _; rw [← HU.out]; exact HLN.out
                      have hO2 : U8.Own w1 w.heap.size (.slice (some ⟨g1, 0, none⟩) (m + 4) cp1) (bz (reprTo 34 s (k + 1))) := by
                        refine ⟨?_, ?_, bz_limbs _⟩
                        · rw [HU2.out] at hO1
                          rw [HZL.out]; exact hO1
                        · rw [HZL.out]; omega
                      have hB2 := ((hBr.alloc hBr.size (Obj.cells #[.int .u8 92, .int .u8 120, .int .u8 (A : Int), .int .u8 (B : Int)] 5)).drew).trans (U8.gb_to hgr (fun j hj => (hOw.lt j hj).1) qba)
                      have HLM := HZL.out
                      rw [bz_length] at HLM
                      clear hO1 hgr hat hlt qba qsz qne qow hOm
                      go_wp2
                      go_roundw
                      case rel => exact ⟨k + 1, g1, _, cp1, reprTo 34 s (k + 1), by omega, rfl, HLM.symm, by go_num, by go_num, hO2, hB2⟩
                      case measure => first | (simp [RowKit.intOf]; done) | (simp [RowKit.intOf]; omega)
                  · have h127 : X = 127 := by omega
                    subst h127
                    clear h6
                    go_wp2_with fail
                    go_region_held_law (fun _ => True) (trivial) ((refine step_append_lies _ ?_ (.tmp 60) (.tmp 67) 66 ?_ w.heap.size 5 i0 (.int .u8 0) 1 1 Tryd.underlying66 hi0 hz0 hz1 hz2 rfl (by decide) (.slice (some ⟨g, 0, none⟩) m co) m ((bz T).map (Value.int .u8)) ?_ qow ⟨wr.heap.size, 0, none⟩ 4 4 [Value.int .u8 92, Value.int .u8 120, Value.int .u8 (A : Int), Value.int .u8 (B : Int)] ?_ rfl qne q1 (by decide) q63 qby qba (wr.heap.size + 1) qsz ?_; rfl; rfl; rfl; rfl; intro g1 cp1 w1 hO1 hgr hat hlt))
                    · skip
                      have HZL : Hid ((bz (reprTo 34 s (k + 1))).length = m + 4) := by show _ = _; rw [← HU.out]; exact HLN.out
                      have hO2 : U8.Own w1 w.heap.size (.slice (some ⟨g1, 0, none⟩) (m + 4) cp1) (bz (reprTo 34 s (k + 1))) := by
                        refine ⟨?_, ?_, bz_limbs _⟩
                        · rw [HU2.out] at hO1
                          rw [HZL.out]; exact hO1
                        · rw [HZL.out]; omega
                      have hB2 := ((hBr.alloc hBr.size (Obj.cells #[.int .u8 92, .int .u8 120, .int .u8 (A : Int), .int .u8 (B : Int)] 5)).drew).trans (U8.gb_to hgr (fun j hj => (hOw.lt j hj).1) qba)
                      have HLM := HZL.out
                      rw [bz_length] at HLM
                      clear hO1 hgr hat hlt qba qsz qne qow hOm
                      go_wp2
                      go_roundw
                      case rel => exact ⟨k + 1, g1, _, cp1, reprTo 34 s (k + 1), by omega, rfl, HLM.symm, by go_num, by go_num, hO2, hB2⟩
                      case measure => first | (simp [RowKit.intOf]; done) | (simp [RowKit.intOf]; omega)
                    · skip
                      have HZL : Hid ((bz (reprTo 34 s (k + 1))).length = m + 4) := by show _ = _; rw [← HU.out]; exact HLN.out
                      have hO2 : U8.Own w1 w.heap.size (.slice (some ⟨g1, 0, none⟩) (m + 4) cp1) (bz (reprTo 34 s (k + 1))) := by
                        refine ⟨?_, ?_, bz_limbs _⟩
                        · rw [HU2.out] at hO1
                          rw [HZL.out]; exact hO1
                        · rw [HZL.out]; omega
                      have hB2 := ((hBr.alloc hBr.size (Obj.cells #[.int .u8 92, .int .u8 120, .int .u8 (A : Int), .int .u8 (B : Int)] 5)).drew).trans (U8.gb_to hgr (fun j hj => (hOw.lt j hj).1) qba)
                      have HLM := HZL.out
                      rw [bz_length] at HLM
                      clear hO1 hgr hat hlt qba qsz qne qow hOm
                      go_wp2
                      go_roundw
                      case rel => exact ⟨k + 1, g1, _, cp1, reprTo 34 s (k + 1), by omega, rfl, HLM.symm, by go_num, by go_num, hO2, hB2⟩
                      case measure => first | (simp [RowKit.intOf]; done) | (simp [RowKit.intOf]; omega)
                · have g1 : ¬ X < 32 := by omega
                  have g2 : (X == 127) = false := by rw [beq_eq_false_iff_ne]; omega
                  have HU : Hid (bz T ++ [X] = bz (reprTo 34 s (k + 1))) := by rw [HT.out]; exact bz_reprTo 34 s k hi _ (by rw [hx0]; unfold reprN; rw [if_neg (by omega), if_neg (by omega), if_neg (by omega), if_neg (by omega), if_neg (by omega)]; simp [hX])
                  have HLN : Hid ((bz T ++ [X]).length = m + 1) := by show _ = _; rw [List.length_append, HBL.out]; rfl
                  have HL2 : Hid ((bz T).length + ([X] : List Int).length = m + 1) := by show _ = _; rw [HBL.out]; rfl
                  clear hx0 hlx
                  try clear c1
                  try clear c2
                  try clear d0
                  try clear d1
                  try clear d2
                  try clear h6
                  go_wp2_with (at_builtin; refine U8.wpList_append_rd rfl _ _ 66 rfl Tryd.underlying66 w.heap.size _ _ (bz T) [X] rfl rfl (hOw.alloc _) (U8.Rd.one wr wr.heap.size rfl 5 hX0 (by omega)) (by rw [HL2.out]; omega) (by have := hBr.size; simp; omega) ?_; rw [HLN.out]; intro a1 c1 w1 hO1 hB1)
                  have hB2 := (hBr.alloc hBr.size (Obj.cells #[.int .u8 X] 5)).trans hB1
                  obtain ⟨g1, rfl⟩ : ∃ g1, a1 = some ⟨g1, 0, none⟩ := by
                    rcases hO1.shape with ⟨hv, hv2⟩ | ⟨g1, cp, hv, _⟩
                    · exfalso; simp only [Value.slice.injEq] at hv; omega
                    · simp only [Value.slice.injEq] at hv; exact ⟨g1, hv.1⟩
                  have HLM := HLN.out
                  rw [HU.out] at hO1 HLM
                  rw [bz_length] at HLM
                  go_roundw
                  case rel => exact ⟨k + 1, g1, _, c1, reprTo 34 s (k + 1), by omega, rfl, HLM.symm, by go_num, by go_num, hO1, hB2⟩
                  case measure => first | (simp [RowKit.intOf]; done) | (simp [RowKit.intOf]; omega)
    · have hiz : ¬ (k : Int) < (s.size : Int) := by omega
      have hke : k = s.size := by omega
      have HLN : Hid ((bz T ++ [34]).length = m + 1) := by show _ = _; rw [List.length_append, HBL.out]; rfl
      have HL2 : Hid ((bz T).length + ([34] : List Int).length = m + 1) := by show _ = _; rw [HBL.out]; rfl
      have HBQ : Hid (bz T ++ [34] = bz (T ++ [(34 : Nat).toUInt8])) := by show _ = _; unfold bz; rw [List.map_append]; rfl
      have HTT : Hid (T = reprTo 34 s s.size) := by rw [← hke]; exact HT.out
      have HTL : Hid (m + 1 = (T ++ [(34 : Nat).toUInt8]).length) := by
        show _ = _
        have := HBL.out
        rw [bz_length] at this
        rw [List.length_append, this]; rfl
      clear hke HT
      go_wp2_with (at_builtin; refine U8.wpList_append_rd rfl _ _ 66 rfl Tryd.underlying66 w.heap.size _ _ (bz T) [34] rfl rfl (hOw.alloc _) (U8.Rd.one wr wr.heap.size rfl 5 (by omega) (by omega)) (by rw [HL2.out]; omega) (by have := hBr.size; simp; omega) ?_; rw [HLN.out, HBQ.out]; intro a1 c1 w1 hO1 hB1; obtain ⟨g1, rfl⟩ : ∃ g1, a1 = some ⟨g1, 0, none⟩ := (by rcases hO1.shape with ⟨hv, hv2⟩ | ⟨g1, cp, hv, _⟩ <;> simp only [Value.slice.injEq] at hv <;> first | (exfalso; omega) | exact ⟨g1, hv.1⟩); have hcv := bytes_back w1 w.heap.size g1 c1 (T ++ [(34 : Nat).toUInt8]) (m + 1) HTL.out hO1)
      go_ret
      rw [← HTT.out]
      exact ⟨rfl, (hBr.alloc hBr.size _).trans hB1⟩
end Go.Proofs.YtdamddfhflhfbaaDoor
