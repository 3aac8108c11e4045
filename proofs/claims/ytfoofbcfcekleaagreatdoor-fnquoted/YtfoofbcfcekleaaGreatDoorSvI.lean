import Derived.Test.YtfoofbcfcekleaaGreatDoorPuX
import Derived.Test.YtfoofbcfcekleaaGreatDoorSvQ
import Derived.Test.YtfoofbcfcekleaaGreatDoorBldQ
import Derived.Test.YtfoofbcfcekleaaGreatDoorTOk
namespace Go.Proofs.YtfoofbcfcekleaaGreatDoor
open Go.RowKit Go.Lib Go.Shelf
set_option linter.unusedVariables false
set_option linter.unusedSimpArgs false

/-- The variable of a syntax error holds a value. -/
def ErrS (w : World) : Prop := ∃ ev, w.cell? ⟨Tryz.laysToE_ren.g 15, 0, none⟩ = some ev ∧ (ev = .nilIface ∨ ∃ te pe, ev = .iface te pe)
theorem cell_lt {w : World} {g : Nat} {v : Value} (h : w.cell? ⟨g, 0, none⟩ = some v) : g < w.heap.size := by
  rcases Nat.lt_or_ge g w.heap.size with h' | h'
  · exact h'
  · exfalso
    unfold World.cell? at h
    simp [Array.getElem?_eq_none h'] at h
theorem ErrS.below {w w' : World} (h : ErrS w) (hb : Below w.heap.size w w') : ErrS w' := by
  obtain ⟨ev, h1, h2⟩ := h
  exact ⟨ev, (hb.cell (p := ⟨_, 0, none⟩) (cell_lt h1)).trans h1, h2⟩
def MaxK (w : World) : Prop := ∃ m, w.cell? ⟨Tryz.laysCut_ren.g 1, 0, none⟩ = some (.int .i64 m)
theorem MaxK.below {w w' : World} (h : MaxK w) (hb : Below w.heap.size w w') : MaxK w' := by
  obtain ⟨m, h1⟩ := h
  exact ⟨m, (hb.cell (p := ⟨_, 0, none⟩) (cell_lt h1)).trans h1⟩
theorem toE_any (s : ByteArray) (w : World) (h : ErrS w) (hs : s.size ≤ 4) :
    Calls Tryz.prog 67 #[.string ⟨#[80, 97, 114, 115, 101, 85, 105, 110, 116]⟩, .string s, .int .i64 16, .int .i64 32, .iface 117 (.int .i64 2)] w fun e w' => (∃ t p, e = .returned (.iface t p)) ∧ Below w.heap.size w w' := by
  obtain ⟨ev, h1, h2⟩ := h
  exact (Any.strconv_toError_syntax Tryz.laysToE ⟨#[80, 97, 114, 115, 101, 85, 105, 110, 116]⟩ s 16 32 ev w (by omega) h1 h2).mono fun e w' ⟨N, he, _, _, hB⟩ => ⟨⟨_, _, he⟩, hB⟩
set_option maxHeartbeats 1000000 in
set_option maxRecDepth 100000 in
theorem parsePub (s : ByteArray) (w : World) (h0 : 0 < s.size) (h4 : s.size ≤ 4) (hE : ErrS w) :
    Calls Tryz.prog 48 #[.string s, .int .i64 16, .int .i64 32] w fun e w' => ((∃ u : Nat, puV s.data.toList = some u ∧ e = .returned (.tuple #[.int .u64 u, .nilIface])) ∨ (puV s.data.toList = none ∧ ∃ t p, e = .returned (.tuple #[.int .u64 0, .iface t p]))) ∧ Below w.heap.size w w' := by
  have hP := parse16 s w h0 h4
  cases hv : puV s.data.toList with
  | some u =>
    rw [hv] at hP
    unfold puA at hP
    clear hv
    go_enter Tryz.func48, Tryz.ntmps48
    go_wp2_with (go_at_call 66; refine hP.mono ?_; rintro e w1 ⟨rfl, hB1⟩)
    go_ret2
    exact ⟨.inl ⟨u, rfl, rfl⟩, hB1⟩
  | none =>
    rw [hv] at hP
    unfold puA at hP
    clear hv
    go_enter Tryz.func48, Tryz.ntmps48
    go_wp2_with (first
      | (go_at_call 66; refine hP.mono ?_; rintro e w1 ⟨rfl, hB1⟩)
      | (go_at_call 67; refine (toE_any s _ (hE.below hB1) h4).mono ?_; rintro e w2 ⟨⟨t, p, rfl⟩, hB2⟩))
    go_ret2
    exact ⟨.inr ⟨(by first | rfl | trivial), _, _, rfl⟩, hB1.trans (hB2.mono hB1.size)⟩
theorem encV8 (r : Nat) (hr : Scalar r) : Utf8.encode (r : Int) = ⟨(encodeRune (r : Int)).toArray⟩ := by
  have hv : Utf8.valid (r : Int) = true := by
    unfold Scalar at hr
    unfold Utf8.valid
    simp only [Bool.or_eq_true, Bool.and_eq_true, decide_eq_true_eq]
    omega
  unfold Utf8.encode
  simp only [hv, if_true, Int.toNat_natCast]
  rcases enc_cases r hr with ⟨a, e⟩ | ⟨a, b, e⟩ | ⟨a, b, e⟩ | ⟨a, b, e⟩
  · rw [if_pos a, e]
  · rw [if_neg (by omega), if_pos b, e]
  · rw [if_neg (by omega), if_neg (by omega), if_pos b, e]
  · rw [if_neg (by omega), if_neg (by omega), if_neg (by omega), e]
theorem i32_id {a : Int} (h0 : 0 ≤ a) (h1 : a < 2147483648) : IntKind.i32.wrap a = a := by
  simp [IntKind.wrap, IntKind.bits, IntKind.signed]; omega
/-- What an escape answers: its text, and how many bytes. -/
def escA : Option (List Nat × Nat) → Value
  | none => .tuple #[.string ⟨#[]⟩, .int .i64 0]
  | some (vs, k) => .tuple #[.string ⟨(encs vs).toArray⟩, .int .i64 ((1 + k : Nat) : Int)]
theorem par_none {e : Ending} (h : (∃ u : Nat, (none : Option Nat) = some u ∧ e = .returned (.tuple #[.int .u64 u, .nilIface])) ∨ ((none : Option Nat) = none ∧ ∃ t p, e = .returned (.tuple #[.int .u64 0, .iface t p]))) : ∃ t p, e = .returned (.tuple #[.int .u64 0, .iface t p]) := by
  rcases h with ⟨_, h, _⟩ | ⟨_, h⟩
  · cases h
  · exact h
theorem par_some {e : Ending} {v : Nat} (h : (∃ u : Nat, some v = some u ∧ e = .returned (.tuple #[.int .u64 u, .nilIface])) ∨ (some v = none ∧ ∃ t p, e = .returned (.tuple #[.int .u64 0, .iface t p]))) : e = .returned (.tuple #[.int .u64 v, .nilIface]) := by
  rcases h with ⟨_, h, h2⟩ | ⟨h, _⟩
  · cases h; exact h2
  · cases h
set_option maxHeartbeats 1000000 in
set_option maxRecDepth 100000 in
theorem readPoint_2 (s : ByteArray) (c : UInt8) (u : List Nat) (w : World) (hs : s.data.toList = c :: encs u) (hz : s.size ≤ 16384) (hsc : ∀ r ∈ u, Scalar r) (hE : ErrS w) :
    Calls Tryz.prog 37 #[.string s, .int .i64 2] w fun e w' => e = .returned (escA (ptR 2 u)) ∧ Below w.heap.size w w' := by
  have hl : s.size = (encs u).length + 1 := by rw [size_eq, hs, List.length_cons]
  have hx := hx_bytes 2 0 u hsc
  by_cases hlt : (encs u).length < 2
  · rw [if_pos hlt] at hx
    have hp : ptR 2 u = none := by unfold ptR; rw [← hx]; rfl
    rw [hp]
    unfold escA
    have hsz : (s.size : Int) < 3 := by omega
    clear hx hp hs hl hlt
    go_enter Tryz.func37, Tryz.ntmps37
    go_wp2
    go_ret2
    exact ⟨rfl, Below.refl _ _⟩
  · rw [if_neg hlt] at hx
    have hxt : (s.extract 1 3).data.toList = (encs u).take 2 := by
      rw [Lib.extract_data, hs, List.drop_succ_cons, List.drop_zero]
    have hxs : (s.extract 1 3).size = 2 := by rw [size_eq, hxt, List.length_take]; omega
    have hpu : puV (s.extract 1 3).data.toList = hxN 2 0 u := by
      unfold puV
      rw [← size_eq, hxs, hxt]; exact hx
    have hP := fun W h => parsePub (s.extract 1 3) W (by omega) (by omega) h
    rw [hpu] at hP
    have hsz : ¬ (s.size : Int) < 3 := by omega
    have hsz2 : (3 : Int) ≤ (s.size : Int) := by omega
    cases hv : hxN 2 0 u with
    | none =>
      have hp : ptR 2 u = none := by unfold ptR; rw [hv]; rfl
      rw [hp]
      unfold escA
      rw [hv] at hP
      clear hx hp hs hl hlt hxt hxs hpu hv
      go_enter Tryz.func37, Tryz.ntmps37
      go_wp2_with (go_at_call 48; refine (hP _ hE).mono ?_; rintro e w1 ⟨h1, hB1⟩; obtain ⟨t, p, rfl⟩ := par_none h1)
      go_ret2
      exact ⟨rfl, hB1⟩
    | some v =>
      rw [hv] at hP
      have hvb : v < 65536 := by
        have h1 := hxN_lt _ _ _ _ hv
        have h2 : (0 + 1) * 16 ^ 2 ≤ 65536 := by decide
        omega
      obtain ⟨V, hV⟩ : ∃ V : Int, (v : Int) = V := ⟨_, rfl⟩
      have HVV : Hid ((v : Int) = V) := hV
      have hw32 := i32_id (a := V) (by omega) (by omega)
      have hVR := fun W => Any.utf8_ValidRune Tryz.laysVR V W
      by_cases hsu : 55296 ≤ v ∧ v < 57344
      · have hp : ptR 2 u = none := by unfold ptR; rw [hv]; exact if_pos hsu
        have hvr : Lib.validRune V = false := by unfold Lib.validRune; rw [decide_eq_false_iff_not]; omega
        rw [hp]
        unfold escA
        rw [hvr] at hVR
        clear hx hp hs hl hlt hxt hxs hpu hv hvr hsu hV
        go_enter Tryz.func37, Tryz.ntmps37
        go_wp2_with (first
          | (go_at_call 48; refine (hP _ hE).mono ?_; rintro e w1 ⟨h1, hB1⟩; obtain rfl := par_some h1; rw [HVV.out])
          | (go_at_call 49; refine (hVR _).mono ?_; rintro e w2 ⟨rfl, rfl⟩))
        go_ret2
        exact ⟨rfl, hB1⟩
      · have hp : ptR 2 u = some ([v], 2) := by unfold ptR; rw [hv]; exact if_neg hsu
        have hvr : Lib.validRune V = true := by unfold Lib.validRune; rw [decide_eq_true_iff]; omega
        have hes : Scalar v := by unfold Scalar; omega
        have he8 := encV8 v hes
        rw [hV] at he8
        have hev : (⟨(encs [v]).toArray⟩ : ByteArray) = ⟨(encodeRune V).toArray⟩ := by rw [encs_cons, encs_nil, List.append_nil, hV]
        rw [hp]
        unfold escA
        simp only
        rw [hev]
        rw [hvr] at hVR
        generalize (⟨(encodeRune V).toArray⟩ : ByteArray) = E at he8 ⊢
        clear hx hp hs hl hlt hxt hxs hpu hv hvr hsu hes hev hV
        go_enter Tryz.func37, Tryz.ntmps37
        go_wp2_with (first
          | (go_at_call 48; refine (hP _ hE).mono ?_; rintro e w1 ⟨h1, hB1⟩; obtain rfl := par_some h1; rw [HVV.out])
          | (go_at_call 49; refine (hVR _).mono ?_; rintro e w2 ⟨rfl, rfl⟩))
        go_ret2
        exact ⟨rfl, hB1⟩
set_option maxHeartbeats 1000000 in
set_option maxRecDepth 100000 in
theorem readPoint_4 (s : ByteArray) (c : UInt8) (u : List Nat) (w : World) (hs : s.data.toList = c :: encs u) (hz : s.size ≤ 16384) (hsc : ∀ r ∈ u, Scalar r) (hE : ErrS w) :
    Calls Tryz.prog 37 #[.string s, .int .i64 4] w fun e w' => e = .returned (escA (ptR 4 u)) ∧ Below w.heap.size w w' := by
  have hl : s.size = (encs u).length + 1 := by rw [size_eq, hs, List.length_cons]
  have hx := hx_bytes 4 0 u hsc
  by_cases hlt : (encs u).length < 4
  · rw [if_pos hlt] at hx
    have hp : ptR 4 u = none := by unfold ptR; rw [← hx]; rfl
    rw [hp]
    unfold escA
    have hsz : (s.size : Int) < 5 := by omega
    clear hx hp hs hl hlt
    go_enter Tryz.func37, Tryz.ntmps37
    go_wp2
    go_ret2
    exact ⟨rfl, Below.refl _ _⟩
  · rw [if_neg hlt] at hx
    have hxt : (s.extract 1 5).data.toList = (encs u).take 4 := by
      rw [Lib.extract_data, hs, List.drop_succ_cons, List.drop_zero]
    have hxs : (s.extract 1 5).size = 4 := by rw [size_eq, hxt, List.length_take]; omega
    have hpu : puV (s.extract 1 5).data.toList = hxN 4 0 u := by
      unfold puV
      rw [← size_eq, hxs, hxt]; exact hx
    have hP := fun W h => parsePub (s.extract 1 5) W (by omega) (by omega) h
    rw [hpu] at hP
    have hsz : ¬ (s.size : Int) < 5 := by omega
    have hsz2 : (5 : Int) ≤ (s.size : Int) := by omega
    cases hv : hxN 4 0 u with
    | none =>
      have hp : ptR 4 u = none := by unfold ptR; rw [hv]; rfl
      rw [hp]
      unfold escA
      rw [hv] at hP
      clear hx hp hs hl hlt hxt hxs hpu hv
      go_enter Tryz.func37, Tryz.ntmps37
      go_wp2_with (go_at_call 48; refine (hP _ hE).mono ?_; rintro e w1 ⟨h1, hB1⟩; obtain ⟨t, p, rfl⟩ := par_none h1)
      go_ret2
      exact ⟨rfl, hB1⟩
    | some v =>
      rw [hv] at hP
      have hvb : v < 65536 := by
        have h1 := hxN_lt _ _ _ _ hv
        have h2 : (0 + 1) * 16 ^ 4 ≤ 65536 := by decide
        omega
      obtain ⟨V, hV⟩ : ∃ V : Int, (v : Int) = V := ⟨_, rfl⟩
      have HVV : Hid ((v : Int) = V) := hV
      have hw32 := i32_id (a := V) (by omega) (by omega)
      have hVR := fun W => Any.utf8_ValidRune Tryz.laysVR V W
      by_cases hsu : 55296 ≤ v ∧ v < 57344
      · have hp : ptR 4 u = none := by unfold ptR; rw [hv]; exact if_pos hsu
        have hvr : Lib.validRune V = false := by unfold Lib.validRune; rw [decide_eq_false_iff_not]; omega
        rw [hp]
        unfold escA
        rw [hvr] at hVR
        clear hx hp hs hl hlt hxt hxs hpu hv hvr hsu hV
        go_enter Tryz.func37, Tryz.ntmps37
        go_wp2_with (first
          | (go_at_call 48; refine (hP _ hE).mono ?_; rintro e w1 ⟨h1, hB1⟩; obtain rfl := par_some h1; rw [HVV.out])
          | (go_at_call 49; refine (hVR _).mono ?_; rintro e w2 ⟨rfl, rfl⟩))
        go_ret2
        exact ⟨rfl, hB1⟩
      · have hp : ptR 4 u = some ([v], 4) := by unfold ptR; rw [hv]; exact if_neg hsu
        have hvr : Lib.validRune V = true := by unfold Lib.validRune; rw [decide_eq_true_iff]; omega
        have hes : Scalar v := by unfold Scalar; omega
        have he8 := encV8 v hes
        rw [hV] at he8
        have hev : (⟨(encs [v]).toArray⟩ : ByteArray) = ⟨(encodeRune V).toArray⟩ := by rw [encs_cons, encs_nil, List.append_nil, hV]
        rw [hp]
        unfold escA
        simp only
        rw [hev]
        rw [hvr] at hVR
        generalize (⟨(encodeRune V).toArray⟩ : ByteArray) = E at he8 ⊢
        clear hx hp hs hl hlt hxt hxs hpu hv hvr hsu hes hev hV
        go_enter Tryz.func37, Tryz.ntmps37
        go_wp2_with (first
          | (go_at_call 48; refine (hP _ hE).mono ?_; rintro e w1 ⟨h1, hB1⟩; obtain rfl := par_some h1; rw [HVV.out])
          | (go_at_call 49; refine (hVR _).mono ?_; rintro e w2 ⟨rfl, rfl⟩))
        go_ret2
        exact ⟨rfl, hB1⟩
end Go.Proofs.YtfoofbcfcekleaaGreatDoor
