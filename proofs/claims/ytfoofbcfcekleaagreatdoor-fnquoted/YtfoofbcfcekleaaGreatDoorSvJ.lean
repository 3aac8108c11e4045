import Derived.Test.YtfoofbcfcekleaaGreatDoorSvI
namespace Go.Proofs.YtfoofbcfcekleaaGreatDoor
open Go.RowKit Go.Lib Go.Shelf
set_option linter.unusedVariables false
set_option linter.unusedSimpArgs false

/-- What a \\ ahead of these means. -/
def escB : List Nat → Option (List Nat × Nat)
  | [] => none
  | e :: u => escR e u
theorem empty_of {s : ByteArray} (h : s.data.toList = []) : s.toList.isEmpty = true := by rw [Lib.toList_data, h]; rfl
theorem some_of {s : ByteArray} {b : UInt8} {l : List UInt8} (h : s.data.toList = b :: l) : s.toList.isEmpty = false := by rw [Lib.toList_data, h]; rfl
theorem first_of {s : ByteArray} {b : UInt8} {l : List UInt8} (h : s.data.toList = b :: l) : ∃ h0 : 0 < s.size, s[0]'h0 = b := by
  have h0 : 0 < s.size := by rw [size_eq, h, List.length_cons]; omega
  refine ⟨h0, ?_⟩
  have h1 := Lib.data_getElem? s 0 h0
  rw [h] at h1
  simpa using h1.symm
theorem encs_one (c : Nat) (h : c < 128) (u : List Nat) : encs (c :: u) = c.toUInt8 :: encs u := by
  rw [encs_cons]
  rcases enc_cases c (.inl (by omega)) with ⟨a, e⟩ | ⟨a, b, e⟩ | ⟨a, b, e⟩ | ⟨a, b, e⟩
  · rw [e]; rfl
  all_goals omega
theorem cut_first {s : ByteArray} {b : UInt8} {l : List UInt8} (h : s.data.toList = b :: l) : s.extract 0 1 = ⟨#[b]⟩ := by
  have : (s.extract 0 1).data.toList = [b] := by rw [Lib.extract_data, h]; rfl
  rw [← Lib.mk_data (s.extract 0 1), this]
set_option maxHeartbeats 1000000 in
set_option maxRecDepth 100000 in
theorem readEscape_10 (s : ByteArray) (l : List UInt8) (w : World) (hs : s.data.toList = 10 :: l) (hz : s.size ≤ 16384) :
    Calls Tryz.prog 21 #[.string s] w fun e w' => e = .returned (.tuple #[.string ⟨#[]⟩, .int .i64 1]) ∧ Below w.heap.size w w' := by
  have hemp := some_of hs
  obtain ⟨h0, hs0⟩ := first_of hs
  have hX : (((10 : UInt8).toNat : Nat) : Int) = 10 := rfl
  have hcut := cut_first hs
  have hsz : (1 : Int) ≤ (s.size : Int) := by omega
  clear hs
  go_enter Tryz.func21, Tryz.ntmps21
  go_wp2
  go_ret2
  exact ⟨rfl, Below.refl _ _⟩
set_option maxHeartbeats 1000000 in
set_option maxRecDepth 100000 in
theorem readEscape_92 (s : ByteArray) (l : List UInt8) (w : World) (hs : s.data.toList = 92 :: l) (hz : s.size ≤ 16384) :
    Calls Tryz.prog 21 #[.string s] w fun e w' => e = .returned (.tuple #[.string ⟨#[92]⟩, .int .i64 1]) ∧ Below w.heap.size w w' := by
  have hemp := some_of hs
  obtain ⟨h0, hs0⟩ := first_of hs
  have hX : (((92 : UInt8).toNat : Nat) : Int) = 92 := rfl
  have hcut := cut_first hs
  have hsz : (1 : Int) ≤ (s.size : Int) := by omega
  clear hs
  go_enter Tryz.func21, Tryz.ntmps21
  go_wp2
  go_ret2
  exact ⟨rfl, Below.refl _ _⟩
set_option maxHeartbeats 1000000 in
set_option maxRecDepth 100000 in
theorem readEscape_39 (s : ByteArray) (l : List UInt8) (w : World) (hs : s.data.toList = 39 :: l) (hz : s.size ≤ 16384) :
    Calls Tryz.prog 21 #[.string s] w fun e w' => e = .returned (.tuple #[.string ⟨#[39]⟩, .int .i64 1]) ∧ Below w.heap.size w w' := by
  have hemp := some_of hs
  obtain ⟨h0, hs0⟩ := first_of hs
  have hX : (((39 : UInt8).toNat : Nat) : Int) = 39 := rfl
  have hcut := cut_first hs
  have hsz : (1 : Int) ≤ (s.size : Int) := by omega
  clear hs
  go_enter Tryz.func21, Tryz.ntmps21
  go_wp2
  go_ret2
  exact ⟨rfl, Below.refl _ _⟩
set_option maxHeartbeats 1000000 in
set_option maxRecDepth 100000 in
theorem readEscape_34 (s : ByteArray) (l : List UInt8) (w : World) (hs : s.data.toList = 34 :: l) (hz : s.size ≤ 16384) :
    Calls Tryz.prog 21 #[.string s] w fun e w' => e = .returned (.tuple #[.string ⟨#[34]⟩, .int .i64 1]) ∧ Below w.heap.size w w' := by
  have hemp := some_of hs
  obtain ⟨h0, hs0⟩ := first_of hs
  have hX : (((34 : UInt8).toNat : Nat) : Int) = 34 := rfl
  have hcut := cut_first hs
  have hsz : (1 : Int) ≤ (s.size : Int) := by omega
  clear hs
  go_enter Tryz.func21, Tryz.ntmps21
  go_wp2
  go_ret2
  exact ⟨rfl, Below.refl _ _⟩
set_option maxHeartbeats 1000000 in
set_option maxRecDepth 100000 in
theorem readEscape_110 (s : ByteArray) (l : List UInt8) (w : World) (hs : s.data.toList = 110 :: l) (hz : s.size ≤ 16384) :
    Calls Tryz.prog 21 #[.string s] w fun e w' => e = .returned (.tuple #[.string ⟨#[10]⟩, .int .i64 1]) ∧ Below w.heap.size w w' := by
  have hemp := some_of hs
  obtain ⟨h0, hs0⟩ := first_of hs
  have hX : (((110 : UInt8).toNat : Nat) : Int) = 110 := rfl
  have hcut := cut_first hs
  have hsz : (1 : Int) ≤ (s.size : Int) := by omega
  clear hs
  go_enter Tryz.func21, Tryz.ntmps21
  go_wp2
  go_ret2
  exact ⟨rfl, Below.refl _ _⟩
set_option maxHeartbeats 1000000 in
set_option maxRecDepth 100000 in
theorem readEscape_116 (s : ByteArray) (l : List UInt8) (w : World) (hs : s.data.toList = 116 :: l) (hz : s.size ≤ 16384) :
    Calls Tryz.prog 21 #[.string s] w fun e w' => e = .returned (.tuple #[.string ⟨#[9]⟩, .int .i64 1]) ∧ Below w.heap.size w w' := by
  have hemp := some_of hs
  obtain ⟨h0, hs0⟩ := first_of hs
  have hX : (((116 : UInt8).toNat : Nat) : Int) = 116 := rfl
  have hcut := cut_first hs
  have hsz : (1 : Int) ≤ (s.size : Int) := by omega
  clear hs
  go_enter Tryz.func21, Tryz.ntmps21
  go_wp2
  go_ret2
  exact ⟨rfl, Below.refl _ _⟩
set_option maxHeartbeats 1000000 in
set_option maxRecDepth 100000 in
theorem readEscape_114 (s : ByteArray) (l : List UInt8) (w : World) (hs : s.data.toList = 114 :: l) (hz : s.size ≤ 16384) :
    Calls Tryz.prog 21 #[.string s] w fun e w' => e = .returned (.tuple #[.string ⟨#[13]⟩, .int .i64 1]) ∧ Below w.heap.size w w' := by
  have hemp := some_of hs
  obtain ⟨h0, hs0⟩ := first_of hs
  have hX : (((114 : UInt8).toNat : Nat) : Int) = 114 := rfl
  have hcut := cut_first hs
  have hsz : (1 : Int) ≤ (s.size : Int) := by omega
  clear hs
  go_enter Tryz.func21, Tryz.ntmps21
  go_wp2
  go_ret2
  exact ⟨rfl, Below.refl _ _⟩
set_option maxHeartbeats 1000000 in
set_option maxRecDepth 100000 in
theorem readEscape_48 (s : ByteArray) (l : List UInt8) (w : World) (hs : s.data.toList = 48 :: l) (hz : s.size ≤ 16384) :
    Calls Tryz.prog 21 #[.string s] w fun e w' => e = .returned (.tuple #[.string ⟨#[0]⟩, .int .i64 1]) ∧ Below w.heap.size w w' := by
  have hemp := some_of hs
  obtain ⟨h0, hs0⟩ := first_of hs
  have hX : (((48 : UInt8).toNat : Nat) : Int) = 48 := rfl
  have hcut := cut_first hs
  have hsz : (1 : Int) ≤ (s.size : Int) := by omega
  clear hs
  go_enter Tryz.func21, Tryz.ntmps21
  go_wp2
  go_ret2
  exact ⟨rfl, Below.refl _ _⟩
set_option maxHeartbeats 1000000 in
set_option maxRecDepth 100000 in
theorem readEscape_120 (s : ByteArray) (u : List Nat) (w : World) (hs : s.data.toList = 120 :: encs u) (hz : s.size ≤ 16384) (hsc : ∀ r ∈ u, Scalar r) (hE : ErrS w) :
    Calls Tryz.prog 21 #[.string s] w fun e w' => e = .returned (escA (ptR 2 u)) ∧ Below w.heap.size w w' := by
  have hemp := some_of hs
  obtain ⟨h0, hs0⟩ := first_of hs
  have hX : (((120 : UInt8).toNat : Nat) : Int) = 120 := rfl
  have hR := readPoint_2 s 120 u w hs hz hsc hE
  obtain ⟨x, y, hxy⟩ : ∃ x y, escA (ptR 2 u) = .tuple #[.string x, .int .i64 y] := by
    cases ptR 2 u with
    | none => exact ⟨_, _, rfl⟩
    | some p => exact ⟨_, _, rfl⟩
  rw [hxy] at hR ⊢
  clear hs hxy
  go_enter Tryz.func21, Tryz.ntmps21
  go_wp2_with (go_at_call 37; refine hR.mono ?_; rintro e w1 ⟨rfl, hB1⟩)
  go_ret2
  exact ⟨rfl, hB1⟩
set_option maxHeartbeats 1000000 in
set_option maxRecDepth 100000 in
theorem readEscape_117 (s : ByteArray) (u : List Nat) (w : World) (hs : s.data.toList = 117 :: encs u) (hz : s.size ≤ 16384) (hsc : ∀ r ∈ u, Scalar r) (hE : ErrS w) :
    Calls Tryz.prog 21 #[.string s] w fun e w' => e = .returned (escA (ptR 4 u)) ∧ Below w.heap.size w w' := by
  have hemp := some_of hs
  obtain ⟨h0, hs0⟩ := first_of hs
  have hX : (((117 : UInt8).toNat : Nat) : Int) = 117 := rfl
  have hR := readPoint_4 s 117 u w hs hz hsc hE
  obtain ⟨x, y, hxy⟩ : ∃ x y, escA (ptR 4 u) = .tuple #[.string x, .int .i64 y] := by
    cases ptR 4 u with
    | none => exact ⟨_, _, rfl⟩
    | some p => exact ⟨_, _, rfl⟩
  rw [hxy] at hR ⊢
  clear hs hxy
  go_enter Tryz.func21, Tryz.ntmps21
  go_wp2_with (go_at_call 37; refine hR.mono ?_; rintro e w1 ⟨rfl, hB1⟩)
  go_ret2
  exact ⟨rfl, hB1⟩
set_option maxHeartbeats 1000000 in
set_option maxRecDepth 100000 in
theorem readEscape_no (s : ByteArray) (b : UInt8) (l : List UInt8) (w : World) (hs : s.data.toList = b :: l) (hz : s.size ≤ 16384) (h10 : b.toNat ≠ 10) (h92 : b.toNat ≠ 92) (h39 : b.toNat ≠ 39) (h34 : b.toNat ≠ 34) (h110 : b.toNat ≠ 110) (h116 : b.toNat ≠ 116) (h114 : b.toNat ≠ 114) (h48 : b.toNat ≠ 48) (h120 : b.toNat ≠ 120) (h117 : b.toNat ≠ 117) :
    Calls Tryz.prog 21 #[.string s] w fun e w' => e = .returned (.tuple #[.string ⟨#[]⟩, .int .i64 0]) ∧ Below w.heap.size w w' := by
  have hemp := some_of hs
  obtain ⟨h0, hs0⟩ := first_of hs
  obtain ⟨X, hX⟩ : ∃ X : Int, (b.toNat : Int) = X := ⟨_, rfl⟩
  have e10 : (X == 10) = false := by rw [beq_eq_false_iff_ne]; omega
  have e92 : (X == 92) = false := by rw [beq_eq_false_iff_ne]; omega
  have e39 : (X == 39) = false := by rw [beq_eq_false_iff_ne]; omega
  have e34 : (X == 34) = false := by rw [beq_eq_false_iff_ne]; omega
  have e110 : (X == 110) = false := by rw [beq_eq_false_iff_ne]; omega
  have e116 : (X == 116) = false := by rw [beq_eq_false_iff_ne]; omega
  have e114 : (X == 114) = false := by rw [beq_eq_false_iff_ne]; omega
  have e48 : (X == 48) = false := by rw [beq_eq_false_iff_ne]; omega
  have e120 : (X == 120) = false := by rw [beq_eq_false_iff_ne]; omega
  have e117 : (X == 117) = false := by rw [beq_eq_false_iff_ne]; omega
  clear hs h10 h92 h39 h34 h110 h116 h114 h48 h120 h117
  go_enter Tryz.func21, Tryz.ntmps21
  go_wp2
  go_ret2
  exact ⟨rfl, Below.refl _ _⟩
set_option maxRecDepth 100000 in
theorem readEscape_end (s : ByteArray) (w : World) (hs : s.data.toList = []) :
    Calls Tryz.prog 21 #[.string s] w fun e w' => e = .returned (.tuple #[.string ⟨#[]⟩, .int .i64 0]) ∧ Below w.heap.size w w' := by
  have hemp := empty_of hs
  clear hs
  go_enter Tryz.func21, Tryz.ntmps21
  go_wp2
  go_ret2
  exact ⟨rfl, Below.refl _ _⟩
theorem readEscape_any (s : ByteArray) (T : List Nat) (w : World) (hs : s.data.toList = encs T) (hz : s.size ≤ 16384) (hsc : ∀ r ∈ T, Scalar r) (hE : ErrS w) :
    Calls Tryz.prog 21 #[.string s] w fun e w' => e = .returned (escA (escB T)) ∧ Below w.heap.size w w' := by
  cases T with
  | nil => exact readEscape_end s w hs
  | cons e u =>
      unfold escB
      simp only
      by_cases h10 : e = 10
      · subst h10
        rw [encs_one 10 (by omega)] at hs
        rw [show escR 10 u = some ([], 0) from rfl]
        exact (readEscape_10 s _ w hs hz).mono fun e w' ⟨h1, h2⟩ => ⟨h1.trans (by unfold escA; simp only; rw [encs_nil]; rfl), h2⟩
      by_cases h92 : e = 92
      · subst h92
        rw [encs_one 92 (by omega)] at hs
        rw [show escR 92 u = some ([92], 0) from rfl]
        exact (readEscape_92 s _ w hs hz).mono fun e w' ⟨h1, h2⟩ => ⟨h1.trans (by unfold escA; simp only; rw [encs_one 92 (by omega), encs_nil]; rfl), h2⟩
      by_cases h39 : e = 39
      · subst h39
        rw [encs_one 39 (by omega)] at hs
        rw [show escR 39 u = some ([39], 0) from rfl]
        exact (readEscape_39 s _ w hs hz).mono fun e w' ⟨h1, h2⟩ => ⟨h1.trans (by unfold escA; simp only; rw [encs_one 39 (by omega), encs_nil]; rfl), h2⟩
      by_cases h34 : e = 34
      · subst h34
        rw [encs_one 34 (by omega)] at hs
        rw [show escR 34 u = some ([34], 0) from rfl]
        exact (readEscape_34 s _ w hs hz).mono fun e w' ⟨h1, h2⟩ => ⟨h1.trans (by unfold escA; simp only; rw [encs_one 34 (by omega), encs_nil]; rfl), h2⟩
      by_cases h110 : e = 110
      · subst h110
        rw [encs_one 110 (by omega)] at hs
        rw [show escR 110 u = some ([10], 0) from rfl]
        exact (readEscape_110 s _ w hs hz).mono fun e w' ⟨h1, h2⟩ => ⟨h1.trans (by unfold escA; simp only; rw [encs_one 10 (by omega), encs_nil]; rfl), h2⟩
      by_cases h116 : e = 116
      · subst h116
        rw [encs_one 116 (by omega)] at hs
        rw [show escR 116 u = some ([9], 0) from rfl]
        exact (readEscape_116 s _ w hs hz).mono fun e w' ⟨h1, h2⟩ => ⟨h1.trans (by unfold escA; simp only; rw [encs_one 9 (by omega), encs_nil]; rfl), h2⟩
      by_cases h114 : e = 114
      · subst h114
        rw [encs_one 114 (by omega)] at hs
        rw [show escR 114 u = some ([13], 0) from rfl]
        exact (readEscape_114 s _ w hs hz).mono fun e w' ⟨h1, h2⟩ => ⟨h1.trans (by unfold escA; simp only; rw [encs_one 13 (by omega), encs_nil]; rfl), h2⟩
      by_cases h48 : e = 48
      · subst h48
        rw [encs_one 48 (by omega)] at hs
        rw [show escR 48 u = some ([0], 0) from rfl]
        exact (readEscape_48 s _ w hs hz).mono fun e w' ⟨h1, h2⟩ => ⟨h1.trans (by unfold escA; simp only; rw [encs_one 0 (by omega), encs_nil]; rfl), h2⟩
      by_cases h120 : e = 120
      · subst h120
        rw [encs_one 120 (by omega)] at hs
        exact readEscape_120 s u w hs hz (fun r hr => hsc r (by simp [hr])) hE
      by_cases h117 : e = 117
      · subst h117
        rw [encs_one 117 (by omega)] at hs
        exact readEscape_117 s u w hs hz (fun r hr => hsc r (by simp [hr])) hE
      have hno : escR e u = none := by unfold escR; rw [if_neg h10, if_neg (by omega), if_neg h110, if_neg h116, if_neg h114, if_neg h48, if_neg h120, if_neg h117]
      rw [hno]
      obtain ⟨b, tl, eb, hbt, _⟩ := enc_shape e (hsc e (by simp))
      rw [encs_cons, eb, List.cons_append] at hs
      have key : b.toNat = e ∨ 192 ≤ b.toNat := by
        rcases enc_cases e (hsc e (by simp)) with ⟨a, e2⟩ | ⟨a, a2, e2⟩ | ⟨a, a2, e2⟩ | ⟨a, a2, e2⟩ <;>
          (rw [e2] at eb; injection eb with e3 _; rw [← e3, byte_nat (by omega)]; omega)
      exact readEscape_no s b _ w hs hz (by omega) (by omega) (by omega) (by omega) (by omega) (by omega) (by omega) (by omega) (by omega) (by omega)
theorem below_draws (w : World) (n : Nat) : Below w.heap.size w (w.drewN n) := ⟨rfl, rfl, rfl, Nat.le_refl _, fun _ _ => rfl⟩
/-- The size of a text. -/
def strLen : Value → Nat
  | .string x => x.size
  | _ => 0
/-- What is known while the rest of a text is still to come. -/
def SvK (A : Option (List Nat)) (N : Nat) (acc T : List Nat) : Prop := A = (sv T).map (acc ++ ·) ∧ (encs acc).length + (encs T).length ≤ N ∧ ∀ r ∈ T, Scalar r
theorem SvK.last {A : Option (List Nat)} {N : Nat} {acc : List Nat} (h : SvK A N acc []) : A = some acc := by rw [h.1, sv_nil]; simp
theorem SvK.plain {A : Option (List Nat)} {N : Nat} {acc T : List Nat} (h : SvK A N acc T) (hp : 92 ∉ T) : SvK A N (acc ++ T) [] := by
  refine ⟨?_, by have := h.2.1; rw [encs_append, List.length_append, encs_nil]; simp; omega, by simp⟩
  have := sv_run T [] hp
  rw [List.append_nil, sv_nil] at this
  rw [h.1, this, sv_nil]; simp
theorem SvK.bad {A : Option (List Nat)} {N : Nat} {acc p u : List Nat} (h : SvK A N acc (p ++ 92 :: u)) (hp : 92 ∉ p) (hb : escB u = none) : A = none := by
  rw [h.1, sv_run _ _ hp]
  cases u with
  | nil => rw [sv_end]; rfl
  | cons e t => rw [sv_esc]; unfold escB at hb; simp only at hb; rw [hb]; rfl
theorem SvK.esc {A : Option (List Nat)} {N : Nat} {acc p u vs : List Nat} {k : Nat} (h : SvK A N acc (p ++ 92 :: u)) (hp : 92 ∉ p) (hb : escB u = some (vs, k)) :
    SvK A N (acc ++ p ++ vs) (u.drop (1 + k)) ∧ (encs u).drop (1 + k) = encs (u.drop (1 + k)) ∧ 1 + k ≤ (encs u).length ∧ (encs (acc ++ p)).length + (encs vs).length ≤ N ∧ (encs (u.drop (1 + k))).length < (encs (p ++ 92 :: u)).length := by
  obtain ⟨h1, h2, h3⟩ := h
  cases u with
  | nil => cases hb
  | cons e t =>
    unfold escB at hb
    simp only at hb
    have hst : ∀ r ∈ t, Scalar r := fun r hr => h3 r (by simp [hr])
    obtain ⟨f1, f2, f3, f4, f5, f6⟩ := escR_fit hst hb
    have he : e < 128 := by
      by_cases hh : e < 128
      · exact hh
      · exfalso
        have : escR e t = none := by unfold escR; rw [if_neg (by omega), if_neg (by omega), if_neg (by omega), if_neg (by omega), if_neg (by omega), if_neg (by omega), if_neg (by omega), if_neg (by omega)]
        rw [this] at hb; cases hb
    have hdr : (e :: t).drop (1 + k) = t.drop k := by rw [Nat.add_comm, List.drop_succ_cons]
    have h5 : (encs t).length = (encs (t.take k)).length + (encs (t.drop k)).length := by rw [← List.length_append, ← encs_split]
    have hoff : (encs t).drop k = encs (t.drop k) := by
      have := encs_drop t k
      unfold offOf at this
      rw [f4] at this; exact this
    rw [hdr]
    have e1 := encs_one e he t
    have e92 := encs_one 92 (by omega) (e :: t)
    have hl1 : (encs (p ++ 92 :: e :: t)).length = (encs p).length + ((encs t).length + 1 + 1) := by
      rw [encs_append, List.length_append, e92, List.length_cons, e1, List.length_cons]
    rw [hl1] at h2
    refine ⟨⟨?_, ?_, fun r hr => hst r (List.mem_of_mem_drop hr)⟩, ?_, ?_, ?_, ?_⟩
    · rw [h1, sv_run _ _ hp, sv_esc, hb]
      simp only [Option.bind_some]
      cases sv (t.drop k) <;> simp
    · rw [encs_append, encs_append, List.length_append, List.length_append]; omega
    · rw [e1, Nat.add_comm, List.drop_succ_cons, hoff]
    · rw [e1, List.length_cons]; omega
    · rw [encs_append, List.length_append]; omega
    · rw [hl1]; omega
theorem extract_end {s : ByteArray} {l : List UInt8} (k : Nat) (h : s.data.toList = l) : (s.extract k s.size).data.toList = l.drop k := by
  rw [Lib.extract_to_end, h]
theorem mk_list {s : ByteArray} {l : List UInt8} (h : s.data.toList = l) : s = ⟨l.toArray⟩ := by rw [← Lib.mk_data s, h]
theorem str_cells (l : List UInt8) : Lib.strCells ⟨l.toArray⟩ = Lib.byteCells l := by simp [Lib.strCells, Lib.byteCells]
set_option maxHeartbeats 4000000 in
set_option maxRecDepth 1000000 in
theorem strValue_any (s : ByteArray) (w : World) (hs : s.size ≤ 16777216) (hT : Tabs w) (hM : MaxK w) (hE : ErrS w) :
    Calls Tryz.prog 9 #[.string s] w fun e w' => e = .returned (.tuple #[.string (svT (svO s)), .bool (svO s).isSome]) ∧ Below w.heap.size w w' := by
  have hK := textOk_any s w (by omega) hT
  cases hA : textOf s with
  | none =>
    have hfa : svO s = none := by unfold svO; rw [hA]; rfl
    rw [hA, show (none : Option (List Nat)).isSome = false from rfl] at hK
    rw [hfa]
    clear hA hfa
    go_enter Tryz.func9, Tryz.ntmps9
    go_wp2_with fail
    refine hK.mono ?_
    rintro e w1 ⟨rfl, hB1⟩
    go_wp2
    go_ret2
    exact ⟨rfl, hB1⟩
  | some rs =>
    rw [hA, show (some rs).isSome = true from rfl] at hK
    obtain ⟨hs1, hs2, hs3⟩ := text_iff.1 hA
    have hsz : (encs rs).length = s.size := by rw [← hs2, ← size_eq]
    have hfa : svO s = sv rs := by unfold svO; rw [hA]; rfl
    have HV0 : Hid (SvK (sv rs) s.size [] rs) := ⟨by simp, by rw [encs_nil, hsz]; simp, hs3⟩
    have HS : Hid (s.data.toList = encs rs) := hs2
    rw [hfa]
    generalize sv rs = A at HV0 ⊢
    clear hA hs2 hs3 hsz hfa
    go_enter Tryz.func9, Tryz.ntmps9
    go_wp2_with fail
    refine hK.mono ?_
    rintro e w0 ⟨rfl, hB0⟩
    have hM0 := hM.below hB0
    have hE0 := hE.below hB0
    clear hK hM hE hT
    go_wp2
    go_loopw [5] (fun r wr => ∃ (R : ByteArray) (acc T : List Nat), r = .string R ∧ R.data.toList = encs T ∧ SvK A s.size acc T ∧ Bld w0.heap.size w0.heap.size (Lib.byteCells (encs acc)) wr ∧ Below w0.heap.size w0 wr) (fun r _ => strLen r)
    case atStart => exact ⟨s, [], rs, rfl, HS.out, HV0.out, Lib.IsBuilderF.of (Lib.fresh_isBuilder 42 5 w0), (Below.refl _ w0).alloc (Nat.le_refl _) _⟩
    case round =>
      obtain ⟨R, acc, T, rfl, hR, HK1, hI, hbw⟩ := hrel
      have HK : Hid (SvK A s.size acc T) := HK1
      have HR : Hid (R.data.toList = encs T) := hR
      have hRs : R.size = (encs T).length := by rw [size_eq, hR]
      have hsum := HK1.2.1
      have hRb : R.size ≤ 16384 := by omega
      have hab : (encs acc).length ≤ 16384 := by omega
      have HSc : Hid (∀ r ∈ T, Scalar r) := HK1.2.2
      have hMr := hM0.below hbw
      have hEr := hE0.below hbw
      clear HV0 HK1 HS hsum
      cases T with
      | nil =>
        rw [encs_nil] at hR
        have hemp := empty_of hR
        have hAs := HK.out.last
        subst hAs
        have hST := string_any w0.heap.size w0.heap.size (encs acc) wr hI hbw.size
        clear HK HR hR hRs HSc
        go_wp2_with (go_at_call 17; refine hST.mono ?_; rintro e W2 ⟨rfl, b2⟩)
        go_ret2
        exact ⟨rfl, hB0.trans ((hbw.trans b2).mono hB0.size)⟩
      | cons c0 t0 =>
        obtain ⟨b, tl, eb, _, _⟩ := enc_shape c0 (HSc.out c0 (by simp))
        have hemp : R.toList.isEmpty = false := some_of (b := b) (l := tl ++ encs t0) (by rw [hR, encs_cons, eb]; rfl)
        clear eb
        obtain ⟨m, hm⟩ := hMr
        have hCut := Any.strings_Cut Tryz.laysCut R ⟨#[92]⟩ m wr (by omega) hm
        rw [hR] at hCut
        obtain ⟨T, hTe⟩ : ∃ T, c0 :: t0 = T := ⟨_, rfl⟩
        rw [hTe] at hCut HK HR HSc hRs
        clear hTe hR
        rcases split92 T with hp | ⟨p, u, rfl, hp⟩
        · rw [show (⟨#[92]⟩ : ByteArray).data.toList = [92] from rfl, cut_plain T HSc.out hp] at hCut
          simp only at hCut
          have hRe := mk_list HR.out
          have HK2 : Hid (SvK A s.size (acc ++ T) []) := HK.out.plain hp
          have HBC : Hid (Lib.byteCells (encs acc) ++ Lib.strCells ⟨(encs T).toArray⟩ = Lib.byteCells (encs (acc ++ T))) := by
            show _ = _
            rw [str_cells, encs_append, Lib.byteCells_append]
          have hTs : (⟨(encs T).toArray⟩ : ByteArray).size ≤ 16384 := by rw [← hRe]; exact hRb
          obtain ⟨TX, hTX⟩ : ∃ TX : ByteArray, (⟨(encs T).toArray⟩ : ByteArray) = TX := ⟨_, rfl⟩
          rw [hTX] at hCut HBC hTs
          have hRp : 0 < R.size := by
            rcases Nat.eq_zero_or_pos R.size with h | h
            · exfalso
              rw [Lib.toList_data] at hemp
              have h1 : R.data.toList.length = 0 := by rw [← size_eq]; exact h
              rw [List.eq_nil_of_length_eq_zero h1] at hemp
              cases hemp
            · exact h
          clear hRe HK HR hTX hp HSc hRs
          go_wp2_with (first
            | (go_at_call 20; refine hCut.mono ?_; rintro e W1 ⟨rfl, n1, rfl⟩; have hI1 := bld_keep hI (below_draws wr n1); have hb1 := hbw.trans ((below_draws wr n1).mono hbw.size))
            | (go_at_call 15; refine (writeString_any w0.heap.size w0.heap.size _ _ _ hI1 (by rw [Lib.byteCells_length]; omega) hb1.size).mono ?_; rintro e W2 ⟨⟨nn, rfl⟩, hI2, b2, k2⟩; rw [HBC.out] at hI2))
          go_roundw
          case rel => exact ⟨⟨#[]⟩, acc ++ T, [], rfl, rfl, HK2.out, hI2, hb1.trans b2⟩
          case measure => show (⟨#[]⟩ : ByteArray).size < R.size; exact hRp
        · rw [show (⟨#[92]⟩ : ByteArray).data.toList = [92] from rfl, cut_esc p u HSc.out hp] at hCut
          simp only at hCut
          obtain ⟨U, hU⟩ : ∃ U : ByteArray, (⟨(encs u).toArray⟩ : ByteArray) = U := ⟨_, rfl⟩
          have hUd : U.data.toList = encs u := by rw [← hU]
          have hlen : (encs (p ++ 92 :: u)).length = (encs p).length + (encs u).length + 1 := by
            rw [encs_append, List.length_append, encs_one 92 (by omega), List.length_cons]; omega
          have hUs : U.size ≤ 16384 := by rw [size_eq, hUd]; omega
          have hRE := fun W h => readEscape_any U u W hUd hUs (fun r hr => HSc.out r (by simp [hr])) h
          obtain ⟨PX, hPX⟩ : ∃ PX : ByteArray, (⟨(encs p).toArray⟩ : ByteArray) = PX := ⟨_, rfl⟩
          have HBC : Hid (Lib.byteCells (encs acc) ++ Lib.strCells PX = Lib.byteCells (encs (acc ++ p))) := by
            show _ = _
            rw [← hPX, str_cells, encs_append, Lib.byteCells_append]
          have hPs : PX.size ≤ 16384 := by rw [← hPX]; show (encs p).toArray.size ≤ _; rw [List.size_toArray]; omega
          rw [hU, hPX] at hCut
          cases hx : escB u with
          | none =>
            have hAn := HK.out.bad hp hx
            subst hAn
            rw [hx] at hRE
            unfold escA at hRE
            simp only at hRE
            clear HK HR HSc hp hx hU hUd hPX hRs hlen
            go_wp2_with (first
              | (go_at_call 20; refine hCut.mono ?_; rintro e W1 ⟨rfl, n1, rfl⟩; have hI1 := bld_keep hI (below_draws wr n1); have hb1 := hbw.trans ((below_draws wr n1).mono hbw.size))
              | (go_at_call 15; refine (writeString_any w0.heap.size w0.heap.size _ _ _ hI1 (by rw [Lib.byteCells_length]; omega) hb1.size).mono ?_; rintro e W2 ⟨⟨nn, rfl⟩, hI2, b2, k2⟩; have hb2 := hb1.trans b2)
              | (go_at_call 21; refine (hRE _ (hE0.below hb2)).mono ?_; rintro e W3 ⟨rfl, b3⟩))
            go_ret2
            exact ⟨rfl, hB0.trans ((hb2.trans (b3.mono hb2.size)).mono hB0.size)⟩
          | some q =>
            obtain ⟨vs, k⟩ := q
            obtain ⟨HK2, hdr, hkl, hfit, hless⟩ := HK.out.esc hp hx
            have HKK : Hid (SvK A s.size (acc ++ p ++ vs) (u.drop (1 + k))) := HK2
            rw [hx] at hRE
            unfold escA at hRE
            simp only at hRE
            obtain ⟨VX, hVX⟩ : ∃ VX : ByteArray, (⟨(encs vs).toArray⟩ : ByteArray) = VX := ⟨_, rfl⟩
            obtain ⟨kk, hkk⟩ : ∃ kk : Nat, 1 + k = kk := ⟨_, rfl⟩
            have HBC2 : Hid (Lib.byteCells (encs (acc ++ p)) ++ Lib.strCells VX = Lib.byteCells (encs (acc ++ p ++ vs))) := by
              show _ = _
              rw [← hVX, str_cells, encs_append (acc ++ p) vs, Lib.byteCells_append]
            have hVs : VX.size ≤ 16384 := by rw [← hVX]; show (encs vs).toArray.size ≤ _; rw [List.size_toArray]; omega
            have hcl : (Lib.byteCells (encs (acc ++ p))).length ≤ 16384 := by rw [Lib.byteCells_length]; omega
            rw [hVX, hkk] at hRE
            rw [hkk] at hdr hkl HKK hless
            have hke : (U.extract kk U.size).data.toList = encs (u.drop kk) := by rw [extract_end kk hUd, hdr]
            have HKE : Hid ((U.extract kk U.size).data.toList = encs (u.drop kk)) := hke
            have hkz : (kk : Int) ≤ (U.size : Int) := by rw [size_eq, hUd]; omega
            have hk0 : ((kk : Int) == 0) = false := by rw [beq_eq_false_iff_ne]; omega
            have HLS : Hid ((U.extract kk U.size).size < R.size) := by show _ < _; rw [size_eq, hke, hRs]; exact hless
            clear HK HK2 HR HSc hp hx hU hUd hPX hRs hlen hVX hke hdr hkl hfit hless hkk
            go_wp2_with (first
              | (go_at_call 20; refine hCut.mono ?_; rintro e W1 ⟨rfl, n1, rfl⟩; have hI1 := bld_keep hI (below_draws wr n1); have hb1 := hbw.trans ((below_draws wr n1).mono hbw.size))
              | (go_at_call 21; refine (hRE _ (hE0.below hb2)).mono ?_; rintro e W3 ⟨rfl, b3⟩; have hI3 := bld_keep hI2 b3; have hb3 := hb2.trans (b3.mono hb2.size))
              | (have hstop := hI3; go_at_call 15; refine (writeString_any w0.heap.size w0.heap.size _ _ _ hI3 (by omega) hb3.size).mono ?_; rintro e W4 ⟨⟨nn, rfl⟩, hI4, b4, k4⟩; rw [HBC2.out] at hI4; have hb4 := hb3.trans b4)
              | (go_at_call 15; refine (writeString_any w0.heap.size w0.heap.size _ _ _ hI1 (by rw [Lib.byteCells_length]; omega) hb1.size).mono ?_; rintro e W2 ⟨⟨nn, rfl⟩, hI2, b2, k2⟩; rw [HBC.out] at hI2; have hb2 := hb1.trans b2))
            go_roundw
            case rel => exact ⟨U.extract kk U.size, acc ++ p ++ vs, u.drop kk, rfl, HKE.out, HKK.out, hI4, hb4⟩
            case measure => show (U.extract kk U.size).size < R.size; exact HLS.out
end Go.Proofs.YtfoofbcfcekleaaGreatDoor
