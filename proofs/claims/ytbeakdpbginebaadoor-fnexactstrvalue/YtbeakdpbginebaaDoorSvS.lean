import Derived.Test.YtbeakdpbginebaaDoorSvP
import Derived.Test.YtbeakdpbginebaaDoorPutS
import Derived.Test.YtbeakdpbginebaaDoorRTok
import Derived.Test.YtbeakdpbginebaaDoorTxI
namespace Go.Proofs.YtbeakdpbginebaaDoor
open Go.RowKit Go.Lib
set_option linter.unusedVariables false
set_option linter.unusedSimpArgs false

def hxI (c : Nat) : Int := match hxV c with | some d => (d : Int) | none => -1
theorem u8_sub {a : Int} {k : Int} (h0 : 0 ≤ a - k) (h1 : a - k < 256) : IntKind.u8.wrap (a - k) = a - k := u8_id h0 h1
set_option maxRecDepth 100000 in
theorem l4Digit_any (c : Nat) (w : World) (h : c < 256) :
    Calls Tryd.prog 33 #[.int .u8 c] w fun e w' => e = .returned (.bool (decide (48 ≤ c ∧ c ≤ 57))) ∧ w' = w := by
  by_cases h1 : 48 ≤ c
  · by_cases h2 : c ≤ 57
    · have z1 : (48 : Int) ≤ (c : Int) := by omega
      have z2 : (c : Int) ≤ 57 := by omega
      rw [decide_eq_true ⟨h1, h2⟩]
      go_enter Tryd.func33, Tryd.ntmps33
      go_wp2
      go_ret
      exact ⟨rfl, rfl⟩
    · have z1 : (48 : Int) ≤ (c : Int) := by omega
      have z2 : ¬ (c : Int) ≤ 57 := by omega
      rw [decide_eq_false (fun h => h2 h.2)]
      go_enter Tryd.func33, Tryd.ntmps33
      go_wp2
      go_ret
      exact ⟨rfl, rfl⟩
  · have z1 : ¬ (48 : Int) ≤ (c : Int) := by omega
    rw [decide_eq_false (fun h => h1 h.1)]
    go_enter Tryd.func33, Tryd.ntmps33
    go_wp2
    go_ret
    exact ⟨rfl, rfl⟩
set_option maxRecDepth 100000 in
theorem l4Hex_any (c : Nat) (w : World) (h : c < 256) :
    Calls Tryd.prog 18 #[.int .u8 c] w fun e w' => e = .returned (.int .i64 (hxI c)) ∧ w' = w := by
  have hD := fun W => l4Digit_any c W h
  unfold hxI hxV
  by_cases h1 : 48 ≤ c ∧ c ≤ 57
  · rw [decide_eq_true h1] at hD
    rw [if_pos h1]
    simp only
    obtain ⟨C, hC⟩ : ∃ C : Int, (c : Int) = C := ⟨_, rfl⟩
    rw [show ((c - 48 : Nat) : Int) = C - 48 by omega]
    rw [hC] at hD ⊢
    have w1 := u8_id (a := C - 48) (by omega) (by omega)
    have w2 := wrap_id (a := C - 48) (by omega) (by omega)
    clear h1
    go_enter Tryd.func18, Tryd.ntmps18
    go_wp2_with (go_at_call 33; refine (hD _).mono ?_; rintro e w' ⟨rfl, rfl⟩)
    go_ret
    first | exact ⟨rfl, rfl⟩ | (simp only [w1, w2]; exact ⟨rfl, rfl⟩) | (refine ⟨?_, rfl⟩; congr 2; omega)
  · rw [decide_eq_false h1] at hD
    rw [if_neg h1]
    by_cases h2 : 97 ≤ c ∧ c ≤ 102
    · rw [if_pos h2]
      simp only
      obtain ⟨C, hC⟩ : ∃ C : Int, (c : Int) = C := ⟨_, rfl⟩
      rw [show ((c - 87 : Nat) : Int) = C - 87 by omega]
      rw [hC] at hD ⊢
      have z1 : 97 ≤ C := by omega
      have z2 : C ≤ 102 := by omega
      have w1 := u8_id (a := C - 97) (by omega) (by omega)
      have w2 := wrap_id (a := C - 97) (by omega) (by omega)
      have w3 : IntKind.i64.wrap (C - 97 + 10) = C - 87 := by rw [wrap_id (by omega) (by omega)]; omega
      clear h1 h2
      go_enter Tryd.func18, Tryd.ntmps18
      go_wp2_with (go_at_call 33; refine (hD _).mono ?_; rintro e w' ⟨rfl, rfl⟩)
      go_ret
      first | exact ⟨rfl, rfl⟩ | (refine ⟨?_, rfl⟩; congr 2; omega)
    · rw [if_neg h2]
      by_cases h3 : 65 ≤ c ∧ c ≤ 70
      · rw [if_pos h3]
        simp only
        obtain ⟨C, hC⟩ : ∃ C : Int, (c : Int) = C := ⟨_, rfl⟩
        rw [show ((c - 55 : Nat) : Int) = C - 55 by omega]
        rw [hC] at hD ⊢
        have z0 : ¬ 97 ≤ C := by omega
        have z1 : 65 ≤ C := by omega
        have z2 : C ≤ 70 := by omega
        have w1 := u8_id (a := C - 65) (by omega) (by omega)
        have w2 := wrap_id (a := C - 65) (by omega) (by omega)
        have w3 : IntKind.i64.wrap (C - 65 + 10) = C - 55 := by rw [wrap_id (by omega) (by omega)]; omega
        clear h1 h2 h3
        go_enter Tryd.func18, Tryd.ntmps18
        go_wp2_with (go_at_call 33; refine (hD _).mono ?_; rintro e w' ⟨rfl, rfl⟩)
        go_ret
        first | exact ⟨rfl, rfl⟩ | (refine ⟨?_, rfl⟩; congr 2; omega)
      · rw [if_neg h3]
        simp only
        obtain ⟨C, hC⟩ : ∃ C : Int, (c : Int) = C := ⟨_, rfl⟩
        rw [hC] at hD ⊢
        by_cases a1 : 97 ≤ C
        · have z2 : ¬ C ≤ 102 := by omega
          have z3 : 65 ≤ C := by omega
          have z4 : ¬ C ≤ 70 := by omega
          clear h1 h2 h3
          go_enter Tryd.func18, Tryd.ntmps18
          go_wp2_with (go_at_call 33; refine (hD _).mono ?_; rintro e w' ⟨rfl, rfl⟩)
          go_ret
          exact ⟨rfl, rfl⟩
        · by_cases a2 : 65 ≤ C
          · have z4 : ¬ C ≤ 70 := by omega
            clear h1 h2 h3
            go_enter Tryd.func18, Tryd.ntmps18
            go_wp2_with (go_at_call 33; refine (hD _).mono ?_; rintro e w' ⟨rfl, rfl⟩)
            go_ret
            exact ⟨rfl, rfl⟩
          · clear h1 h2 h3
            go_enter Tryd.func18, Tryd.ntmps18
            go_wp2_with (go_at_call 33; refine (hD _).mono ?_; rintro e w' ⟨rfl, rfl⟩)
            go_ret
            exact ⟨rfl, rfl⟩
/-- What is known at a place: acc was read, the rest is still to come. -/
def SvAt (rs : List Nat) (A : Option (List Nat)) (k : Nat) (acc : List Nat) : Prop := A = (sv (rs.drop k)).map (acc ++ ·) ∧ acc.length ≤ k ∧ ∀ r ∈ acc, Scalar r
theorem SvAt.start (rs : List Nat) : SvAt rs (sv rs) 0 [] := ⟨by simp, by simp, by simp⟩
theorem SvAt.stop {rs : List Nat} {A : Option (List Nat)} {k : Nat} {acc : List Nat} (h : SvAt rs A k acc) (hk : ¬ k < rs.length) : A = some acc := by
  rw [h.1, List.drop_eq_nil_of_le (by omega), sv_nil]; simp
theorem SvAt.plain {rs : List Nat} {A : Option (List Nat)} {k : Nat} {acc : List Nat} {c : Nat} (h : SvAt rs A k acc) (hk : k < rs.length) (hc : rs[k] = c) (hn : c ≠ 92) (hs : Scalar c) : SvAt rs A (k + 1) (acc ++ [c]) := by
  refine ⟨?_, by simp; have := h.2.1; omega, fun r hr => ?_⟩
  · rw [h.1, List.drop_eq_getElem_cons hk, hc, sv_plain c _ hn]
    cases sv (rs.drop (k + 1)) <;> simp
  · rcases List.mem_append.1 hr with h1 | h1
    · exact h.2.2 r h1
    · simp at h1; subst h1; exact hs
theorem SvAt.last {rs : List Nat} {A : Option (List Nat)} {k : Nat} {acc : List Nat} (h : SvAt rs A k acc) (hk : k < rs.length) (hc : rs[k] = 92) (hl : k + 1 = rs.length) : A = none := by
  rw [h.1, List.drop_eq_getElem_cons hk, hc, List.drop_eq_nil_of_le (by omega), sv_end]; rfl
theorem SvAt.bad {rs : List Nat} {A : Option (List Nat)} {k : Nat} {acc : List Nat} {e : Nat} (h : SvAt rs A k acc) (hl : k + 1 < rs.length) (hc : rs[k]'(by omega) = 92) (he : rs[k + 1] = e) (hx : escR e (rs.drop (k + 2)) = none) : A = none := by
  rw [h.1, List.drop_eq_getElem_cons (by omega : k < rs.length), hc, List.drop_eq_getElem_cons hl, he, sv_esc, hx]; rfl
theorem SvAt.esc {rs : List Nat} {A : Option (List Nat)} {k m : Nat} {acc vs : List Nat} {e : Nat} (h : SvAt rs A k acc) (hs : ∀ r ∈ rs, Scalar r) (hl : k + 1 < rs.length) (hc : rs[k]'(by omega) = 92) (he : rs[k + 1] = e) (hx : escR e (rs.drop (k + 2)) = some (vs, m)) : SvAt rs A (k + 2 + m) (acc ++ vs) ∧ k + 2 + m ≤ rs.length := by
  obtain ⟨f1, f2, f3, f4, f5, f6⟩ := escR_fit (fun r hr => hs r (List.mem_of_mem_drop hr)) hx
  rw [List.length_drop] at f3
  refine ⟨⟨?_, by have := h.2.1; rw [List.length_append]; omega, fun r hr => ?_⟩, by omega⟩
  · rw [h.1, List.drop_eq_getElem_cons (by omega : k < rs.length), hc, List.drop_eq_getElem_cons hl, he, sv_esc, hx]
    simp only [Option.bind_some]
    rw [List.drop_drop]
    cases sv (rs.drop (k + 2 + m)) <;> simp
  · rcases List.mem_append.1 hr with h1 | h1
    · exact h.2.2 r h1
    · exact f1 r h1
/-- The digits of an escape, read up to the jj-th. -/
def HxAt (n : Nat) (t : List Nat) (jj V : Nat) : Prop := hxN n 0 t = hxN (n + 1 - jj) V (t.drop (jj - 1)) ∧ V < 16 ^ (jj - 1) ∧ 1 ≤ jj
theorem HxAt.start (n : Nat) (t : List Nat) : HxAt n t 1 0 := ⟨rfl, by simp, Nat.le_refl _⟩
theorem HxAt.stop {n : Nat} {t : List Nat} {V : Nat} (h : HxAt n t (n + 1) V) : hxN n 0 t = some V := by rw [h.1, Nat.sub_self]; rfl
theorem HxAt.next {n : Nat} {t : List Nat} {jj V c d : Nat} (h : HxAt n t jj V) (hj : jj ≤ n) (hc : t[jj - 1]? = some c) (hd : hxV c = some d) : HxAt n t (jj + 1) (V * 16 + d) := by
  obtain ⟨h1, h2, h3⟩ := h
  obtain ⟨j, rfl⟩ : ∃ j, jj = j + 1 := ⟨jj - 1, by omega⟩
  have hd1 := (hxV_lt hd).1
  refine ⟨?_, ?_, by omega⟩
  · rw [h1, show n + 1 - (j + 1) = (n + 1 - (j + 1 + 1)) + 1 by omega]
    rw [Nat.add_sub_cancel] at hc ⊢
    obtain ⟨hl, rfl⟩ := List.getElem?_eq_some_iff.1 hc
    rw [List.drop_eq_getElem_cons hl, hxN, hd]
    rfl
  · rw [Nat.add_sub_cancel] at h2 ⊢
    rw [Nat.pow_succ]; omega
theorem HxAt.bad {n : Nat} {t : List Nat} {jj V : Nat} (h : HxAt n t jj V) (hj : jj ≤ n) (hc : ∀ c, t[jj - 1]? = some c → hxV c = none) : hxN n 0 t = none := by
  obtain ⟨h1, h2, h3⟩ := h
  rw [h1, show n + 1 - jj = (n - jj) + 1 by omega]
  cases ht : t.drop (jj - 1) with
  | nil => rfl
  | cons c u =>
    have : t[jj - 1]? = some c := by rw [← Nat.add_zero (jj - 1), ← List.getElem?_drop, ht]; rfl
    rw [hxN, hc c this]; rfl
theorem ansL_length' (rs : List Nat) : (ansL (some rs)).length = rs.length := by simp [ansL]
/-- What StrValue answers. -/
def svO (s : ByteArray) : Option (List Nat) := (textOf s).bind sv
def svT : Option (List Nat) → ByteArray
  | none => ⟨#[]⟩
  | some vs => ⟨(encs vs).toArray⟩
theorem U8.own_some {w : World} {B : Nat} {a : Option Addr} {n cap : Nat} {xs : List Int} (h : U8.Own w B (.slice a n cap) xs) (h0 : 0 < xs.length) : ∃ g, a = some ⟨g, 0, none⟩ := by
  rcases h.shape with ⟨hv, hz⟩ | ⟨g, cp, hv, _⟩
  · rw [hz] at h0; simp at h0
  · simp only [Value.slice.injEq] at hv
    exact ⟨g, hv.1⟩
theorem bz_put (acc : List Nat) (v : Nat) (h : v < 128) : bz (encs acc) ++ [(v : Int)] = bz (encs (acc ++ [v])) := by
  have : encs (acc ++ [v]) = encs acc ++ [v.toUInt8] := by
    rw [encs_append, encs_cons, encs_nil, List.append_nil]
    rcases enc_cases v (.inl (by omega)) with ⟨a, e⟩ | ⟨a, b, e⟩ | ⟨a, b, e⟩ | ⟨a, b, e⟩
    · rw [e]
    all_goals omega
  rw [this]; unfold bz; rw [List.map_append]
  simp [byte_nat (n := v) (by omega)]
theorem bz_lenS (l : List UInt8) : (bz l).length = l.length := by simp [bz]
set_option maxHeartbeats 3000000 in
set_option maxRecDepth 100000 in
theorem strValueS_any (s : ByteArray) (w : World) (hs : s.size ≤ 16777216) :
    Calls Tryd.prog 7 #[.string s] w fun e w' => e = .returned (.tuple #[.string (svT (svO s)), .bool (svO s).isSome]) ∧ Below w.heap.size w w' := by
  have hR := l3Runes_any s w (by omega)
  cases hA : textOf s with
  | none =>
    have hfa : svO s = none := by unfold svO; rw [hA]; rfl
    rw [hA, show (none : Option (List Nat)).isSome = false from rfl] at hR
    rw [hfa]
    clear hA hfa
    go_enter Tryd.func7, Tryd.ntmps7
    go_wp2_with (go_at_call 9; refine hR.mono ?_; rintro e w1 ⟨a1, c1, rfl, hO1, hB1⟩)
    go_ret2
    exact ⟨rfl, hB1⟩
  | some rs =>
    rw [hA, ansL_length', show (some rs).isSome = true from rfl] at hR
    obtain ⟨hs1, hs2, hs3⟩ := text_iff.1 hA
    have hsz : (encs rs).length = s.size := by rw [← hs2, ← size_eq]
    have hrl : rs.length ≤ 16384 := by have := encs_len rs hs3; omega
    have hfa : svO s = sv rs := by unfold svO; rw [hA]; rfl
    have HFT : Hid (∀ vs, sv rs = some vs → textOf ⟨(encs vs).toArray⟩ = some vs) := fun vs hv => by
      obtain ⟨g1, g2⟩ := sv_fit rs.length rs vs (Nat.le_refl _) hs3 hv
      rw [text_iff]
      refine ⟨?_, by simp, g1⟩
      show (encs vs).toArray.size ≤ 16384
      rw [List.size_toArray]; omega
    have HV0 : Hid (SvAt rs (sv rs) 0 []) := SvAt.start rs
    have HSc : Hid (∀ r ∈ rs, Scalar r) := hs3
    rw [hfa]
    generalize sv rs = A at HV0 HFT ⊢
    clear hA hs2 hs3 hsz hfa
    go_enter Tryd.func7, Tryd.ntmps7
    go_wp2_with (go_at_call 9; refine hR.mono ?_; rintro e w1 ⟨a1, c1, rfl, hO1, hB1⟩)
    have HRd : Hid (Rd w1 (.slice a1 rs.length c1) (rs.map fun (n : Nat) => (n : Int))) := hO1.rd
    clear hO1 hR
    go_loopw [6, 7] (fun o i wr => ∃ (k g n co : Nat) (acc : List Nat), k ≤ rs.length ∧ i = .int .i64 k ∧ n = (encs acc).length ∧ o = .slice (some ⟨g, 0, none⟩) n co ∧ SvAt rs A k acc ∧ U8.Own wr w1.heap.size (.slice (some ⟨g, 0, none⟩) n co) (bz (encs acc)) ∧ Below w1.heap.size w1 wr) (fun _ i _ => rs.length - (intOf i).toNat)
    case atStart => exact ⟨0, w1.heap.size, 0, 0, [], by omega, rfl, rfl, rfl, HV0.out, U8.Own.empty w1, (Below.refl _ _).alloc (Nat.le_refl _) _⟩
    case round =>
      obtain ⟨k, g, n, co, acc, hk, rfl, hn, rfl, HV1, hOw, hBr⟩ := hrel
      have HV : Hid (SvAt rs A k acc) := HV1
      have HN : Hid (n = (encs acc).length) := hn
      have hal : acc.length ≤ 16384 := by have := HV1.2.1; omega
      have hel : (encs acc).length ≤ 65536 := by have := encs_le4 acc; omega
      clear HV0 HV1 hn
      by_cases hi : k < rs.length
      · have hiz : (k : Int) < (rs.length : Int) := by omega
        obtain ⟨a2, cap2, e2, _, _, hn0, hcc⟩ := HRd.out.keep hBr
        simp only [Value.slice.injEq, List.length_map] at e2
        obtain ⟨rfl, _, rfl⟩ := e2
        obtain ⟨b, off, rfl, hb, hcell0⟩ := hcc (by simp; omega)
        have HC : Hid (∀ j c, (hj : j < rs.length) → rs[j] = c → wr.cell? ⟨b, off + j, none⟩ = some (.int .i64 c)) := fun j c hj hc => by
          have := hcell0 j (by simpa using hj)
          rw [this]
          simp [List.getD, hj, hc]
        clear hcc hcell0
        obtain ⟨c, hcd⟩ : ∃ c, rs[k] = c := ⟨_, rfl⟩
        have hck := HC.out k c hi hcd
        have hsc : Scalar c := by rw [← hcd]; exact HSc.out _ (List.getElem_mem hi)
        by_cases h92 : c = 92
        · have hc92 : rs[k] = 92 := hcd.trans h92
          subst h92
          clear hsc
          obtain ⟨k1, hk1⟩ : ∃ k1 : Nat, k + 1 = k1 := ⟨_, rfl⟩
          have hw1 : IntKind.i64.wrap ((k : Int) + 1) = (k1 : Int) := by rw [wrap_id (by omega) (by omega)]; omega
          by_cases hl : k1 < rs.length
          · have hlb : ((k1 : Int) == (rs.length : Int)) = false := by rw [beq_eq_false_iff_ne]; omega
            obtain ⟨e, he⟩ : ∃ e, rs[k1] = e := ⟨_, rfl⟩
            have hce := HC.out k1 e hl he
            have hes : Scalar e := by rw [← he]; exact HSc.out _ (List.getElem_mem hl)
            obtain ⟨k2, hk2⟩ : ∃ k2 : Nat, k1 + 1 = k2 := ⟨_, rfl⟩
            have hw2 : IntKind.i64.wrap ((k1 : Int) + 1) = (k2 : Int) := by rw [wrap_id (by omega) (by omega)]; omega
            have hk1z : (k1 : Int) < (rs.length : Int) := by omega
            have HBAD : Hid (escR e (rs.drop k2) = none → A = none) := fun h => by
              subst hk1; subst hk2
              exact HV.out.bad hl hc92 he h
            have HESC : Hid (∀ vs m, escR e (rs.drop k2) = some (vs, m) → SvAt rs A (k2 + m) (acc ++ vs) ∧ k2 + m ≤ rs.length) := fun vs m h => by
              subst hk1; subst hk2
              exact HV.out.esc HSc.out hl hc92 he h
            clear HV hc92 hcd
            by_cases h10 : e = 10
            · subst h10
              obtain ⟨HV2, hle⟩ := HESC.out [] 0 rfl
              rw [List.append_nil] at HV2
              have HVV : Hid (SvAt rs A k2 acc) := HV2
              clear HV2 HESC HBAD HFT HC hes
              go_wp2
              go_roundw
              case rel => exact ⟨k2, g, n, co, acc, by omega, rfl, HN.out, rfl, HVV.out, hOw, hBr⟩
              case measure => first | (simp [intOf]; done) | (simp [intOf]; omega)
            · have b10 : ((e : Int) == 10) = false := by rw [beq_eq_false_iff_ne]; omega
              by_cases h92 : e = 92
              · subst h92
                obtain ⟨HV2, hle⟩ := HESC.out [92] 0 rfl
                have HVV : Hid (SvAt rs A k2 (acc ++ [92])) := HV2
                have hP := fun W ho hb => l3Put_any w1.heap.size (some ⟨g, 0, none⟩) n co 92 (encs acc) W hes ho hb (by omega)
                have HE : Hid (encs acc ++ encodeRune ((92 : Nat) : Int) = encs (acc ++ [92])) := by
                  show _ = _
                  rw [encs_append, encs_cons, encs_nil, List.append_nil]
                rw [HE.out] at hP
                obtain ⟨m, hm⟩ : ∃ m, (encs (acc ++ [92])).length = m := ⟨_, rfl⟩
                rw [hm] at hP
                clear HV2 HESC HBAD HFT HC hes
                go_wp2_with (go_at_call 17; refine (hP _ hOw hBr.size).mono ?_; rintro e w2 ⟨g1, c2, rfl, hO1, hB2⟩)
                go_roundw
                case rel => exact ⟨k2, g1, m, c2, acc ++ [92], by omega, rfl, hm.symm, rfl, HVV.out, hO1, hBr.trans hB2⟩
                case measure => first | (simp [intOf]; done) | (simp [intOf]; omega)
              · have b92 : ((e : Int) == 92) = false := by rw [beq_eq_false_iff_ne]; omega
                by_cases h39 : e = 39
                · subst h39
                  obtain ⟨HV2, hle⟩ := HESC.out [39] 0 rfl
                  have HVV : Hid (SvAt rs A k2 (acc ++ [39])) := HV2
                  have hP := fun W ho hb => l3Put_any w1.heap.size (some ⟨g, 0, none⟩) n co 39 (encs acc) W hes ho hb (by omega)
                  have HE : Hid (encs acc ++ encodeRune ((39 : Nat) : Int) = encs (acc ++ [39])) := by
                    show _ = _
                    rw [encs_append, encs_cons, encs_nil, List.append_nil]
                  rw [HE.out] at hP
                  obtain ⟨m, hm⟩ : ∃ m, (encs (acc ++ [39])).length = m := ⟨_, rfl⟩
                  rw [hm] at hP
                  clear HV2 HESC HBAD HFT HC hes
                  go_wp2_with (go_at_call 17; refine (hP _ hOw hBr.size).mono ?_; rintro e w2 ⟨g1, c2, rfl, hO1, hB2⟩)
                  go_roundw
                  case rel => exact ⟨k2, g1, m, c2, acc ++ [39], by omega, rfl, hm.symm, rfl, HVV.out, hO1, hBr.trans hB2⟩
                  case measure => first | (simp [intOf]; done) | (simp [intOf]; omega)
                · have b39 : ((e : Int) == 39) = false := by rw [beq_eq_false_iff_ne]; omega
                  by_cases h34 : e = 34
                  · subst h34
                    obtain ⟨HV2, hle⟩ := HESC.out [34] 0 rfl
                    have HVV : Hid (SvAt rs A k2 (acc ++ [34])) := HV2
                    have hP := fun W ho hb => l3Put_any w1.heap.size (some ⟨g, 0, none⟩) n co 34 (encs acc) W hes ho hb (by omega)
                    have HE : Hid (encs acc ++ encodeRune ((34 : Nat) : Int) = encs (acc ++ [34])) := by
                      show _ = _
                      rw [encs_append, encs_cons, encs_nil, List.append_nil]
                    rw [HE.out] at hP
                    obtain ⟨m, hm⟩ : ∃ m, (encs (acc ++ [34])).length = m := ⟨_, rfl⟩
                    rw [hm] at hP
                    clear HV2 HESC HBAD HFT HC hes
                    go_wp2_with (go_at_call 17; refine (hP _ hOw hBr.size).mono ?_; rintro e w2 ⟨g1, c2, rfl, hO1, hB2⟩)
                    go_roundw
                    case rel => exact ⟨k2, g1, m, c2, acc ++ [34], by omega, rfl, hm.symm, rfl, HVV.out, hO1, hBr.trans hB2⟩
                    case measure => first | (simp [intOf]; done) | (simp [intOf]; omega)
                  · have b34 : ((e : Int) == 34) = false := by rw [beq_eq_false_iff_ne]; omega
                    by_cases h110 : e = 110
                    · subst h110
                      obtain ⟨HV2, hle⟩ := HESC.out [10] 0 rfl
                      have HVV : Hid (SvAt rs A k2 (acc ++ [10])) := HV2
                      have hBA := hBr.alloc hBr.size (Obj.cells #[.int .u8 10] 5)
                      clear HV2 HESC HBAD HFT HC hes
                      go_wp2_with (at_builtin; refine U8.wpList_append_rd rfl _ _ 34 rfl Tryd.underlying34 w1.heap.size _ _ (bz (encs acc)) [10] rfl rfl (hOw.alloc _) (U8.Rd.one wr wr.heap.size rfl 5 (by omega) (by omega)) (by rw [bz_lenS]; simp only [List.length_cons, List.length_nil]; omega) (by have := hBr.size; simp; omega) ?_; intro a3 c3 w2 hO1 hB2)
                      obtain ⟨g3, rfl⟩ := U8.own_some hO1 (by simp)
                      have hbp := bz_put acc 10 (by omega)
                      rw [show ((10 : Nat) : Int) = 10 from rfl] at hbp
                      rw [hbp, bz_lenS] at hO1
                      have HLn : Hid ((bz (encs acc) ++ [10]).length = (encs (acc ++ [10])).length) := by show _ = _; rw [hbp, bz_lenS]
                      clear hbp
                      go_roundw
                      case rel => exact ⟨k2, g3, (encs (acc ++ [10])).length, c3, acc ++ [10], by omega, rfl, rfl, (by have h := HLn.out; rw [List.length_append, List.length_cons, List.length_nil] at h; first | (congr 1; done) | (congr 1; omega)), HVV.out, hO1, hBA.trans hB2⟩
                      case measure => first | (simp [intOf]; done) | (simp [intOf]; omega)
                    · have b110 : ((e : Int) == 110) = false := by rw [beq_eq_false_iff_ne]; omega
                      by_cases h116 : e = 116
                      · subst h116
                        obtain ⟨HV2, hle⟩ := HESC.out [9] 0 rfl
                        have HVV : Hid (SvAt rs A k2 (acc ++ [9])) := HV2
                        have hBA := hBr.alloc hBr.size (Obj.cells #[.int .u8 9] 5)
                        clear HV2 HESC HBAD HFT HC hes
                        go_wp2_with (at_builtin; refine U8.wpList_append_rd rfl _ _ 34 rfl Tryd.underlying34 w1.heap.size _ _ (bz (encs acc)) [9] rfl rfl (hOw.alloc _) (U8.Rd.one wr wr.heap.size rfl 5 (by omega) (by omega)) (by rw [bz_lenS]; simp only [List.length_cons, List.length_nil]; omega) (by have := hBr.size; simp; omega) ?_; intro a3 c3 w2 hO1 hB2)
                        obtain ⟨g3, rfl⟩ := U8.own_some hO1 (by simp)
                        have hbp := bz_put acc 9 (by omega)
                        rw [show ((9 : Nat) : Int) = 9 from rfl] at hbp
                        rw [hbp, bz_lenS] at hO1
                        have HLn : Hid ((bz (encs acc) ++ [9]).length = (encs (acc ++ [9])).length) := by show _ = _; rw [hbp, bz_lenS]
                        clear hbp
                        go_roundw
                        case rel => exact ⟨k2, g3, (encs (acc ++ [9])).length, c3, acc ++ [9], by omega, rfl, rfl, (by have h := HLn.out; rw [List.length_append, List.length_cons, List.length_nil] at h; first | (congr 1; done) | (congr 1; omega)), HVV.out, hO1, hBA.trans hB2⟩
                        case measure => first | (simp [intOf]; done) | (simp [intOf]; omega)
                      · have b116 : ((e : Int) == 116) = false := by rw [beq_eq_false_iff_ne]; omega
                        by_cases h114 : e = 114
                        · subst h114
                          obtain ⟨HV2, hle⟩ := HESC.out [13] 0 rfl
                          have HVV : Hid (SvAt rs A k2 (acc ++ [13])) := HV2
                          have hBA := hBr.alloc hBr.size (Obj.cells #[.int .u8 13] 5)
                          clear HV2 HESC HBAD HFT HC hes
                          go_wp2_with (at_builtin; refine U8.wpList_append_rd rfl _ _ 34 rfl Tryd.underlying34 w1.heap.size _ _ (bz (encs acc)) [13] rfl rfl (hOw.alloc _) (U8.Rd.one wr wr.heap.size rfl 5 (by omega) (by omega)) (by rw [bz_lenS]; simp only [List.length_cons, List.length_nil]; omega) (by have := hBr.size; simp; omega) ?_; intro a3 c3 w2 hO1 hB2)
                          obtain ⟨g3, rfl⟩ := U8.own_some hO1 (by simp)
                          have hbp := bz_put acc 13 (by omega)
                          rw [show ((13 : Nat) : Int) = 13 from rfl] at hbp
                          rw [hbp, bz_lenS] at hO1
                          have HLn : Hid ((bz (encs acc) ++ [13]).length = (encs (acc ++ [13])).length) := by show _ = _; rw [hbp, bz_lenS]
                          clear hbp
                          go_roundw
                          case rel => exact ⟨k2, g3, (encs (acc ++ [13])).length, c3, acc ++ [13], by omega, rfl, rfl, (by have h := HLn.out; rw [List.length_append, List.length_cons, List.length_nil] at h; first | (congr 1; done) | (congr 1; omega)), HVV.out, hO1, hBA.trans hB2⟩
                          case measure => first | (simp [intOf]; done) | (simp [intOf]; omega)
                        · have b114 : ((e : Int) == 114) = false := by rw [beq_eq_false_iff_ne]; omega
                          by_cases h48 : e = 48
                          · subst h48
                            obtain ⟨HV2, hle⟩ := HESC.out [0] 0 rfl
                            have HVV : Hid (SvAt rs A k2 (acc ++ [0])) := HV2
                            have hBA := hBr.alloc hBr.size (Obj.cells #[.int .u8 0] 5)
                            clear HV2 HESC HBAD HFT HC hes
                            go_wp2_with (at_builtin; refine U8.wpList_append_rd rfl _ _ 34 rfl Tryd.underlying34 w1.heap.size _ _ (bz (encs acc)) [0] rfl rfl (hOw.alloc _) (U8.Rd.one wr wr.heap.size rfl 5 (by omega) (by omega)) (by rw [bz_lenS]; simp only [List.length_cons, List.length_nil]; omega) (by have := hBr.size; simp; omega) ?_; intro a3 c3 w2 hO1 hB2)
                            obtain ⟨g3, rfl⟩ := U8.own_some hO1 (by simp)
                            have hbp := bz_put acc 0 (by omega)
                            rw [show ((0 : Nat) : Int) = 0 from rfl] at hbp
                            rw [hbp, bz_lenS] at hO1
                            have HLn : Hid ((bz (encs acc) ++ [0]).length = (encs (acc ++ [0])).length) := by show _ = _; rw [hbp, bz_lenS]
                            clear hbp
                            go_roundw
                            case rel => exact ⟨k2, g3, (encs (acc ++ [0])).length, c3, acc ++ [0], by omega, rfl, rfl, (by have h := HLn.out; rw [List.length_append, List.length_cons, List.length_nil] at h; first | (congr 1; done) | (congr 1; omega)), HVV.out, hO1, hBA.trans hB2⟩
                            case measure => first | (simp [intOf]; done) | (simp [intOf]; omega)
                          · have b48 : ((e : Int) == 48) = false := by rw [beq_eq_false_iff_ne]; omega
                            by_cases h120 : e = 120
                            · subst h120
                              have HPB : Hid (hxN 2 0 (rs.drop k2) = none → A = none) := fun h => HBAD.out (by show ptR 2 _ = none; unfold ptR; rw [h]; rfl)
                              have HPS : Hid (∀ V, hxN 2 0 (rs.drop k2) = some V → 55296 ≤ V ∧ V < 57344 → A = none) := fun V h h2 => HBAD.out (by show ptR 2 _ = none; unfold ptR; rw [h]; exact if_pos h2)
                              have HPE : Hid (∀ V, hxN 2 0 (rs.drop k2) = some V → ¬ (55296 ≤ V ∧ V < 57344) → SvAt rs A (k2 + 2) (acc ++ [V]) ∧ k2 + 2 ≤ rs.length) := fun V h h2 => HESC.out [V] 2 (by show ptR 2 _ = _; unfold ptR; rw [h]; exact if_neg h2)
                              have HT : Hid (∀ jj c, 1 ≤ jj → (hj : k1 + jj < rs.length) → rs[k1 + jj] = c → (rs.drop k2)[jj - 1]? = some c) := fun jj c h1 hj hc => by
                                rw [List.getElem?_drop, show k2 + (jj - 1) = k1 + jj by omega, List.getElem?_eq_getElem hj, hc]
                              have HTE : Hid (∀ jj c, 1 ≤ jj → ¬ k1 + jj < rs.length → (rs.drop k2)[jj - 1]? = some c → hxV c = none) := fun jj c h1 hj hc => by
                                rw [List.getElem?_drop, show k2 + (jj - 1) = k1 + jj by omega, List.getElem?_eq_none (by omega)] at hc; cases hc
                              clear HBAD HESC hes he
                              go_wp2
                              generalize wr = wb at *
                              go_loopw [9, 10] (fun vv kk wq => ∃ (jj V : Nat), jj ≤ 2 + 1 ∧ kk = .int .i64 jj ∧ vv = .int .i64 V ∧ V ≤ 65536 ∧ HxAt 2 (rs.drop k2) jj V ∧ wq = wb) (fun _ i _ => 2 + 1 - (intOf i).toNat)
                              case atStart => exact ⟨1, 0, by omega, rfl, rfl, by omega, HxAt.start _ _, rfl⟩
                              case round =>
                                obtain ⟨jj, V, hjj, rfl, rfl, hVb, HX1, rfl⟩ := hrel
                                have hj1 : 1 ≤ jj := HX1.2.2
                                have HX : Hid (HxAt 2 (rs.drop k2) jj V) := HX1
                                clear HX1
                                by_cases hjn : jj ≤ 2
                                · have hjz : (jj : Int) ≤ 2 := by omega
                                  obtain ⟨q, hq⟩ : ∃ q : Nat, k1 + jj = q := ⟨_, rfl⟩
                                  have hwq : IntKind.i64.wrap ((k1 : Int) + (jj : Int)) = (q : Int) := by rw [wrap_id (by omega) (by omega)]; omega
                                  have hwj := wrap_id (a := (jj : Int) + 1) (by omega) (by omega)
                                  by_cases hql : q < rs.length
                                  · have hqz : ¬ (rs.length : Int) ≤ (q : Int) := by omega
                                    have hqz2 : (q : Int) < (rs.length : Int) := by omega
                                    obtain ⟨c, hcd⟩ : ∃ c, rs[q] = c := ⟨_, rfl⟩
                                    have hcq := HC.out q c hql hcd
                                    have htq : (rs.drop k2)[jj - 1]? = some c := by subst hq; exact HT.out jj c hj1 hql hcd
                                    have HTQ : Hid ((rs.drop k2)[jj - 1]? = some c) := htq
                                    clear htq hq
                                    by_cases h127 : c ≤ 127
                                    · have h127z : ¬ (127 : Int) < (c : Int) := by omega
                                      have hwu := u8_id (a := (c : Int)) (by omega) (by omega)
                                      have hH := fun W => l4Hex_any c W (by omega)
                                      cases hhx : hxV c with
                                      | none =>
                                        have hhi : hxI c = -1 := by unfold hxI; rw [hhx]
                                        rw [hhi] at hH
                                        have hAn : A = none := HPB.out (HX.out.bad hjn (fun c' hc' => by rw [HTQ.out] at hc'; cases hc'; exact hhx))
                                        subst hAn
                                        clear HX HPB HPS HPE HT HTE HFT HC hcd hhi hhx HTQ
                                        go_wp2_with (go_at_call 18; refine (hH _).mono ?_; rintro e w2 ⟨rfl, rfl⟩)
                                        go_ret2
                                        exact ⟨rfl, hB1.trans (hBr.mono hB1.size)⟩
                                      | some d =>
                                        have hhi : hxI c = (d : Int) := by unfold hxI; rw [hhx]
                                        rw [hhi] at hH
                                        have hd16 := (hxV_lt hhx).1
                                        have HX2 : Hid (HxAt 2 (rs.drop k2) (jj + 1) (V * 16 + d)) := HX.out.next hjn HTQ.out hhx
                                        have hVn : V * 16 + d ≤ 65535 := by
                                          have h1 := HX2.out.2.1
                                          rw [Nat.add_sub_cancel] at h1
                                          have h2 : 16 ^ jj ≤ 16 ^ 2 := Nat.pow_le_pow_right (by omega) hjn
                                          have h3 : (16 : Nat) ^ 2 ≤ 65536 := by decide
                                          omega
                                        have hdz : ¬ (d : Int) < 0 := by omega
                                        have hwm := wrap_id (a := (V : Int) * 16) (by omega) (by omega)
                                        obtain ⟨V2, hV2⟩ : ∃ V2 : Nat, V * 16 + d = V2 := ⟨_, rfl⟩
                                        have hwa : IntKind.i64.wrap ((V : Int) * 16 + (d : Int)) = (V2 : Int) := by rw [wrap_id (by omega) (by omega)]; omega
                                        rw [hV2] at HX2 hVn
                                        clear HX HPB HPS HPE HT HTE HFT HC hcd hhi hhx HTQ hV2
                                        go_wp2_with (go_at_call 18; refine (hH _).mono ?_; rintro e w2 ⟨rfl, rfl⟩)
                                        go_roundw
                                        case rel => exact ⟨jj + 1, V2, by omega, by go_num, rfl, by omega, HX2.out, (by first | rfl | trivial)⟩
                                        case measure => first | (simp [intOf]; done) | (simp [intOf]; omega)
                                    · have h127z : (127 : Int) < (c : Int) := by omega
                                      have hAn : A = none := HPB.out (HX.out.bad hjn (fun c' hc' => by
                                        rw [HTQ.out] at hc'; cases hc'
                                        cases hhx : hxV c with
                                        | none => rfl
                                        | some d => have := (hxV_lt hhx).2; omega))
                                      subst hAn
                                      clear HX HPB HPS HPE HT HTE HFT HC hcd HTQ
                                      go_wp2
                                      go_ret2
                                      exact ⟨rfl, hB1.trans (hBr.mono hB1.size)⟩
                                  · have hqz : (rs.length : Int) ≤ (q : Int) := by omega
                                    have hAn : A = none := HPB.out (HX.out.bad hjn (fun c' hc' => HTE.out jj c' hj1 (by omega) hc'))
                                    subst hAn
                                    clear HX HPB HPS HPE HT HTE HFT HC hq
                                    go_wp2
                                    go_ret2
                                    exact ⟨rfl, hB1.trans (hBr.mono hB1.size)⟩
                                · have hjz : ¬ (jj : Int) ≤ 2 := by omega
                                  obtain rfl : jj = 2 + 1 := by omega
                                  have hVs := HX.out.stop
                                  have HVS : Hid (hxN 2 0 (rs.drop k2) = some V) := hVs
                                  clear hVs HX HPB HT HTE HC
                                  by_cases hsu : 55296 ≤ V ∧ V < 57344
                                  · have hAn : A = none := HPS.out V HVS.out hsu
                                    have z1 : (55296 : Int) ≤ (V : Int) := by omega
                                    have z2 : (V : Int) < 57344 := by omega
                                    subst hAn
                                    clear HPS HPE HFT HVS
                                    go_wp2
                                    go_ret2
                                    exact ⟨rfl, hB1.trans (hBr.mono hB1.size)⟩
                                  · obtain ⟨HV2, hle⟩ := HPE.out V HVS.out hsu
                                    have HVV : Hid (SvAt rs A (k2 + 2) (acc ++ [V])) := HV2
                                    have hvs : Scalar V := HV2.2.2 V (by simp)
                                    have hP := fun W ho hb => l3Put_any w1.heap.size (some ⟨g, 0, none⟩) n co V (encs acc) W hvs ho hb (by omega)
                                    have HE : Hid (encs acc ++ encodeRune (V : Int) = encs (acc ++ [V])) := by
                                      show _ = _
                                      rw [encs_append, encs_cons, encs_nil, List.append_nil]
                                    rw [HE.out] at hP
                                    obtain ⟨m, hm⟩ : ∃ m, (encs (acc ++ [V])).length = m := ⟨_, rfl⟩
                                    rw [hm] at hP
                                    obtain ⟨k3, hk3⟩ : ∃ k3 : Nat, k1 + 2 = k3 := ⟨_, rfl⟩
                                    have hw3 : IntKind.i64.wrap ((k1 : Int) + 2) = (k3 : Int) := by rw [wrap_id (by omega) (by omega)]; omega
                                    obtain ⟨k4, hk4⟩ : ∃ k4 : Nat, k3 + 1 = k4 := ⟨_, rfl⟩
                                    have hw4 : IntKind.i64.wrap ((k3 : Int) + 1) = (k4 : Int) := by rw [wrap_id (by omega) (by omega)]; omega
                                    have hk42 : k2 + 2 = k4 := by omega
                                    rw [hk42] at HVV hle
                                    have hwv := wrap_id (a := (V : Int)) (by omega) (by omega)
                                    clear HV2 HPS HPE HFT HVS hvs hk42
                                    by_cases h55 : 55296 ≤ V
                                    · have z1 : (55296 : Int) ≤ (V : Int) := by omega
                                      have z2 : ¬ (V : Int) < 57344 := by omega
                                      clear hsu
                                      go_wp2_with (go_at_call 17; refine (hP _ hOw hBr.size).mono ?_; rintro e w2 ⟨g1, c2, rfl, hO1, hB2⟩)
                                      go_roundw
                                      case rel => exact ⟨k4, g1, m, c2, acc ++ [V], by omega, rfl, hm.symm, rfl, HVV.out, hO1, hBr.trans hB2⟩
                                      case measure => first | (simp [intOf]; done) | (simp [intOf]; omega)
                                    · have z1 : ¬ (55296 : Int) ≤ (V : Int) := by omega
                                      clear hsu
                                      go_wp2_with (go_at_call 17; refine (hP _ hOw hBr.size).mono ?_; rintro e w2 ⟨g1, c2, rfl, hO1, hB2⟩)
                                      go_roundw
                                      case rel => exact ⟨k4, g1, m, c2, acc ++ [V], by omega, rfl, hm.symm, rfl, HVV.out, hO1, hBr.trans hB2⟩
                                      case measure => first | (simp [intOf]; done) | (simp [intOf]; omega)
                            · have b120 : ((e : Int) == 120) = false := by rw [beq_eq_false_iff_ne]; omega
                              by_cases h117 : e = 117
                              · subst h117
                                have HPB : Hid (hxN 4 0 (rs.drop k2) = none → A = none) := fun h => HBAD.out (by show ptR 4 _ = none; unfold ptR; rw [h]; rfl)
                                have HPS : Hid (∀ V, hxN 4 0 (rs.drop k2) = some V → 55296 ≤ V ∧ V < 57344 → A = none) := fun V h h2 => HBAD.out (by show ptR 4 _ = none; unfold ptR; rw [h]; exact if_pos h2)
                                have HPE : Hid (∀ V, hxN 4 0 (rs.drop k2) = some V → ¬ (55296 ≤ V ∧ V < 57344) → SvAt rs A (k2 + 4) (acc ++ [V]) ∧ k2 + 4 ≤ rs.length) := fun V h h2 => HESC.out [V] 4 (by show ptR 4 _ = _; unfold ptR; rw [h]; exact if_neg h2)
                                have HT : Hid (∀ jj c, 1 ≤ jj → (hj : k1 + jj < rs.length) → rs[k1 + jj] = c → (rs.drop k2)[jj - 1]? = some c) := fun jj c h1 hj hc => by
                                  rw [List.getElem?_drop, show k2 + (jj - 1) = k1 + jj by omega, List.getElem?_eq_getElem hj, hc]
                                have HTE : Hid (∀ jj c, 1 ≤ jj → ¬ k1 + jj < rs.length → (rs.drop k2)[jj - 1]? = some c → hxV c = none) := fun jj c h1 hj hc => by
                                  rw [List.getElem?_drop, show k2 + (jj - 1) = k1 + jj by omega, List.getElem?_eq_none (by omega)] at hc; cases hc
                                clear HBAD HESC hes he
                                go_wp2
                                generalize wr = wb at *
                                go_loopw [9, 10] (fun vv kk wq => ∃ (jj V : Nat), jj ≤ 4 + 1 ∧ kk = .int .i64 jj ∧ vv = .int .i64 V ∧ V ≤ 65536 ∧ HxAt 4 (rs.drop k2) jj V ∧ wq = wb) (fun _ i _ => 4 + 1 - (intOf i).toNat)
                                case atStart => exact ⟨1, 0, by omega, rfl, rfl, by omega, HxAt.start _ _, rfl⟩
                                case round =>
                                  obtain ⟨jj, V, hjj, rfl, rfl, hVb, HX1, rfl⟩ := hrel
                                  have hj1 : 1 ≤ jj := HX1.2.2
                                  have HX : Hid (HxAt 4 (rs.drop k2) jj V) := HX1
                                  clear HX1
                                  by_cases hjn : jj ≤ 4
                                  · have hjz : (jj : Int) ≤ 4 := by omega
                                    obtain ⟨q, hq⟩ : ∃ q : Nat, k1 + jj = q := ⟨_, rfl⟩
                                    have hwq : IntKind.i64.wrap ((k1 : Int) + (jj : Int)) = (q : Int) := by rw [wrap_id (by omega) (by omega)]; omega
                                    have hwj := wrap_id (a := (jj : Int) + 1) (by omega) (by omega)
                                    by_cases hql : q < rs.length
                                    · have hqz : ¬ (rs.length : Int) ≤ (q : Int) := by omega
                                      have hqz2 : (q : Int) < (rs.length : Int) := by omega
                                      obtain ⟨c, hcd⟩ : ∃ c, rs[q] = c := ⟨_, rfl⟩
                                      have hcq := HC.out q c hql hcd
                                      have htq : (rs.drop k2)[jj - 1]? = some c := by subst hq; exact HT.out jj c hj1 hql hcd
                                      have HTQ : Hid ((rs.drop k2)[jj - 1]? = some c) := htq
                                      clear htq hq
                                      by_cases h127 : c ≤ 127
                                      · have h127z : ¬ (127 : Int) < (c : Int) := by omega
                                        have hwu := u8_id (a := (c : Int)) (by omega) (by omega)
                                        have hH := fun W => l4Hex_any c W (by omega)
                                        cases hhx : hxV c with
                                        | none =>
                                          have hhi : hxI c = -1 := by unfold hxI; rw [hhx]
                                          rw [hhi] at hH
                                          have hAn : A = none := HPB.out (HX.out.bad hjn (fun c' hc' => by rw [HTQ.out] at hc'; cases hc'; exact hhx))
                                          subst hAn
                                          clear HX HPB HPS HPE HT HTE HFT HC hcd hhi hhx HTQ
                                          go_wp2_with (go_at_call 18; refine (hH _).mono ?_; rintro e w2 ⟨rfl, rfl⟩)
                                          go_ret2
                                          exact ⟨rfl, hB1.trans (hBr.mono hB1.size)⟩
                                        | some d =>
                                          have hhi : hxI c = (d : Int) := by unfold hxI; rw [hhx]
                                          rw [hhi] at hH
                                          have hd16 := (hxV_lt hhx).1
                                          have HX2 : Hid (HxAt 4 (rs.drop k2) (jj + 1) (V * 16 + d)) := HX.out.next hjn HTQ.out hhx
                                          have hVn : V * 16 + d ≤ 65535 := by
                                            have h1 := HX2.out.2.1
                                            rw [Nat.add_sub_cancel] at h1
                                            have h2 : 16 ^ jj ≤ 16 ^ 4 := Nat.pow_le_pow_right (by omega) hjn
                                            have h3 : (16 : Nat) ^ 4 ≤ 65536 := by decide
                                            omega
                                          have hdz : ¬ (d : Int) < 0 := by omega
                                          have hwm := wrap_id (a := (V : Int) * 16) (by omega) (by omega)
                                          obtain ⟨V2, hV2⟩ : ∃ V2 : Nat, V * 16 + d = V2 := ⟨_, rfl⟩
                                          have hwa : IntKind.i64.wrap ((V : Int) * 16 + (d : Int)) = (V2 : Int) := by rw [wrap_id (by omega) (by omega)]; omega
                                          rw [hV2] at HX2 hVn
                                          clear HX HPB HPS HPE HT HTE HFT HC hcd hhi hhx HTQ hV2
                                          go_wp2_with (go_at_call 18; refine (hH _).mono ?_; rintro e w2 ⟨rfl, rfl⟩)
                                          go_roundw
                                          case rel => exact ⟨jj + 1, V2, by omega, by go_num, rfl, by omega, HX2.out, (by first | rfl | trivial)⟩
                                          case measure => first | (simp [intOf]; done) | (simp [intOf]; omega)
                                      · have h127z : (127 : Int) < (c : Int) := by omega
                                        have hAn : A = none := HPB.out (HX.out.bad hjn (fun c' hc' => by
                                          rw [HTQ.out] at hc'; cases hc'
                                          cases hhx : hxV c with
                                          | none => rfl
                                          | some d => have := (hxV_lt hhx).2; omega))
                                        subst hAn
                                        clear HX HPB HPS HPE HT HTE HFT HC hcd HTQ
                                        go_wp2
                                        go_ret2
                                        exact ⟨rfl, hB1.trans (hBr.mono hB1.size)⟩
                                    · have hqz : (rs.length : Int) ≤ (q : Int) := by omega
                                      have hAn : A = none := HPB.out (HX.out.bad hjn (fun c' hc' => HTE.out jj c' hj1 (by omega) hc'))
                                      subst hAn
                                      clear HX HPB HPS HPE HT HTE HFT HC hq
                                      go_wp2
                                      go_ret2
                                      exact ⟨rfl, hB1.trans (hBr.mono hB1.size)⟩
                                  · have hjz : ¬ (jj : Int) ≤ 4 := by omega
                                    obtain rfl : jj = 4 + 1 := by omega
                                    have hVs := HX.out.stop
                                    have HVS : Hid (hxN 4 0 (rs.drop k2) = some V) := hVs
                                    clear hVs HX HPB HT HTE HC
                                    by_cases hsu : 55296 ≤ V ∧ V < 57344
                                    · have hAn : A = none := HPS.out V HVS.out hsu
                                      have z1 : (55296 : Int) ≤ (V : Int) := by omega
                                      have z2 : (V : Int) < 57344 := by omega
                                      subst hAn
                                      clear HPS HPE HFT HVS
                                      go_wp2
                                      go_ret2
                                      exact ⟨rfl, hB1.trans (hBr.mono hB1.size)⟩
                                    · obtain ⟨HV2, hle⟩ := HPE.out V HVS.out hsu
                                      have HVV : Hid (SvAt rs A (k2 + 4) (acc ++ [V])) := HV2
                                      have hvs : Scalar V := HV2.2.2 V (by simp)
                                      have hP := fun W ho hb => l3Put_any w1.heap.size (some ⟨g, 0, none⟩) n co V (encs acc) W hvs ho hb (by omega)
                                      have HE : Hid (encs acc ++ encodeRune (V : Int) = encs (acc ++ [V])) := by
                                        show _ = _
                                        rw [encs_append, encs_cons, encs_nil, List.append_nil]
                                      rw [HE.out] at hP
                                      obtain ⟨m, hm⟩ : ∃ m, (encs (acc ++ [V])).length = m := ⟨_, rfl⟩
                                      rw [hm] at hP
                                      obtain ⟨k3, hk3⟩ : ∃ k3 : Nat, k1 + 4 = k3 := ⟨_, rfl⟩
                                      have hw3 : IntKind.i64.wrap ((k1 : Int) + 4) = (k3 : Int) := by rw [wrap_id (by omega) (by omega)]; omega
                                      obtain ⟨k4, hk4⟩ : ∃ k4 : Nat, k3 + 1 = k4 := ⟨_, rfl⟩
                                      have hw4 : IntKind.i64.wrap ((k3 : Int) + 1) = (k4 : Int) := by rw [wrap_id (by omega) (by omega)]; omega
                                      have hk42 : k2 + 4 = k4 := by omega
                                      rw [hk42] at HVV hle
                                      have hwv := wrap_id (a := (V : Int)) (by omega) (by omega)
                                      clear HV2 HPS HPE HFT HVS hvs hk42
                                      by_cases h55 : 55296 ≤ V
                                      · have z1 : (55296 : Int) ≤ (V : Int) := by omega
                                        have z2 : ¬ (V : Int) < 57344 := by omega
                                        clear hsu
                                        go_wp2_with (go_at_call 17; refine (hP _ hOw hBr.size).mono ?_; rintro e w2 ⟨g1, c2, rfl, hO1, hB2⟩)
                                        go_roundw
                                        case rel => exact ⟨k4, g1, m, c2, acc ++ [V], by omega, rfl, hm.symm, rfl, HVV.out, hO1, hBr.trans hB2⟩
                                        case measure => first | (simp [intOf]; done) | (simp [intOf]; omega)
                                      · have z1 : ¬ (55296 : Int) ≤ (V : Int) := by omega
                                        clear hsu
                                        go_wp2_with (go_at_call 17; refine (hP _ hOw hBr.size).mono ?_; rintro e w2 ⟨g1, c2, rfl, hO1, hB2⟩)
                                        go_roundw
                                        case rel => exact ⟨k4, g1, m, c2, acc ++ [V], by omega, rfl, hm.symm, rfl, HVV.out, hO1, hBr.trans hB2⟩
                                        case measure => first | (simp [intOf]; done) | (simp [intOf]; omega)
                              · have b117 : ((e : Int) == 117) = false := by rw [beq_eq_false_iff_ne]; omega
                                have hAn : A = none := HBAD.out (by unfold escR; rw [if_neg h10, if_neg (by omega), if_neg h110, if_neg h116, if_neg h114, if_neg h48, if_neg h120, if_neg h117])
                                subst hAn
                                clear HBAD HESC HFT HC hes he h10 h92 h39 h34 h110 h116 h114 h48 h120 h117
                                go_wp2
                                go_ret2
                                exact ⟨rfl, hB1.trans (hBr.mono hB1.size)⟩
          · have hAn : A = none := HV.out.last hi hc92 (by omega)
            have hlb : ((k1 : Int) == (rs.length : Int)) = true := by rw [beq_iff_eq]; omega
            obtain rfl : k1 = rs.length := by omega
            subst hAn
            clear HV HFT hk1 HC hc92 hcd
            go_wp2
            go_ret2
            exact ⟨rfl, hB1.trans (hBr.mono hB1.size)⟩
        · have hne : ((c : Int) != 92) = true := by simp; omega
          have hwk := wrap_id (a := (k : Int) + 1) (by omega) (by omega)
          have hP := fun W ho hb => l3Put_any w1.heap.size (some ⟨g, 0, none⟩) n co c (encs acc) W hsc ho hb (by omega)
          have HE : Hid (encs acc ++ encodeRune (c : Int) = encs (acc ++ [c])) := by
            show _ = _
            rw [encs_append, encs_cons, encs_nil, List.append_nil]
          have HV2 : Hid (SvAt rs A (k + 1) (acc ++ [c])) := HV.out.plain hi hcd h92 hsc
          rw [HE.out] at hP
          obtain ⟨m, hm⟩ : ∃ m, (encs (acc ++ [c])).length = m := ⟨_, rfl⟩
          rw [hm] at hP
          clear HV hcd hsc HC h92
          go_wp2_with (go_at_call 17; refine (hP _ hOw hBr.size).mono ?_; rintro e w2 ⟨g1, c2, rfl, hO1, hB2⟩)
          go_roundw
          case rel => exact ⟨k + 1, g1, m, c2, acc ++ [c], by omega, by go_num, hm.symm, rfl, HV2.out, hO1, hBr.trans hB2⟩
          case measure => first | (simp [intOf]; done) | (simp [intOf]; omega)
      · have hiz : ¬ (k : Int) < (rs.length : Int) := by omega
        have hAs : A = some acc := HV.out.stop hi
        subst hAs
        have hTO := HFT.out acc rfl
        have hK := fun W => textOkS_any ⟨(encs acc).toArray⟩ W (by show (encs acc).toArray.size ≤ _; rw [List.size_toArray]; omega)
        rw [hTO] at hK
        have hcv := bytes_back wr w1.heap.size g co (encs acc) n HN.out hOw
        have HCV : Hid (∀ w', Below wr.heap.size wr w' → (convert 34 9 (.slice (some ⟨g, 0, none⟩) n co)).run Tryd.prog w' = .ok (.string ⟨(encs acc).toArray⟩) w') := fun w' hb => bytes_back w' w1.heap.size g co (encs acc) n HN.out (hOw.keep hb)
        clear hTO HV HFT HN
        go_wp2_with (go_at_call 19; refine (hK _).mono ?_; rintro e w2 ⟨rfl, hB2⟩; have hcv2 := HCV.out w2 hB2)
        go_ret2
        exact ⟨rfl, hB1.trans ((hBr.trans (hB2.mono hBr.size)).mono hB1.size)⟩
end Go.Proofs.YtbeakdpbginebaaDoor
