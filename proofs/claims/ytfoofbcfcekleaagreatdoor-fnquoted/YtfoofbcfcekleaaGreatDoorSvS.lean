import Derived.Test.YtfoofbcfcekleaaGreatDoorSvP
import Derived.Test.YtfoofbcfcekleaaGreatDoorPutS
import Derived.Test.YtfoofbcfcekleaaGreatDoorRTok
import Derived.Test.YtfoofbcfcekleaaGreatDoorTxI
namespace Go.Proofs.YtfoofbcfcekleaaGreatDoor
open Go.RowKit Go.Lib
set_option linter.unusedVariables false
set_option linter.unusedSimpArgs false

def hxI (c : Nat) : Int := match hxV c with | some d => (d : Int) | none => -1
theorem u8_sub {a : Int} {k : Int} (h0 : 0 ≤ a - k) (h1 : a - k < 256) : IntKind.u8.wrap (a - k) = a - k := u8_id h0 h1
/-- What is known at a place: acc was read, the rest is still to come. -/
def SvAt (rs : List Nat) (A : Option (List Nat)) (k : Nat) (acc : List Nat) : Prop := A = (sv (rs.drop k)).map (acc ++ ·) ∧ acc.length ≤ k ∧ ∀ r ∈ acc, Scalar r
theorem SvAt.start (rs : List Nat) : SvAt rs (sv rs) 0 [] := ⟨by simp, by simp, by simp⟩
theorem SvAt.stop {rs : List Nat} {A : Option (List Nat)} {k : Nat} {acc : List Nat} (h : SvAt rs A k acc) (hk : ¬ k < rs.length) : A = some acc := by
  rw [h.1, List.drop_eq_nil_of_le (by omega), sv_nil]; simp
theorem SvAt.plain {rs : List Nat} {A : Option (List Nat)} {k : Nat} {acc : List Nat} {c : Nat} (h : SvAt rs A k acc) (hk : k < rs.length) (hc : rs[k] = c) (hn : c ≠ 92) (hs : Scalar c) : SvAt rs A (k + 1) (acc ++ [c]) := by
  refine ⟨?_, by simp; have := h.2.1; omega, fun r hr => ?_⟩
  · rw [h.1, List.drop_eq_getElem_cons hk, hc, sv_plain c _ hn]
    cases sv (rs.drop (k + 1)) <;> simp
  · rcases List.mem_append.1 hr with h1 | h1
    · exact h.2.2 r h1
    · simp at h1; subst h1; exact hs
theorem SvAt.last {rs : List Nat} {A : Option (List Nat)} {k : Nat} {acc : List Nat} (h : SvAt rs A k acc) (hk : k < rs.length) (hc : rs[k] = 92) (hl : k + 1 = rs.length) : A = none := by
  rw [h.1, List.drop_eq_getElem_cons hk, hc, List.drop_eq_nil_of_le (by omega), sv_end]; rfl
theorem SvAt.bad {rs : List Nat} {A : Option (List Nat)} {k : Nat} {acc : List Nat} {e : Nat} (h : SvAt rs A k acc) (hl : k + 1 < rs.length) (hc : rs[k]'(by omega) = 92) (he : rs[k + 1] = e) (hx : escR e (rs.drop (k + 2)) = none) : A = none := by
  rw [h.1, List.drop_eq_getElem_cons (by omega : k < rs.length), hc, List.drop_eq_getElem_cons hl, he, sv_esc, hx]; rfl
theorem SvAt.esc {rs : List Nat} {A : Option (List Nat)} {k m : Nat} {acc vs : List Nat} {e : Nat} (h : SvAt rs A k acc) (hs : ∀ r ∈ rs, Scalar r) (hl : k + 1 < rs.length) (hc : rs[k]'(by omega) = 92) (he : rs[k + 1] = e) (hx : escR e (rs.drop (k + 2)) = some (vs, m)) : SvAt rs A (k + 2 + m) (acc ++ vs) ∧ k + 2 + m ≤ rs.length := by
  obtain ⟨f1, f2, f3, f4, f5, f6⟩ := escR_fit (fun r hr => hs r (List.mem_of_mem_drop hr)) hx
  rw [List.length_drop] at f3
  refine ⟨⟨?_, by have := h.2.1; rw [List.length_append]; omega, fun r hr => ?_⟩, by omega⟩
  · rw [h.1, List.drop_eq_getElem_cons (by omega : k < rs.length), hc, List.drop_eq_getElem_cons hl, he, sv_esc, hx]
    simp only [Option.bind_some]
    rw [List.drop_drop]
    cases sv (rs.drop (k + 2 + m)) <;> simp
  · rcases List.mem_append.1 hr with h1 | h1
    · exact h.2.2 r h1
    · exact f1 r h1
/-- The digits of an escape, read up to the jj-th. -/
def HxAt (n : Nat) (t : List Nat) (jj V : Nat) : Prop := hxN n 0 t = hxN (n + 1 - jj) V (t.drop (jj - 1)) ∧ V < 16 ^ (jj - 1) ∧ 1 ≤ jj
theorem HxAt.start (n : Nat) (t : List Nat) : HxAt n t 1 0 := ⟨rfl, by simp, Nat.le_refl _⟩
theorem HxAt.stop {n : Nat} {t : List Nat} {V : Nat} (h : HxAt n t (n + 1) V) : hxN n 0 t = some V := by rw [h.1, Nat.sub_self]; rfl
theorem HxAt.next {n : Nat} {t : List Nat} {jj V c d : Nat} (h : HxAt n t jj V) (hj : jj ≤ n) (hc : t[jj - 1]? = some c) (hd : hxV c = some d) : HxAt n t (jj + 1) (V * 16 + d) := by
  obtain ⟨h1, h2, h3⟩ := h
  obtain ⟨j, rfl⟩ : ∃ j, jj = j + 1 := ⟨jj - 1, by omega⟩
  have hd1 := (hxV_lt hd).1
  refine ⟨?_, ?_, by omega⟩
  · rw [h1, show n + 1 - (j + 1) = (n + 1 - (j + 1 + 1)) + 1 by omega]
    rw [Nat.add_sub_cancel] at hc ⊢
    obtain ⟨hl, rfl⟩ := List.getElem?_eq_some_iff.1 hc
    rw [List.drop_eq_getElem_cons hl, hxN, hd]
    rfl
  · rw [Nat.add_sub_cancel] at h2 ⊢
    rw [Nat.pow_succ]; omega
theorem HxAt.bad {n : Nat} {t : List Nat} {jj V : Nat} (h : HxAt n t jj V) (hj : jj ≤ n) (hc : ∀ c, t[jj - 1]? = some c → hxV c = none) : hxN n 0 t = none := by
  obtain ⟨h1, h2, h3⟩ := h
  rw [h1, show n + 1 - jj = (n - jj) + 1 by omega]
  cases ht : t.drop (jj - 1) with
  | nil => rfl
  | cons c u =>
    have : t[jj - 1]? = some c := by rw [← Nat.add_zero (jj - 1), ← List.getElem?_drop, ht]; rfl
    rw [hxN, hc c this]; rfl
theorem ansL_length' (rs : List Nat) : (ansL (some rs)).length = rs.length := by simp [ansL]
/-- What StrValue answers. -/
def svO (s : ByteArray) : Option (List Nat) := (textOf s).bind sv
def svT : Option (List Nat) → ByteArray
  | none => ⟨#[]⟩
  | some vs => ⟨(encs vs).toArray⟩
theorem U8.own_some {w : World} {B : Nat} {a : Option Addr} {n cap : Nat} {xs : List Int} (h : U8.Own w B (.slice a n cap) xs) (h0 : 0 < xs.length) : ∃ g, a = some ⟨g, 0, none⟩ := by
  rcases h.shape with ⟨hv, hz⟩ | ⟨g, cp, hv, _⟩
  · rw [hz] at h0; simp at h0
  · simp only [Value.slice.injEq] at hv
    exact ⟨g, hv.1⟩
theorem bz_put (acc : List Nat) (v : Nat) (h : v < 128) : bz (encs acc) ++ [(v : Int)] = bz (encs (acc ++ [v])) := by
  have : encs (acc ++ [v]) = encs acc ++ [v.toUInt8] := by
    rw [encs_append, encs_cons, encs_nil, List.append_nil]
    rcases enc_cases v (.inl (by omega)) with ⟨a, e⟩ | ⟨a, b, e⟩ | ⟨a, b, e⟩ | ⟨a, b, e⟩
    · rw [e]
    all_goals omega
  rw [this]; unfold bz; rw [List.map_append]
  simp [byte_nat (n := v) (by omega)]
theorem bz_lenS (l : List UInt8) : (bz l).length = l.length := by simp [bz]
end Go.Proofs.YtfoofbcfcekleaaGreatDoor
