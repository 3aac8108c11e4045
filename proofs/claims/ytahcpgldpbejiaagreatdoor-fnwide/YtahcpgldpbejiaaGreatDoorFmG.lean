import Derived.Test.YtahcpgldpbejiaaGreatDoorFmF
import Derived.Test.YtahcpgldpbejiaaGreatDoorFmT
import Derived.Test.YtahcpgldpbejiaaGreatDoorFindI
namespace Go.Proofs.YtahcpgldpbejiaaGreatDoor
open Go.RowKit Go.Lib Go.Shelf
set_option linter.unusedVariables false
set_option linter.unusedSimpArgs false

theorem readSpec_any (sp : ByteArray) (w : World) (hsp : sp.size ≤ 16777216) (hT : Tabs w) (aA aZ aL : Addr) (hE : Errs w aA aZ aL) :
    Calls Tryz.prog 50 #[.string sp] w fun e w' => ∃ (q : Pt) (er : Value), e = .returned (.tuple #[.agg #[.string q.f, .string q.a, .string q.s, .string q.z, .string q.w, .string q.c, .string q.p, .string q.k], er]) ∧ RpA sp aA q er ∧ Below w.heap.size w w' := by
  cases hA : textOf sp with
  | none => exact readSpec_none sp w hsp hA hT aA aZ aL hE
  | some c =>
    obtain ⟨h1, h2, h3⟩ := text_iff.1 hA
    exact readSpec_some sp c w hsp hA h3 (by rw [← h2, ← size_eq]; exact h1) (tx_of h2) hT aA aZ aL hE
theorem emp_app (a b : List UInt8) : (a ++ b).isEmpty = (a.isEmpty && b.isEmpty) := by cases a <;> rfl
theorem encs_sing (l : List Nat) (hs : ∀ r ∈ l, Scalar r) (k : Nat) (hk : k < 128) : encs l = [k.toUInt8] ↔ l = [k] := by
  constructor
  · intro h
    cases l with
    | nil => rw [encs_nil] at h; cases h
    | cons x t =>
      by_cases hx : x < 128
      · rw [encs_cons, enc1 x hx, List.singleton_append] at h
        injection h with h1 h2
        have h3 := congrArg UInt8.toNat h1
        rw [byte_nat (by omega), byte_nat (by omega)] at h3
        have h4 : t = [] := by
          cases t with
          | nil => rfl
          | cons y u =>
            obtain ⟨b, tl, e, _, _⟩ := enc_shape y (hs y (by simp))
            rw [encs_cons, e] at h2; cases h2
        rw [h3, h4]
      · obtain ⟨b, tl, e, hb⟩ := enc_hi x (hs x (by simp)) hx
        rw [encs_cons, e, List.cons_append] at h
        injection h with h1 _
        have h3 := congrArg UInt8.toNat h1
        rw [byte_nat (by omega)] at h3
        omega
  · rintro rfl
    rw [encs_cons, encs_nil, enc1 k hk]; rfl
theorem tx_is (l : List Nat) (hs : ∀ r ∈ l, Scalar r) (k : Nat) (hk : k < 128) : ((tx l).toList == [k.toUInt8]) = (l == [k]) := by
  rw [Lib.toList_data, tx_data, Bool.eq_iff_iff, beq_iff_eq, beq_iff_eq]
  exact encs_sing l hs k hk
theorem alL_sc (c : List Nat) : ∀ r ∈ alL c, Scalar r := by
  intro r hr
  unfold alL at hr
  split at hr
  · simp at hr
  · simp at hr
    subst hr
    rcases cutAl_a c with h | h
    · exact .inl (by omega)
    · exact .inl (by have := isAl_pos h; omega)
theorem rest_sc {c : List Nat} (hs : ∀ r ∈ c, Scalar r) : ∀ r ∈ (afDot (r5 c)).2.2, Scalar r := by
  have h5 : ∀ r ∈ r5 c, Scalar r := cutO_sc (cutD_sc (cutO_sc (cutO_sc (r1_sc hs))))
  rw [← (afDot_eq (r5 c)).1]
  intro r hr
  split at hr
  · exact h5 r (List.mem_of_mem_drop (List.mem_of_mem_drop hr))
  · exact h5 r hr
/-- The program's test of a text's spec. -/
def rbT (c : List Nat) : Bool := (hd isSg (r1 c) || hd (· == 48) (r2 c) || hd (· == 44) (r4 c)) || (cutAl c).2.1 == 61 || (!(rdR c).rest.isEmpty && !((rdR c).rest == [115]))
theorem rbT_true {sp s : ByteArray} {c : List Nat} (hc : textOf sp = some c) (hbad : badR (rdR c) = false) (h : rbT c = true) : ftS sp s = argsV := by
  unfold ftS
  rw [hc]
  simp only
  by_cases ho : okQ c = true
  · rw [if_pos ho]
    obtain ⟨h1, h2⟩ := okQ_eq c
    rw [ho, hbad] at h1
    obtain ⟨k, hk⟩ := Option.isSome_iff_exists.1 (show (kindR (rdR c).rest).isSome = true by simpa using h1.symm)
    have hw := h2 ho k hk
    have hr : refT (w7 c) = true := by
      rw [hw]
      unfold refT svR
      simp only
      show ((cutO isSg (r1 c)).1 != 0 || (cutAl c).2.1 == 61 || (cutO (· == 44) (r4 c)).1 != 0 || (cutO (· == 48) (r2 c)).1 != 0 || (k != 0 && k != 115)) = true
      rw [hd_ne (p := isSg) rfl, hd_ne (p := (· == 44)) rfl, hd_ne (p := (· == 48)) rfl]
      unfold rbT at h
      have hkk : (!(rdR c).rest.isEmpty && !((rdR c).rest == [115])) = (k != 0 && k != 115) := by
        rcases sh2 (rdR c).rest with e | ⟨x, e⟩ | ⟨x, y, t, e⟩
        · rw [e] at hk ⊢; simp [kindR] at hk; subst hk; rfl
        · rw [e] at hk ⊢
          by_cases hx : isLt x = true
          · simp [kindR, hx] at hk
            subst hk
            have h0 : x ≠ 0 := by intro e0; rw [e0] at hx; cases hx
            rw [Bool.eq_iff_iff]; simp [h0]
          · simp [kindR, hx] at hk
        · rw [e] at hk; simp [kindR] at hk
      rw [hkk] at h
      revert h
      cases hd isSg (r1 c) <;> cases hd (· == 48) (r2 c) <;> cases hd (· == 44) (r4 c) <;> cases ((cutAl c).2.1 == 61) <;> cases (k != 0 && k != 115) <;> simp
    rw [hr]
    cases textOf s <;> rfl
  · rw [if_neg ho]
theorem rbT_false {c : List Nat} (hbad : badR (rdR c) = false) (h : rbT c = false) : okQ c = true ∧ refT (w7 c) = false := by
  unfold rbT at h
  simp only [Bool.or_eq_false_iff] at h
  obtain ⟨⟨⟨⟨h1, h2⟩, h3⟩, h4⟩, h5⟩ := h
  obtain ⟨k, hk, hkk⟩ : ∃ k, kindR (rdR c).rest = some k ∧ (k != 0 && k != 115) = false := by
    rcases sh2 (rdR c).rest with e | ⟨x, e⟩ | ⟨x, y, t, e⟩
    · rw [e]; exact ⟨0, rfl, rfl⟩
    · rw [e] at h5 ⊢
      simp at h5
      subst h5
      exact ⟨115, rfl, rfl⟩
    · rw [e] at h5; simp at h5
  obtain ⟨g1, g2⟩ := okQ_eq c
  rw [hbad, hk] at g1
  have ho : okQ c = true := g1
  refine ⟨ho, ?_⟩
  rw [g2 ho k hk]
  unfold refT svR
  simp only
  show ((cutO isSg (r1 c)).1 != 0 || (cutAl c).2.1 == 61 || (cutO (· == 44) (r4 c)).1 != 0 || (cutO (· == 48) (r2 c)).1 != 0 || (k != 0 && k != 115)) = false
  rw [hd_ne (p := isSg) rfl, hd_ne (p := (· == 44)) rfl, hd_ne (p := (· == 48)) rfl, h1, h2, h3, h4, hkk]
  rfl
theorem alL_is (c : List Nat) : (alL c == [61]) = ((cutAl c).2.1 == 61) := by
  unfold alL
  by_cases h : (cutAl c).2.1 = 0
  · rw [if_pos h, h]; rfl
  · rw [if_neg h, Bool.eq_iff_iff]; simp
theorem sel_of (c : List Nat) (k d : Nat) (hs : ∀ r ∈ c, Scalar r) : SelF (prT c) ⟨#[d.toUInt8]⟩ (tx [fcS (svR (rdR c) k)]) ⟨#[(alS (svR (rdR c) k) d).toUInt8]⟩ := by
  have ea := tx_empty (alL c) (alL_sc c)
  have hz := tx_empty (cutL (· == 48) (r2 c)) (cutL_sc (cutO_sc (r1_sc hs)))
  rw [cutL_ne] at hz
  have hzr : ((rdR c).zr != 0) = hd (· == 48) (r2 c) := hd_ne (p := (· == 48)) rfl
  have fsc : ∀ r ∈ alF c, Scalar r := by
    intro r hr
    unfold alF at hr
    cases hf : (cutAl c).1 with
    | none => rw [hf] at hr; simp at hr
    | some x => rw [hf] at hr; simp at hr; subst hr; exact hs _ (cutAl_mem c _ hf)
  have ef := tx_empty (alF c) fsc
  unfold SelF
  by_cases h0 : (cutAl c).2.1 = 0
  · have hal : alL c = [] := by unfold alL; rw [if_pos h0]
    have hfl : (cutAl c).1 = none := by
      rcases sh2 c with rfl | ⟨x, rfl⟩ | ⟨x, y, t, rfl⟩
      · rfl
      · by_cases h : isAl x = true <;> simp [cutAl, h]
      · by_cases h : isAl y = true
        · simp [cutAl, h] at h0
          exact absurd h0 (isAl_pos h).1
        · by_cases h2 : isAl x = true <;> simp [cutAl, h, h2]
    have hf1 : fcS (svR (rdR c) k) = if hd (· == 48) (r2 c) then 48 else 32 := by
      unfold fcS svR
      simp only
      rw [show (rdR c).fl = none from hfl, show (rdR c).al = 0 from h0, hzr]
      simp
    have ha1 : alS (svR (rdR c) k) d = if hd (· == 48) (r2 c) then 61 else d := by
      unfold alS svR
      simp only
      rw [if_pos (show (rdR c).al = 0 from h0), hzr]
    rw [hal] at ea
    rw [hf1, ha1]
    cases hh : hd (· == 48) (r2 c) with
    | true =>
      rw [hh] at hz
      exact .inr (.inl ⟨by show (tx (alL c)).toList.isEmpty = true; rw [hal]; exact ea, hz, rfl, rfl⟩)
    | false =>
      rw [hh] at hz
      exact .inr (.inr ⟨by show (tx (alL c)).toList.isEmpty = true; rw [hal]; exact ea, hz, rfl, rfl⟩)
  · have hal : alL c = [(cutAl c).2.1] := by unfold alL; rw [if_neg h0]
    have hap := (cutAl_a c).resolve_left h0
    have ha1 : alS (svR (rdR c) k) d = (cutAl c).2.1 := by
      unfold alS svR
      simp only
      rw [if_neg (show ¬ (rdR c).al = 0 from h0)]; rfl
    refine .inl ⟨?_, ?_, ?_⟩
    · show (tx (alL c)).toList.isEmpty = false
      rw [ea, hal]; rfl
    · show tx [fcS (svR (rdR c) k)] = if (tx (alF c)).toList.isEmpty = true then ⟨#[32]⟩ else tx (alF c)
      rw [ef]
      cases hf : (cutAl c).1 with
      | none =>
        have : fcS (svR (rdR c) k) = 32 := by
          unfold fcS svR
          simp only
          rw [show (rdR c).fl = none from hf]
          have hb : ((rdR c).al == 0) = false := by rw [beq_eq_false_iff_ne]; exact h0
          rw [hb]; simp
        rw [this, show alF c = [] by unfold alF; rw [hf]; rfl]
        rfl
      | some x =>
        have : fcS (svR (rdR c) k) = x := by
          unfold fcS svR
          simp only
          rw [show (rdR c).fl = some x from hf]
          simp
        rw [this, show alF c = [x] by unfold alF; rw [hf]; rfl]
        rfl
    · show _ = tx (alL c)
      rw [ha1, hal]
      unfold tx
      rw [encs_cons, encs_nil, List.append_nil, enc1 _ (isAl_pos hap).2]
theorem al4 (c : List Nat) (k d : Nat) (hd4 : d = 60 ∨ d = 62) : alS (svR (rdR c) k) d = 60 ∨ alS (svR (rdR c) k) d = 62 ∨ alS (svR (rdR c) k) d = 94 ∨ alS (svR (rdR c) k) d = 61 := by
  unfold alS svR
  simp only
  by_cases h0 : (rdR c).al = 0
  · rw [if_pos h0]
    cases ((rdR c).zr != 0)
    · simp; omega
    · simp
  · rw [if_neg h0]
    have h := (cutAl_a c).resolve_left h0
    have h2 : isAl (rdR c).al = true := h
    unfold isAl at h2
    simp at h2
    omega
theorem empty_app (B : ByteArray) : (⟨#[]⟩ : ByteArray) ++ B = B := by
  rw [← Lib.mk_data ((⟨#[]⟩ : ByteArray) ++ B), ba_app, show (⟨#[]⟩ : ByteArray).data.toList = [] from rfl, List.nil_append, Lib.mk_data]
theorem tx_count (l : List Nat) (hs : ∀ r ∈ l, Scalar r) : runeCount (tx l) = l.length := (count_runes ((runesOf_iff (tx l) l).2 ⟨tx_data l, hs⟩)).symm
theorem fil_fit (aA aZ aL : Addr) (l : List UInt8) : ∃ X er code, filV aL l = .tuple #[.string X, er] ∧ IsErr aA aZ aL er code ∧ fitV l = .tuple #[.string X, .int .i64 code] ∧ X.size ≤ 16384 := by
  unfold filV fitV
  by_cases h : 16384 < l.length
  · rw [if_pos h, if_pos h]
    exact ⟨_, _, 3, rfl, .inr (.inr (.inr (.inl ⟨rfl, rfl⟩))), rfl, by decide⟩
  · rw [if_neg h, if_neg h]
    refine ⟨_, _, 0, rfl, .inl ⟨rfl, rfl⟩, rfl, ?_⟩
    show l.toArray.size ≤ 16384
    rw [List.size_toArray]; omega
theorem pr_dig (c : List Nat) : (∀ x ∈ (afDot (r5 c)).2.1, isDg x = true) ∧ (afDot (r5 c)).2.1.length ≤ 3 := by
  obtain ⟨d1, d2, d3, d4⟩ := afDot_eq (r5 c)
  cases hh : hd (· == 46) (r5 c)
  · rw [d4 hh]; simp
  · rw [← d3 hh]; exact ⟨cutD_dig 3 _, cutD_len 3 _⟩
/-- What FormatText's inside answers. -/
def FtP (sp s : ByteArray) (aA aZ aL : Addr) (w : World) (e : Ending) (w' : World) : Prop := ∃ X er code, e = .returned (.tuple #[.string X, er]) ∧ IsErr aA aZ aL er code ∧ ftS sp s = .tuple #[.string X, .int .i64 code] ∧ X.size ≤ 16384 ∧ Below w.heap.size w w'
theorem FtP.mk {sp s : ByteArray} {aA aZ aL : Addr} {w : World} {e : Ending} {w' : World} (h : ∃ X er code, e = .returned (.tuple #[.string X, er]) ∧ IsErr aA aZ aL er code ∧ ftS sp s = .tuple #[.string X, .int .i64 code] ∧ X.size ≤ 16384 ∧ Below w.heap.size w w') : FtP sp s aA aZ aL w e w' := h
set_option maxHeartbeats 1500000 in
set_option maxRecDepth 100000 in
theorem formattedText_any (sp s : ByteArray) (w : World) (hsp : sp.size ≤ 16777216) (hs : s.size ≤ 16777216) (hT : Tabs w) (aA aZ aL : Addr) (hE : Errs w aA aZ aL) (hEf : ErrF w) :
    Calls Tryz.prog 25 #[.string sp, .string s] w fun e w' => FtP sp s aA aZ aL w e w' := by
  have hRS := readSpec_any sp w hsp hT aA aZ aL hE
  go_enter Tryz.func25, Tryz.ntmps25
  go_wp2_with fail
  refine hRS.mono ?_
  rintro e W1 ⟨q, er, rfl, hA, hB1⟩
  clear hRS
  by_cases hr : ∃ t, er = .iface 87 (.agg #[.string t, errAt aA])
  · obtain ⟨t, rfl⟩ := hr
    have HF : Hid (ftS sp s = argsV) := by
      show _ = _
      unfold ftS
      unfold RpA at hA
      cases ht : textOf sp with
      | none => rfl
      | some c =>
        rw [ht] at hA
        simp only at hA ⊢
        have hb : badR (rdR c) = true := by
          by_cases hb : badR (rdR c) = true
          · exact hb
          · rw [if_neg hb] at hA; cases hA.1
        rw [if_neg]
        rw [(okQ_eq c).1, hb]; simp
    have hB2 := hB1.alloc hB1.size (.cells #[.string q.f, .string q.a, .string q.s, .string q.z, .string q.w, .string q.c, .string q.p, .string q.k] 83)
    clear hA
    go_wp2
    go_ret2
    exact FtP.mk ⟨⟨#[]⟩, _, 1, rfl, .inr (.inr (.inr (.inr (.inl ⟨t, rfl, rfl⟩)))), HF.out, by decide, hB2⟩
  · obtain ⟨c, hc, hbad, rfl, hq⟩ : ∃ c, textOf sp = some c ∧ badR (rdR c) = false ∧ er = .nilIface ∧ q = prT c := by
      unfold RpA at hA
      cases ht : textOf sp with
      | none => rw [ht] at hA; exact absurd hA hr
      | some c =>
        rw [ht] at hA
        simp only at hA
        cases hb : badR (rdR c) with
        | true => rw [hb, if_pos rfl] at hA; exact absurd hA hr
        | false => rw [hb, if_neg (by decide)] at hA; exact ⟨c, rfl, hb, hA.1, hA.2⟩
    clear hr hA
    obtain ⟨hc1, hc2, hc3⟩ := text_iff.1 hc
    obtain ⟨qf, qa, qs, qz, qw, qc, qp, qk⟩ := q
    simp only
    have hP0 := Bx.new W1 [.string qf, .string qa, .string qs, .string qz, .string qw, .string qc, .string qp, .string qk] 83
    have hB2 := hB1.alloc hB1.size (.cells [.string qf, .string qa, .string qs, .string qz, .string qw, .string qc, .string qp, .string qk].toArray 83)
    obtain ⟨PB, hPB⟩ : ∃ PB, W1.heap.size = PB := ⟨_, rfl⟩
    go_upto_region 4 with fail
    generalize W1.alloc _ = W2 at *
    rw [hPB] at hP0
    clear hPB hB1
    have d1 := hP0.cell 1 (by simp)
    have d2 := hP0.cell 2 (by simp)
    have d3 := hP0.cell 3 (by simp)
    have d5 := hP0.cell 5 (by simp)
    have d6 := hP0.cell 6 (by simp)
    have d7 := hP0.cell 7 (by simp)
    simp only [List.getElem_cons_zero, List.getElem_cons_succ] at d1 d2 d3 d5 d6 d7
    have HQ : Hid (⟨qf, qa, qs, qz, qw, qc, qp, qk⟩ = prT c) := hq
    simp only [prT, Pt.mk.injEq] at hq
    obtain ⟨q0, q1', q2', q3', q4', q5', q6', q7'⟩ := hq
    have hcl : ∀ (p : Nat → Bool) (l : List Nat), (∀ r ∈ l, Scalar r) → (tx (cutL p l)).size ≤ 4 := fun p l hl => by
      rw [tx_size]
      cases l with
      | nil => simp [cutL, encs_nil]
      | cons x t =>
        by_cases h : p x = true
        · simp only [cutL, h, if_true]; rw [encs_cons, encs_nil, List.append_nil]; exact enc_le4 x
        · simp [cutL, h, encs_nil]
    have hs1 := r1_sc hc3
    have hs2 : ∀ r ∈ r2 c, Scalar r := cutO_sc hs1
    have hs4 : ∀ r ∈ r4 c, Scalar r := cutD_sc (cutO_sc hs2)
    have b1 := hcl isSg (r1 c) hs1
    have b2 := hcl (· == 48) (r2 c) hs2
    have b3 := hcl (· == 44) (r4 c) hs4
    have z1 : ¬ 9223372036854775807 < qs.size + qz.size := by rw [q2', q3']; omega
    have z2 : ¬ 9223372036854775807 < (qs ++ qz).size + qc.size := by rw [ba_size, q2', q3', q5']; omega
    have HRB : Hid ((!(qs ++ qz ++ qc).toList.isEmpty || (qa.toList == [61]) || (!qk.toList.isEmpty && !(qk.toList == [115]))) = rbT c) := by
      show _ = _
      have e1 : (qs ++ qz ++ qc).toList.isEmpty = !(hd isSg (r1 c) || hd (· == 48) (r2 c) || hd (· == 44) (r4 c)) := by
        have t1 := tx_empty (cutL isSg (r1 c)) (cutL_sc hs1)
        have t2 := tx_empty (cutL (· == 48) (r2 c)) (cutL_sc hs2)
        have t3 := tx_empty (cutL (· == 44) (r4 c)) (cutL_sc hs4)
        rw [cutL_ne, Lib.toList_data] at t1 t2 t3
        rw [Lib.toList_data, ba_app, ba_app, q2', q3', q5', emp_app, emp_app, t1, t2, t3]
        cases hd isSg (r1 c) <;> cases hd (· == 48) (r2 c) <;> cases hd (· == 44) (r4 c) <;> rfl
      have e2 := tx_is (alL c) (alL_sc c) 61 (by omega)
      have e3 := tx_empty (afDot (r5 c)).2.2 (rest_sc hc3)
      have e4 := tx_is (afDot (r5 c)).2.2 (rest_sc hc3) 115 (by omega)
      rw [e1, q1', q7', e3, show ([61] : List UInt8) = [(61 : Nat).toUInt8] from rfl, e2, show ([115] : List UInt8) = [(115 : Nat).toUInt8] from rfl, e4, alL_is, Bool.not_not]
      rfl
    have HQ2 : Hid (qf = tx (alF c) ∧ qa = tx (alL c) ∧ qz = tx (cutL (· == 48) (r2 c)) ∧ qw = tx (cutD 4 (r3 c)).1 ∧ qp = tx (afDot (r5 c)).2.1) := ⟨q0, q1', q3', q4', q6'⟩
    clear q0 q1' q2' q3' q4' q5' q6' q7' hcl hs1 hs2 hs4 b1 b2 b3
    obtain ⟨E1, h1⟩ : ∃ E1, (qs ++ qz ++ qc).toList.isEmpty = E1 := ⟨_, rfl⟩
    obtain ⟨E2, h2⟩ : ∃ E2, (qa.toList == [61]) = E2 := ⟨_, rfl⟩
    obtain ⟨E3, h3⟩ : ∃ E3, qk.toList.isEmpty = E3 := ⟨_, rfl⟩
    obtain ⟨E4, h4⟩ : ∃ E4, (qk.toList == [115]) = E4 := ⟨_, rfl⟩
    have HE1 : Hid ((qs ++ qz ++ qc).toList.isEmpty = E1) := h1
    have HE2 : Hid ((qa.toList == [61]) = E2) := h2
    have HE3 : Hid (qk.toList.isEmpty = E3) := h3
    have HE4 : Hid ((qk.toList == [115]) = E4) := h4
    go_cut [41] from 18 to 41 (fun b wc => b = .bool (!E1 || E2 || (!E3 && !E4)) ∧ wc = W2)
    case first =>
      clear HE1 HE2 HE3 HE4
      cases E1 with
      | false =>
        go_wp2
        go_meet
        exact ⟨rfl, rfl⟩
      | true =>
        cases E2 with
        | true =>
          go_wp2
          go_meet
          exact ⟨rfl, rfl⟩
        | false =>
          cases E3 with
          | true =>
            go_wp2
            go_meet
            exact ⟨rfl, rfl⟩
          | false =>
            cases E4 with
            | true =>
              go_wp2
              go_meet
              exact ⟨rfl, rfl⟩
            | false =>
              go_wp2
              go_meet
              exact ⟨rfl, rfl⟩
    case rest =>
      obtain ⟨rfl, hw⟩ := hcut
      obtain rfl : W2 = wc := hw.symm
      have HRB2 : Hid ((!E1 || E2 || (!E3 && !E4)) = rbT c) := by show _ = _; rw [← HRB.out, HE1.out, HE2.out, HE3.out, HE4.out]
      clear HRB HE1 HE2 HE3 HE4 h1 h2 h3 h4 d1 d2 d3 d5 d7 z1 z2
      obtain ⟨RB, hRB⟩ : ∃ RB, (!E1 || E2 || (!E3 && !E4)) = RB := ⟨_, rfl⟩
      rw [hRB] at HRB2
      simp only [hRB]
      clear hRB
      have hE2 := hE.below hB2
      have hg := hE2.1.1
      cases RB with
      | true =>
        have HF : Hid (ftS sp s = argsV) := rbT_true hc hbad HRB2.out.symm
        clear hc hbad HRB2 hc1 hc2 hc3 HQ HQ2 hP0 d6 hE2
        go_upto_region 5 with fail
        go_quiet (fail)
        go_wp2
        go_ret2
        exact FtP.mk ⟨⟨#[]⟩, _, 1, rfl, .inr (.inr (.inr (.inr (.inl ⟨_, rfl, rfl⟩)))), HF.out, by decide, hB2.trans ⟨rfl, rfl, rfl, Nat.le_refl _, fun _ _ => rfl⟩⟩
      | false =>
        obtain ⟨hok, hrf⟩ := rbT_false hbad HRB2.out.symm
        have hK := textOk_any s W2 (by omega) (hT.below hB2)
        cases hts : textOf s with
        | none =>
          have HF : Hid (ftS sp s = argsV) := by show _ = _; unfold ftS; rw [hc]; simp only; rw [if_pos hok, hts]
          rw [hts, show (none : Option (List Nat)).isSome = false from rfl] at hK
          clear hc hbad HRB2 hc1 hc2 hc3 HQ HQ2 hP0 d6 hok hrf hts
          go_wp2_with fail
          refine hK.mono ?_
          rintro e W3 ⟨rfl, hB3⟩
          have hg3 := (hE2.below hB3).1.1
          have hB23 := hB2.trans (hB3.mono hB2.size)
          clear hg hE2 hK
          go_upto_region 7 with fail
          go_quiet (fail)
          go_wp2
          go_ret2
          exact FtP.mk ⟨⟨#[]⟩, _, 1, rfl, .inr (.inl ⟨rfl, rfl⟩), HF.out, by decide, hB23.trans ⟨rfl, rfl, rfl, Nat.le_refl _, fun _ _ => rfl⟩⟩
        | some rs =>
          rw [hts, show (some rs).isSome = true from rfl] at hK
          obtain ⟨k, hk, hw7, _, hfc, hwd9, _, _⟩ := w7_ok hc3 hok
          obtain ⟨ht1, ht2, ht3⟩ := text_iff.1 hts
          have htl : (encs rs).length = s.size := by rw [← ht2, ← size_eq]
          have hrl : rs.length ≤ s.size := by have := encs_len rs ht3; omega
          obtain ⟨pr, hpr⟩ : ∃ pr, (afDot (r5 c)).2.1 = pr := ⟨_, rfl⟩
          obtain ⟨hpd, hpl⟩ := pr_dig c
          rw [hpr] at hpd hpl
          obtain ⟨M, hM⟩ : ∃ M : Nat, numOr pr (s.size : Int) = (M : Int) := by
            unfold numOr
            split
            · exact ⟨_, rfl⟩
            · exact ⟨_, rfl⟩
          have hMb : M ≤ 16777216 := by
            unfold numOr at hM
            have := nv_lt hpd hpl
            split at hM <;> omega
          have hBL : cutT (w7 c) rs = rs.take M := by
            rw [hw7]
            unfold cutT
            show (if (afDot (r5 c)).1 && decide (nv (afDot (r5 c)).2.1 < rs.length) then rs.take (nv (afDot (r5 c)).2.1) else rs) = rs.take M
            rw [hpr]
            unfold numOr at hM
            obtain ⟨f1, f2, f3, f4⟩ := afDot_eq (r5 c)
            cases hh : (afDot (r5 c)).1 with
            | false =>
              rw [f2.trans hh] at f4
              have : pr = [] := by rw [← hpr]; exact f4 rfl
              rw [this] at hM
              simp at hM
              rw [Bool.false_and, if_neg (by decide), List.take_of_length_le (by omega)]
            | true =>
              have hne : pr.isEmpty = false := by
                unfold badR rdR at hbad
                simp only at hbad
                rw [hh, hpr] at hbad
                simp at hbad
                cases pr with
                | nil => simp at hbad
                | cons _ _ => rfl
              rw [hne, if_neg (by decide)] at hM
              have hM2 : nv pr = M := by omega
              rw [hM2, Bool.true_and]
              by_cases hl : M < rs.length
              · rw [if_pos (by simpa using hl)]
              · rw [if_neg (by simpa using hl), List.take_of_length_le (by omega)]
          have hfts : ftS sp s = fitV (ftL (w7 c) (rs.take M)) := by
            unfold ftS
            rw [hc]
            simp only
            rw [if_pos hok, hts]
            simp only
            rw [hrf, hBL]; rfl
          have hBsc : ∀ r ∈ rs.take M, Scalar r := fun r hr => ht3 r (List.mem_of_mem_take hr)
          obtain ⟨BL, hBLe⟩ : ∃ BL, rs.take M = BL := ⟨_, rfl⟩
          have hBl : (encs BL).length ≤ 16384 := by
            rw [← hBLe]
            have := offOf_le rs M
            unfold offOf at this
            omega
          have hsx : s = tx rs := tx_of ht2
          have hcut : s.extract 0 (offOf rs M) = tx BL := by
            rw [hsx, ← hBLe]
            exact (tx_cut rs M).1
          rw [hBLe] at hfts hBsc
          have hend : ((offOf rs M : Nat) : Int) ≤ (s.size : Int) := by have := offOf_le rs M; omega
          have hFi := fun W hE' hEf' => filled_any ⟨qf, qa, qs, qz, qw, qc, qp, qk⟩ ⟨#[]⟩ (tx BL) ⟨#[60]⟩ (tx [fcS (svR (rdR c) k)]) ⟨#[(alS (svR (rdR c) k) 60).toUInt8]⟩ (fcS (svR (rdR c) k)) (alS (svR (rdR c) k) 60) BL.length (cutD 4 (r3 c)).1 W aA aZ aL (by decide) (by rw [tx_size]; omega) (by rw [HQ.out]; exact sel_of c k 60 hc3) (by rw [tx_data, encs_cons, encs_nil, List.append_nil]) (by rw [← hw7]; exact hfc) rfl (al4 c k 60 (.inl rfl)) HQ2.out.2.2.2.1 (cutD_dig 4 (r3 c)) (cutD_len 4 (r3 c)) (by rw [empty_app]; exact tx_count BL hBsc) hE' hEf'
          rw [tx_data, show (⟨#[]⟩ : ByteArray).data.toList = [] from rfl] at hFi
          have hly : layT (fcS (svR (rdR c) k)) (alS (svR (rdR c) k) 60) (nv (cutD 4 (r3 c)).1 - BL.length) [] (encs BL) = ftL (w7 c) BL := by
            unfold ftL missS
            rw [List.nil_append, heads_encs BL hBsc, hw7]; rfl
          rw [hly] at hFi
          obtain ⟨X, er, code, hx1, hx2, hx3, hx4⟩ := fil_fit aA aZ aL (ftL (w7 c) BL)
          rw [hx1] at hFi
          have HF : Hid (ftS sp s = .tuple #[.string X, .int .i64 code]) := hfts.trans hx3
          have HER : Hid (IsErr aA aZ aL er code) := hx2
          unfold ptV ptC at hFi
          have hNu := fun W h => numberOr_any pr (s.size : Int) W hpd (by omega) h
          rw [hM] at hNu
          have hqp : qp = tx pr := by rw [HQ2.out.2.2.2.2, hpr]
          rw [← hqp] at hNu
          have hBy := fun W => byteAt_any s rs M W hts (by omega)
          obtain ⟨EN, hEN⟩ : ∃ EN, offOf rs M = EN := ⟨_, rfl⟩
          rw [hEN] at hBy hcut hend
          have hwM : IntKind.i64.wrap (M : Int) = (M : Int) := by simp [IntKind.wrap, IntKind.bits, IntKind.signed]; omega
          clear hc hbad HRB2 hc1 hc2 hc3 HQ HQ2 hok hrf hts hk hw7 hfc hwd9 ht1 ht2 ht3 htl hrl hpr hpd hpl hM hBL hfts hBsc hBLe hBl hsx hly hx1 hx2 hx3 hqp hEN
          go_wp2_with fail
          refine hK.mono ?_
          rintro e W3 ⟨rfl, hB3⟩
          have hB23 := hB2.trans (hB3.mono hB2.size)
          have hP3 := hP0.keep hB3
          have d6 := hP3.cell 6 (by simp)
          simp only [List.getElem_cons_zero, List.getElem_cons_succ] at d6
          clear hg hE2 hK hB3 hP0
          go_wp2_with fail
          refine (hNu W3 (hEf.below hB23)).mono ?_
          rintro e W4 ⟨rfl, hB4⟩
          have hB24 := hB23.trans (hB4.mono hB23.size)
          have hP4 := hP3.keep hB4
          clear hNu hB4 hP3 d6
          go_wp2_with fail
          refine (hBy W4).mono ?_
          rintro e W5 ⟨rfl, hB5⟩
          have hB25 := hB24.trans (hB5.mono hB24.size)
          have hP5 := hP4.keep hB5
          have g0 := hP5.cell 0 (by simp)
          have g1 := hP5.cell 1 (by simp)
          have g2 := hP5.cell 2 (by simp)
          have g3 := hP5.cell 3 (by simp)
          have g4 := hP5.cell 4 (by simp)
          have g5 := hP5.cell 5 (by simp)
          have g6 := hP5.cell 6 (by simp)
          have g7 := hP5.cell 7 (by simp)
          simp only [List.getElem_cons_zero, List.getElem_cons_succ] at g0 g1 g2 g3 g4 g5 g6 g7
          have hFi5 := hFi W5.drew ((hE.below hB25).below (Below.refl _ W5).drew) ((hEf.below hB25).below (Below.refl _ W5).drew)
          clear hBy hB5 hP4 hP5 hFi
          go_upto_region 9 with fail
          go_region_with (go_at_call 53; refine hFi5.mono ?_; rintro e W6 ⟨rfl, hB6⟩)
          all_goals
            go_wp2
            go_ret2
            exact FtP.mk ⟨X, er, code, rfl, HER.out, HF.out, hx4, hB25.trans (((Below.refl _ W5).drew.trans hB6).mono hB25.size)⟩
end Go.Proofs.YtahcpgldpbejiaaGreatDoor
