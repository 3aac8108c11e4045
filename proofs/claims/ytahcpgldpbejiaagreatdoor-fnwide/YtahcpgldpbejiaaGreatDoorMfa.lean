import Derived.Test.YtahcpgldpbejiaaGreatDoorFmL
namespace Go.Proofs.YtahcpgldpbejiaaGreatDoor
open Go.RowKit Go.Lib
set_option linter.unusedVariables false
set_option linter.unusedSimpArgs false

/-- The first k digits of l, with a comma ahead of each three from the end of l. -/
def cmO (l : List UInt8) : Nat → List UInt8
  | 0 => []
  | k + 1 => (cmO l k ++ (if 0 < k ∧ (l.length - k) % 3 = 0 then [44] else [])) ++ [l.getD k 0]
theorem cmO_len (l : List UInt8) (k : Nat) : (cmO l k).length ≤ 2 * k := by
  induction k with
  | zero => simp [cmO]
  | succ k ih => rw [cmO]; split <;> simp <;> omega
theorem cmO_plain (l : List UInt8) (k : Nat) (h : ¬ (0 < k ∧ (l.length - k) % 3 = 0)) : cmO l (k + 1) = cmO l k ++ [l.getD k 0] := by
  rw [cmO, if_neg h, List.append_nil]
theorem cmO_comma (l : List UInt8) (k : Nat) (h : 0 < k ∧ (l.length - k) % 3 = 0) : cmO l (k + 1) = (cmO l k ++ [44]) ++ [l.getD k 0] := by
  rw [cmO, if_pos h]
theorem drop3 (l : List UInt8) (k : Nat) (h : k + 3 ≤ l.length) : (l.drop k).take 3 = [l.getD k 0, l.getD (k + 1) 0, l.getD (k + 2) 0] := by
  apply List.ext_getElem
  · simp; omega
  · intro i h1 h2
    have hi : i < 3 := by simpa using h2
    have hg : ∀ j (hj : j < l.length), l.getD j 0 = l[j] := fun j hj => by simp [List.getD, List.getElem?_eq_getElem hj]
    match i, hi with
    | 0, _ => simp only [List.getElem_take, List.getElem_drop, List.getElem_cons_zero]; rw [hg k (by omega)]; rfl
    | 1, _ => simp only [List.getElem_take, List.getElem_drop, List.getElem_cons_succ, List.getElem_cons_zero]; rw [hg (k + 1) (by omega)]
    | 2, _ => simp only [List.getElem_take, List.getElem_drop, List.getElem_cons_succ, List.getElem_cons_zero]; rw [hg (k + 2) (by omega)]
theorem cmO_step (l : List UInt8) (e : Nat) (h : (l.length - (e + 3)) % 3 = 0) (h0 : 0 < e) (h1 : e + 3 ≤ l.length) : cmO l (e + 3) = cmO l e ++ (44 :: (l.drop e).take 3) := by
  rw [drop3 l e h1, cmO_plain l (e + 2) (by omega), cmO_plain l (e + 1) (by omega), cmO_comma l e ⟨h0, by omega⟩]
  simp
theorem cmO_low (l : List UInt8) (e : Nat) (h : (l.length - e) % 3 = 0) (h0 : e ≤ 3) (h1 : e ≤ l.length) : ∀ k, k ≤ e → cmO l k = l.take k
  | 0, _ => by simp [cmO]
  | k + 1, hk => by
    have hg : l.getD k 0 = l[k]'(by omega) := by simp [List.getD, List.getElem?_eq_getElem (show k < l.length by omega)]
    rw [cmO_plain l k (by omega), cmO_low l e h h0 h1 k (by omega), hg, List.take_succ_eq_append_getElem (by omega)]
/-- With commas. -/
def cmT (l : List UInt8) : List UInt8 := cmO l l.length
def dgs (l : List UInt8) : Prop := ∀ b ∈ l, 48 ≤ b.toNat ∧ b.toNat ≤ 57
end Go.Proofs.YtahcpgldpbejiaaGreatDoor

namespace Go.Proofs.YtahcpgldpbejiaaGreatDoor
open Go.RowKit Go.Lib
set_option linter.unusedVariables false
set_option linter.unusedSimpArgs false

theorem get_atB (s : ByteArray) (k : Nat) (h : k < s.size) : s[k] = s.data.toList.getD k 0 := by
  have h2 : k < s.data.toList.length := by simpa using h
  show s.data[k] = _
  simp [List.getD, List.getElem?_eq_getElem h2]
set_option maxHeartbeats 1000000 in
set_option maxRecDepth 100000 in
theorem l3Commas_any (s : ByteArray) (w : World) (hs : s.size ≤ 16384) (hd : dgs s.data.toList) :
    Calls Tryz.prog 30 #[.string s] w fun e w' => e = .returned (.string ⟨(cmT s.data.toList).toArray⟩) ∧ Below w.heap.size w w' := by
  have hl : s.data.toList.length = s.size := (size_eq s).symm
  have HT : Hid (cmT s.data.toList = cmO s.data.toList s.size) := by show _ = _; unfold cmT; rw [hl]
  have hdk : ∀ k (h : k < s.size), 48 ≤ (s[k]'h).toNat ∧ (s[k]'h).toNat ≤ 57 := fun k h => by
    refine hd _ ?_
    show s.data[k] ∈ _
    simp
  obtain ⟨T, hT⟩ : ∃ T : ByteArray, (⟨(cmT s.data.toList).toArray⟩ : ByteArray) = T := ⟨_, rfl⟩
  have HTT : Hid ((⟨(cmT s.data.toList).toArray⟩ : ByteArray) = T) := hT
  rw [hT]
  clear hT
  go_enter Tryz.func30, Tryz.ntmps30
  go_wp2
  go_loopw [3] (fun i wr => ∃ k : Nat, k ≤ s.size ∧ i = .int .i64 k ∧ wr = w) (fun i _ => s.size - (intOf i).toNat)
  case atStart => exact ⟨0, Nat.zero_le _, rfl, rfl⟩
  case round =>
    obtain ⟨k, hk, rfl, hw⟩ := hrel
    obtain rfl : w = wr := hw.symm
    clear hw
    by_cases hlt : k < s.size
    · have hltz : (k : Int) < (s.size : Int) := by omega
      obtain ⟨x, hxk⟩ : ∃ x, s[k]'hlt = x := ⟨_, rfl⟩
      have hx := hdk k hlt
      rw [hxk] at hx
      have x0 : (48 : Int) ≤ (x.toNat : Int) := by omega
      have x1 : (x.toNat : Int) ≤ 57 := by omega
      have hwk := wrap0 (a := (k : Int) + 1) (by omega) (by omega)
      clear hdk
      go_wp2
      go_roundw
      case rel => exact ⟨k + 1, by omega, by go_num, by first | rfl | trivial⟩
      case measure => first | (simp [intOf]; done) | (simp [intOf]; omega)
    · obtain rfl : k = s.size := by omega
      have hltz : ¬ (s.size : Int) < (s.size : Int) := by omega
      clear hlt
      go_wp2
      go_loopw [4, 5] (fun o i wr => ∃ (k g m co : Nat), k ≤ s.size ∧ i = .int .i64 k ∧ Hid (m = (cmO s.data.toList k).length) ∧ o = .slice (some ⟨g, 0, none⟩) m co ∧ U8.Own wr w.heap.size (.slice (some ⟨g, 0, none⟩) m co) (bz (cmO s.data.toList k)) ∧ Below w.heap.size w wr) (fun _ i _ => s.size - (intOf i).toNat)
      case atStart => exact ⟨0, w.heap.size, 0, 0, by omega, rfl, rfl, rfl, U8.Own.empty w, (Below.refl _ _).alloc (Nat.le_refl _) _⟩
      case round =>
        obtain ⟨k, g, m, co, hk2, rfl, HM, rfl, hOw, hBr⟩ := hrel
        have hcl := cmO_len s.data.toList k
        by_cases hlt : k < s.size
        · have hltz : (k : Int) < (s.size : Int) := by omega
          obtain ⟨x, hxk⟩ : ∃ x, s[k]'hlt = x := ⟨_, rfl⟩
          have hwk := wrap0 (a := (k : Int) + 1) (by omega) (by omega)
          have hws := wrap0 (a := (s.size : Int) - (k : Int)) (by omega) (by omega)
          have hgx : s.data.toList.getD k 0 = x := by rw [← hxk, get_atB s k hlt]
          have hrm : Int.tmod ((s.size : Int) - (k : Int)) 3 = (((s.size - k) % 3 : Nat) : Int) := by
            rw [show (s.size : Int) - (k : Int) = ((s.size - k : Nat) : Int) by omega]; rfl
          have hxb : (0 : Int) ≤ (x.toNat : Int) := by omega
          have hxb' : (x.toNat : Int) < 4294967296 := by have := x.toNat_lt; omega
          have hbl : (bz (cmO s.data.toList k)).length ≤ 32768 := by simp [bz]; omega
          by_cases hc : 0 < k ∧ (s.size - k) % 3 = 0
          · have hc1 : (0 : Int) < (k : Int) := by omega
            have HE : Hid (bz (cmO s.data.toList (k + 1)) = (bz (cmO s.data.toList k) ++ [44]) ++ [(x.toNat : Int)]) := by
              show _ = _
              rw [cmO_comma _ k ⟨hc.1, by rw [hl]; exact hc.2⟩, hgx]; simp [bz]
            have HL : Hid (((bz (cmO s.data.toList k) ++ [44]) ++ [(x.toNat : Int)]).length = (cmO s.data.toList (k + 1)).length) := by
              show _ = _
              rw [← HE.out]; simp [bz]
            have hrm0 : Int.tmod ((s.size : Int) - (k : Int)) 3 = 0 := by rw [hrm, hc.2]; rfl
            have hB2 := hBr.size
            generalize bz (cmO s.data.toList k) = xs at hOw HE HL hbl
            clear hgx hcl HM hdk hd hl HT hc hrm HTT
            have HB2 : Hid (w.heap.size ≤ wr.heap.size) := hB2
            have HX : Hid ((0 : Int) ≤ (x.toNat : Int) ∧ (x.toNat : Int) < 4294967296) := ⟨hxb, hxb'⟩
            have HBL : Hid (xs.length ≤ 32768) := hbl
            clear hB2 hbl hxb hxb'
            go_upto_region 10 with (at_builtin; refine U8.wpList_append_rd rfl _ _ 34 rfl Tryz.underlying34 w.heap.size _ _ xs [44] rfl rfl (hOw.alloc _) (U8.Rd.one wr wr.heap.size rfl 5 (by decide) (by decide)) (by have := HBL.out; simp; omega) (by have := HB2.out; simp; omega) ?_; intro a1 c1 w1 hO1 hB1)
            have HS1 : Hid (w.heap.size ≤ w1.heap.size ∧ (xs ++ [(44 : Int)]).length ≤ 40000) := ⟨by have := HB2.out; have := hB1.size; simp at this; omega, by have := HBL.out; simp; omega⟩
            have HBB : Hid (Below w.heap.size w w1) := (hBr.alloc HB2.out (Obj.cells #[.int .u8 44] 5)).trans hB1
            clear hB1 HBL HB2 hOw hBr
            rw [show (xs ++ [(44 : Int)]).length = xs.length + 1 by simp] at hO1
            generalize xs ++ [(44 : Int)] = ys at hO1 HE HL HS1
            go_wp2_with (at_builtin; refine U8.wpList_append_rd rfl _ _ 34 rfl Tryz.underlying34 w.heap.size _ _ ys [(x.toNat : Int)] rfl rfl (hO1.alloc _) (U8.Rd.one w1 w1.heap.size rfl 5 HX.out.1 HX.out.2) (by have := HS1.out.2; simp; omega) (by have := HS1.out.1; simp; omega) ?_; intro a2 c2 w2 hO2 hB2)
            obtain ⟨g2, rfl⟩ : ∃ g2, a2 = some ⟨g2, 0, none⟩ := by
              rcases hO2.shape with ⟨hv, hv2⟩ | ⟨g2, cp, hv, _⟩
              · simp at hv
              · simp only [Value.slice.injEq] at hv; exact ⟨g2, hv.1⟩
            rw [show (ys ++ [(x.toNat : Int)]).length = ys.length + 1 by simp, ← HE.out] at hO2
            have HM2 : Hid (ys.length + 1 = (cmO s.data.toList (k + 1)).length) := by show _ = _; rw [← HL.out]; simp
            have hBB := (HBB.out.alloc HS1.out.1 (Obj.cells #[.int .u8 (x.toNat : Int)] 5)).trans hB2
            clear hB2 hO1 HE HBB HL
            go_roundw
            case rel => exact ⟨k + 1, g2, ys.length + 1, c2, by omega, by go_num, HM2, rfl, hO2, hBB⟩
            case measure => first | (simp [intOf]; done) | (simp [intOf]; omega)
          · have HE : Hid (bz (cmO s.data.toList (k + 1)) = bz (cmO s.data.toList k) ++ [(x.toNat : Int)]) := by
              show _ = _
              rw [cmO_plain _ k (by rw [hl]; exact hc), hgx]; simp [bz]
            have HL : Hid ((bz (cmO s.data.toList k) ++ [(x.toNat : Int)]).length = (cmO s.data.toList (k + 1)).length) := by
              show _ = _
              rw [← HE.out]; simp [bz]
            have hmy : m = (bz (cmO s.data.toList k)).length := by rw [HM.out]; simp [bz]
            have HS1 : Hid (w.heap.size ≤ wr.heap.size ∧ (bz (cmO s.data.toList k)).length ≤ 40000) := ⟨hBr.size, by omega⟩
            have HX : Hid ((0 : Int) ≤ (x.toNat : Int) ∧ (x.toNat : Int) < 4294967296) := ⟨hxb, hxb'⟩
            have HBB : Hid (Below w.heap.size w wr) := hBr
            have HC : Hid (0 < k → ((((s.size - k) % 3 : Nat) : Int) == 0) = false) := by
              intro h
              rw [beq_eq_false_iff_ne]
              intro h2
              exact hc ⟨h, by omega⟩
            generalize bz (cmO s.data.toList k) = ys at hOw HE HL hmy HS1
            have HMY : Hid (m = ys.length) := hmy
            clear hgx hcl HM hdk hd hl HT HTT hbl hxb hxb' hc hBr hmy
            by_cases hk0 : 0 < k
            · have hc1 : (0 : Int) < (k : Int) := by omega
              have hc2 := HC.out hk0
              generalize (((s.size - k) % 3 : Nat) : Int) = r at hrm hc2
              clear HC
              go_wp2_with (at_builtin; refine U8.wpList_append_rd rfl _ _ 34 rfl Tryz.underlying34 w.heap.size _ _ ys [(x.toNat : Int)] rfl rfl (hOw.alloc _) (U8.Rd.one wr wr.heap.size rfl 5 HX.out.1 HX.out.2) (by have := HS1.out.2; simp; omega) (by have := HS1.out.1; simp; omega) ?_; intro a2 c2 w2 hO2 hB2)
              obtain ⟨g2, rfl⟩ : ∃ g2, a2 = some ⟨g2, 0, none⟩ := by
                rcases hO2.shape with ⟨hv, hv2⟩ | ⟨g2, cp, hv, _⟩
                · simp at hv
                · simp only [Value.slice.injEq] at hv; exact ⟨g2, hv.1⟩
              rw [show (ys ++ [(x.toNat : Int)]).length = ys.length + 1 by simp, ← HE.out] at hO2
              have HM2 : Hid (ys.length + 1 = (cmO s.data.toList (k + 1)).length) := by show _ = _; rw [← HL.out]; simp
              have hBB := (HBB.out.alloc HS1.out.1 (Obj.cells #[.int .u8 (x.toNat : Int)] 5)).trans hB2
              clear hB2 hOw HE HBB HL
              go_roundw
              case rel => exact ⟨k + 1, g2, ys.length + 1, c2, by omega, by go_num, HM2, rfl, hO2, hBB⟩
              case measure => first | (simp [intOf]; done) | (simp [intOf]; omega)
            · obtain rfl : k = 0 := by omega
              clear HC hrm hws
              go_wp2_with (at_builtin; refine U8.wpList_append_rd rfl _ _ 34 rfl Tryz.underlying34 w.heap.size _ _ ys [(x.toNat : Int)] rfl rfl (hOw.alloc _) (U8.Rd.one wr wr.heap.size rfl 5 HX.out.1 HX.out.2) (by have := HS1.out.2; simp; omega) (by have := HS1.out.1; simp; omega) ?_; intro a2 c2 w2 hO2 hB2)
              obtain ⟨g2, rfl⟩ : ∃ g2, a2 = some ⟨g2, 0, none⟩ := by
                rcases hO2.shape with ⟨hv, hv2⟩ | ⟨g2, cp, hv, _⟩
                · simp at hv
                · simp only [Value.slice.injEq] at hv; exact ⟨g2, hv.1⟩
              rw [show (ys ++ [(x.toNat : Int)]).length = ys.length + 1 by simp, ← HE.out] at hO2
              have HM2 : Hid (ys.length + 1 = (cmO s.data.toList (0 + 1)).length) := by show _ = _; rw [← HL.out]; simp
              have hBB := (HBB.out.alloc HS1.out.1 (Obj.cells #[.int .u8 (x.toNat : Int)] 5)).trans hB2
              clear hB2 hOw HE HBB HL
              go_roundw
              case rel => exact ⟨0 + 1, g2, ys.length + 1, c2, by omega, by go_num, HM2, rfl, hO2, hBB⟩
              case measure => first | (simp [intOf]; done) | (simp [intOf]; omega)
        · obtain rfl : k = s.size := by omega
          have hltz2 : ¬ (s.size : Int) < (s.size : Int) := by omega
          have hcv := bytes_back wr.drew w.heap.size g co _ m HM.out hOw.drew
          rw [← HT.out, HTT.out] at hcv
          have hTs : T.size ≤ 32768 := by rw [← HTT.out, HT.out]; show (cmO _ _).toArray.size ≤ _; rw [List.size_toArray]; omega
          have hsum : ¬ 9223372036854775807 < T.size + ByteArray.empty.size := by simp; omega
          have hsum2 : ¬ 9223372036854775807 < T.size := by omega
          clear hdk hOw HM hcl HT HTT
          go_wp2
          go_region_with fail
          all_goals try go_wp2
          all_goals go_ret
          all_goals exact ⟨rfl, hBr.drew⟩
end Go.Proofs.YtahcpgldpbejiaaGreatDoor

namespace Go.Proofs.YtahcpgldpbejiaaGreatDoor
open Go.RowKit Go.Lib
set_option linter.unusedVariables false
set_option linter.unusedSimpArgs false

/-- A number's sign. -/
def sgS (v : Sv) (neg : Bool) : ByteArray := if neg then ⟨#[45]⟩ else if v.s = 43 then ⟨#[43]⟩ else if v.s = 32 then ⟨#[32]⟩ else ⟨#[]⟩
set_option maxHeartbeats 1000000 in
set_option maxRecDepth 100000 in
theorem l3SignOf_any (v : Sv) (neg : Bool) (w : World) :
    Calls Tryz.prog 31 #[spV v, .bool neg] w fun e w' => e = .returned (.string (sgS v neg)) ∧ Below w.heap.size w w' := by
  obtain ⟨F, A, s, Z, WD, cm, dt, pr, kd⟩ := v
  have hP0 : Bx (w.alloc (.cells (spC ⟨F, A, s, Z, WD, cm, dt, pr, kd⟩).toArray 45)) w.heap.size (spC ⟨F, A, s, Z, WD, cm, dt, pr, kd⟩) := Bx.new w _ _
  have hB0 : Below w.heap.size w (w.alloc (.cells (spC ⟨F, A, s, Z, WD, cm, dt, pr, kd⟩).toArray 45)) := (Below.refl _ w).alloc (Nat.le_refl _) _
  unfold spC at hP0 hB0
  unfold spV spC
  have hR : Hid (sgS ⟨F, A, s, Z, WD, cm, dt, pr, kd⟩ neg = if neg then ⟨#[45]⟩ else if s = 43 then ⟨#[43]⟩ else if s = 32 then ⟨#[32]⟩ else ⟨#[]⟩) := rfl
  generalize sgS ⟨F, A, s, Z, WD, cm, dt, pr, kd⟩ neg = R at hR ⊢
  go_enter Tryz.func31, Tryz.ntmps31
  go_upto_region 1 with fail
  generalize w.alloc _ = W0 at *
  have c2 := hP0.cell 2 (by simp)
  simp only [List.getElem_cons_zero, List.getElem_cons_succ] at c2
  clear hP0
  cases neg with
  | true =>
    obtain rfl : R = _ := hR.out
    go_wp2
    go_ret
    exact ⟨rfl, hB0⟩
  | false =>
    by_cases h1 : s = 43
    · subst h1
      obtain rfl : R = _ := hR.out
      go_wp2
      go_ret
      exact ⟨rfl, hB0⟩
    by_cases h2 : s = 32
    · subst h2
      obtain rfl : R = _ := hR.out
      go_wp2
      go_ret
      exact ⟨rfl, hB0⟩
    · have e1 : ((s : Int) == 43) = false := by rw [beq_eq_false_iff_ne]; omega
      have e2 : ((s : Int) == 32) = false := by rw [beq_eq_false_iff_ne]; omega
      have hR2 := hR.out
      rw [if_neg (by decide), if_neg h1, if_neg h2] at hR2
      clear hR
      subst hR2
      go_wp2
      go_ret
      exact ⟨rfl, hB0⟩
end Go.Proofs.YtahcpgldpbejiaaGreatDoor
