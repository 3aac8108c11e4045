import Derived.Test.YtlnekedehalbdaaPsS
namespace Go.Proofs.Ytlnekedehalbdaa
open Go.RowKit
set_option linter.unusedVariables false
set_option linter.unusedSimpArgs false

/-- E and one more. -/
def Ei (E : Nat → Prop) (g : Nat) : Nat → Prop := fun j => E j ∨ j = g
theorem OfE.ei {E : Nat → Prop} {g : Nat} {a b : World} (h : OfE E a b) : OfE (Ei E g) a b := h.mono (fun j hj => .inl hj)
theorem OfE.eg {E : Nat → Prop} {g : Nat} {a b : World} (h : a.grownBy b (some g)) : OfE (Ei E g) a b := OfE.gb h (fun j hj => .inl (.inr (by simpa using hj.symm)))
theorem Tlr.gr {t : Tl} {n Z Y B : Nat} {E : Nat → Prop} {S : World → St → Prop} (T : Tlr t n Z Y E S) {W W' : World} {s : St} {g N c : Nat} {zs : List Int} (h : S W s) (hO : Own W B (.slice (some ⟨g, 0, none⟩) N c) zs) (hB : Z ≤ B) (hE : ¬ E g) (hg : W.grownBy W' (some g)) : S W' s :=
  T.gi h hO hB (fun q hq => by simp [Value.ownBlock] at hq; subst hq; exact hE) hg
/-- What putIn leaves. -/
def PutP (t : Tl) (E : Nat → Prop) (S : World → St → Prop) (w : World) (B g N c : Nat) (D R : List Int) (x : Int) (P : List Int) (s : St) (e : Ending) (w' : World) : Prop := e = .returned (.tuple #[]) ∧ Own w' B (.slice (some ⟨g, 0, none⟩) N c) (D ++ ((putS t x P s).1 ++ R)) ∧ S w' (putS t x P s).2 ∧ OfE (Ei E g) w w'
set_option maxRecDepth 100000 in
set_option maxHeartbeats 1000000 in
theorem putIn_any (t : Tl) (n Z Y : Nat) (E : Nat → Prop) (S : World → St → Prop) (T : Tlr t n Z Y E S) (w : World) (B g N c o m cc : Nat) (D P R : List Int) (xn : Nat) (s : St) (hn : n ≤ 2000) (hS : S w s)
    (hO : Own w B (.slice (some ⟨g, 0, none⟩) N c) (D ++ ((P ++ [(xn : Int)]) ++ R))) (ho : D.length = o) (hm : P.length = m) (hm1 : m ≤ 2000) (hcc : m + 1 ≤ cc) (hZB : Z ≤ B) (hgE : ¬ E g) (hx : xn < n) (hP : ∀ y ∈ P, 0 ≤ y ∧ y < (n : Int)) (hl : s.h.length + m < 1000000) :
    Calls Try.prog 42 #[.pointer (some ⟨Y, 0, none⟩), .slice (some ⟨g, o, none⟩) (m + 1) cc] w fun e w' => PutP t E S w B g N c D R xn P s e w' := by
  have Ho : Hid (D.length = o) := ho
  have Hm : Hid (P.length = m) := hm
  have hcx := hO.cell (o + m) (by simp [ho, hm])
  have hgx : (D ++ ((P ++ [(xn : Int)]) ++ R)).getD (o + m) 0 = (xn : Int) := by
    rw [← ho, ← hm, mid_get D (P ++ [(xn : Int)]) R P.length (by simp)]
    simp [List.getD]
  rw [hgx] at hcx
  have w1 : IntKind.i64.wrap ((m : Int) + 1 - 1) = (m : Int) := by rw [IntKind.wrap_i64]; omega
  have w2 : (m : Int) + 1 - 1 = (m : Int) := by omega
  have hmi : (m : Int) < (m : Int) + 1 := by omega
  have hbf := bis_le t xn P m 0 m s (Nat.zero_le _)
  have hput : putS t xn P s = (P.take (bis t xn P m 0 m s).1 ++ (xn : Int) :: P.drop (bis t xn P m 0 m s).1, (bis t xn P m 0 m s).2) := by unfold putS; rw [hm]
  generalize hBi : bis t xn P m 0 m s = BI at *
  obtain ⟨lo0, sF⟩ := BI
  have HBI : Hid (bis t xn P m 0 m s = (lo0, sF)) := hBi
  have HPUT : Hid (putS t xn P s = (P.take lo0 ++ (xn : Int) :: P.drop lo0, sF)) := hput
  have hlo0 : lo0 ≤ m := hbf.2
  clear ho hm hgx hBi hput hbf
  go_enter Try.func42, Try.ntmps42
  go_wp2_with fail
  go_loopw [6, 7] (fun lo hi wr => ∃ (a b : Nat) (s2 : St), lo = .int .i64 a ∧ hi = .int .i64 b ∧ a ≤ b ∧ b ≤ m ∧ S wr s2 ∧ OfE E w wr ∧ Hid (bis t xn P (b - a) a b s2 = (lo0, sF)) ∧ s2.h.length + (b - a) ≤ s.h.length + m) (fun lo hi _ => (intOf hi).toNat - (intOf lo).toNat)
  case atStart => exact ⟨0, m, s, rfl, rfl, Nat.zero_le _, Nat.le_refl _, hS, OfE.refl _ _, HBI, by omega⟩
  case round =>
    obtain ⟨a, b, s2, rfl, rfl, hab, hbk, hS2, hF2, Hb, hasks⟩ := hrel
    generalize wr = W4 at *
    have hO2 : Own W4 B (.slice (some ⟨g, 0, none⟩) N c) (D ++ ((P ++ [(xn : Int)]) ++ R)) := hO.offE (fun q hq => by simp [Value.ownBlock] at hq; subst hq; exact hgE) hF2
    clear hcx
    by_cases h4 : a < b
    · have h4i : (a : Int) < (b : Int) := by omega
      obtain ⟨q, hq⟩ : ∃ q, (a + b) / 2 = q := ⟨_, rfl⟩
      have hqi : ((a : Int) + (b : Int)) / 2 = (q : Int) := by omega
      have hqw : IntKind.i64.wrap ((a : Int) + (b : Int)) = (a : Int) + (b : Int) := by rw [IntKind.wrap_i64]; omega
      have hqk : q < m := by omega
      have hqki : (q : Int) < (m : Int) + 1 := by omega
      have hcm := hO2.cell (o + q) (by simp [Ho.out, Hm.out]; omega)
      rw [← Ho.out, mid_get D (P ++ [(xn : Int)]) R q (by simp [Hm.out]; omega)] at hcm
      have hgq : (P ++ [(xn : Int)]).getD q 0 = P.getD q 0 := by simp only [List.getD]; rw [List.getElem?_append_left (by rw [Hm.out]; exact hqk)]
      rw [hgq, Ho.out] at hcm
      have hym := hP (P.getD q 0) (by have := Hm.out; simp [List.getD, show q < P.length by omega])
      obtain ⟨y, hy⟩ : ∃ y : Nat, P.getD q 0 = (y : Int) := ⟨(P.getD q 0).toNat, by omega⟩
      rw [hy] at hcm hym
      have HC := T.ask W4 s2 xn y hS2 hx (by omega) (by omega)
      have hbs : bis t xn P (b - a) a b s2 = (if (ask t s2 xn (y : Int)).1 then bis t xn P (q - a) a q (ask t s2 xn (y : Int)).2 else bis t xn P (b - (q + 1)) (q + 1) b (ask t s2 xn (y : Int)).2) := by
        obtain ⟨r, hr⟩ : ∃ r, b - a = r + 1 := ⟨b - a - 1, by omega⟩
        rw [hr]
        simp only [bis]
        rw [if_pos h4, hq, hy]
        split
        · exact bis_fuel t xn P _ _ _ _ _ (by omega) (by omega)
        · exact bis_fuel t xn P _ _ _ _ _ (by omega) (by omega)
      have hal := (ask_len t s2 xn (y : Int)).2
      generalize hAsk : ask t s2 xn (y : Int) = RR at *
      obtain ⟨r, s4⟩ := RR
      have hal4 : s4.h.length ≤ s2.h.length + 1 := hal
      have Hbs : Hid (bis t xn P (b - a) a b s2 = (if r then bis t xn P (q - a) a q s4 else bis t xn P (b - (q + 1)) (q + 1) b s4)) := hbs
      have hma : a ≤ q := by omega
      have hmb : q < b := by omega
      clear hbs hAsk hal hy hq hgq
      go_wp2_with fail
      refine HC.mono ?_
      rintro e w5 ⟨rfl, hS5, hF5⟩
      have hF6 : OfE E w w5 := hF2.trans hF5
      clear HC
      have wm : IntKind.i64.wrap ((q : Int) + 1) = (q : Int) + 1 := by rw [IntKind.wrap_i64]; omega
      cases r
      · go_wp2_with fail
        go_roundw
        case rel => exact ⟨q + 1, b, s4, by go_num, rfl, by omega, hbk, hS5, hF6, by have h := Hb.out; rw [Hbs.out] at h; exact h, by omega⟩
        case measure => simp [intOf]; omega
      · go_wp2_with fail
        go_roundw
        case rel => exact ⟨a, q, s4, rfl, rfl, hma, by omega, hS5, hF6, by have h := Hb.out; rw [Hbs.out] at h; exact h, by omega⟩
        case measure => simp [intOf]; omega
    · have h4i : ¬ (a : Int) < (b : Int) := by omega
      have hfin := Hb.out
      rw [show b - a = 0 by omega] at hfin
      simp only [bis, Prod.mk.injEq] at hfin
      obtain ⟨rfl, rfl⟩ := hfin
      clear Hb hasks
      have wa1 : IntKind.i64.wrap ((a : Int) + 1) = (a : Int) + 1 := by rw [IntKind.wrap_i64]; omega
      have q1 : (a : Int) + 1 ≤ (m : Int) + 1 := by omega
      have q2 : (m : Int) + 1 ≤ (cc : Int) := by omega
      have q3 : (a : Int) ≤ (m : Int) := by omega
      have q4 : (m : Int) ≤ (cc : Int) := by omega
      have q5 : (0 : Int) ≤ (a : Int) + 1 := by omega
      have q6 : (a : Int) < (m : Int) + 1 := by omega
      by_cases ham : a < m
      · have nca : ¬ cc = a + 1 := by omega
        have ncb : ¬ cc = a := by omega
        have hsplit : D ++ ((P ++ [(xn : Int)]) ++ R) = (D ++ P.take a) ++ ((P.drop a ++ [(xn : Int)]) ++ R) := by
          rw [show (D ++ P.take a) ++ ((P.drop a ++ [(xn : Int)]) ++ R) = D ++ (((P.take a ++ P.drop a) ++ [(xn : Int)]) ++ R) by simp only [List.append_assoc], List.take_append_drop]
        have hO3 : Own W4.drew B (.slice (some ⟨g, 0, none⟩) N c) ((D ++ P.take a) ++ ((P.drop a ++ [(xn : Int)]) ++ R)) := by rw [← hsplit]; exact hO2.drew
        obtain ⟨w5, hrun, hO5, hg5⟩ := hO3.shift (h := o + a) (u := m - a) (dLen := m - a) (dCap := cc - (a + 1)) (sLen := m - a) (sCap := cc - a) (by simp [Ho.out, Hm.out]; omega) (by simp [Hm.out]) (by omega) (Nat.le_refl _) rfl
        rw [show o + a + 1 = o + (a + 1) by omega] at hrun
        have f5 := hO5.frozen (o + a)
        have hc5 := hO5.cell (o + a) (by simp [Ho.out, Hm.out]; omega)
        have hO6 := hO5.store (o + a) (z := (xn : Int)) (by omega) (by omega)
        have hfinal : ((D ++ P.take a) ++ (((P.drop a).headD 0 :: P.drop a) ++ R)).set (o + a) (xn : Int) = D ++ ((P.take a ++ (xn : Int) :: P.drop a) ++ R) := by
          have hl0 : (D ++ P.take a).length = o + a := by simp [Ho.out, Hm.out]; omega
          have := mid_set (D ++ P.take a) ((P.drop a).headD 0 :: P.drop a) R 0 (by simp) (xn : Int)
          rw [hl0, Nat.add_zero] at this
          rw [this]
          simp
        rw [hfinal] at hO6
        have hret : PutP t E S w B g N c D R xn P s (.returned (.tuple #[])) (w5.setCell ⟨g, o + a, none⟩ (.int .i64 (xn : Int))) := by
          refine ⟨rfl, by rw [HPUT.out]; exact hO6, ?_, ?_⟩
          · rw [HPUT.out]
            exact T.gr (T.gr (T.al hS2 (Below.refl _ _).drew) hO3 hZB hgE hg5) hO5 hZB hgE (gb_set _ _ _ _)
          · exact ((hF2.trans (OfE.below (Below.refl _ _).drew)).ei.trans (OfE.eg hg5)).trans (OfE.eg (gb_set _ _ _ _))
        obtain ⟨z5, hz5⟩ : ∃ z5, ((D ++ P.take a) ++ (((P.drop a).headD 0 :: P.drop a) ++ R)).getD (o + a) 0 = z5 := ⟨_, rfl⟩
        rw [hz5] at hc5
        clear hfinal hO6 hz5 hsplit hO3 hO5
        go_wp2_with fail
        go_region
        all_goals
          go_wp2_with fail
          go_end0
          exact hret
      · obtain rfl : a = m := by omega
        have hdr : P.drop a = [] := List.drop_of_length_le (by rw [Hm.out]; exact Nat.le_refl _)
        have htk : P.take a = P := List.take_of_length_le (by rw [Hm.out]; exact Nat.le_refl _)
        rw [hdr, htk] at HPUT
        have hO3 : Own W4.drew B (.slice (some ⟨g, 0, none⟩) N c) (D ++ ((P ++ [(xn : Int)]) ++ R)) := hO2.drew
        have f5 := hO3.frozen (o + a)
        have hc5 := hO3.cell (o + a) (by simp [Ho.out, Hm.out])
        have hO6 := hO3.store (o + a) (z := (xn : Int)) (by omega) (by omega)
        have hfinal : (D ++ ((P ++ [(xn : Int)]) ++ R)).set (o + a) (xn : Int) = D ++ ((P ++ [(xn : Int)]) ++ R) := by
          have := mid_set D (P ++ [(xn : Int)]) R a (by simp [Hm.out]) (xn : Int)
          rw [Ho.out] at this
          rw [this, ← Hm.out]
          simp
        rw [hfinal] at hO6
        have hret : PutP t E S w B g N c D R xn P s (.returned (.tuple #[])) (W4.drew.setCell ⟨g, o + a, none⟩ (.int .i64 (xn : Int))) := by
          refine ⟨rfl, by rw [HPUT.out]; exact hO6, ?_, ?_⟩
          · rw [HPUT.out]
            exact T.gr (T.al hS2 (Below.refl _ _).drew) hO3 hZB hgE (gb_set _ _ _ _)
          · exact (hF2.trans (OfE.below (Below.refl _ _).drew)).ei.trans (OfE.eg (gb_set _ _ _ _))
        obtain ⟨z5, hz5⟩ : ∃ z5, (D ++ ((P ++ [(xn : Int)]) ++ R)).getD (o + a) 0 = z5 := ⟨_, rfl⟩
        rw [hz5] at hc5
        have hrn := fun dp dc sp sc => run_copy_none (P := Try.prog) W4.drew 22 22 3 2 dp sp 0 dc 0 sc Try.underlying22 Try.size2 rfl
        clear hfinal hO6 hz5 hO3 hdr htk
        by_cases nca : cc = a + 1
        · subst nca
          have hr1 := hrn (some ⟨g, o, none⟩) 0 (some ⟨g, o + a, none⟩) 1
          clear hrn
          go_wp2_with fail
          go_region
          all_goals
            go_wp2_with fail
            go_end0
            exact hret
        · have ncb : ¬ cc = a := by omega
          have hr1 := hrn (some ⟨g, o + (a + 1), none⟩) (cc - (a + 1)) (some ⟨g, o + a, none⟩) (cc - a)
          clear hrn
          go_wp2_with fail
          go_region
          all_goals
            go_wp2_with fail
            go_end0
            exact hret
end Go.Proofs.Ytlnekedehalbdaa
