import Derived.Test.YtlnekedehalbdaaPsU
namespace Go.Proofs.Ytlnekedehalbdaa
open Go.RowKit
set_option linter.unusedVariables false
set_option linter.unusedSimpArgs false

/-- The runs as pieces of one row. -/
def slsO (g c : Nat) : Nat → List (List Int) → List Sl
  | _, [] => []
  | off, l :: r => ⟨some ⟨g, off, none⟩, l.length, c - off⟩ :: slsO g c (off + l.length) r
theorem slsO_len (g c : Nat) : ∀ (Ls : List (List Int)) (off : Nat), (slsO g c off Ls).length = Ls.length
  | [], _ => rfl
  | l :: r, off => by simp [slsO, slsO_len g c r]
theorem slsO_snoc (g c : Nat) (l : List Int) : ∀ (Ls : List (List Int)) (off : Nat), slsO g c off (Ls ++ [l]) = slsO g c off Ls ++ [⟨some ⟨g, off + Ls.flatten.length, none⟩, l.length, c - (off + Ls.flatten.length)⟩]
  | [], off => by simp [slsO]
  | x :: r, off => by
    simp only [List.cons_append, slsO, List.flatten_cons, List.length_append]
    rw [slsO_snoc g c l r (off + x.length)]
    simp [Nat.add_assoc]
theorem piece_rd {E : Nat → Prop} {w : World} {B g N c o : Nat} {D P R : List Int} (hO : Own w B (.slice (some ⟨g, 0, none⟩) N c) (D ++ (P ++ R))) (hE : ¬ E g) (ho : D.length = o) : RdY E w (.slice (some ⟨g, o, none⟩) P.length (c - o)) P := by
  have hcell := hO.cell
  have hN := hO.len
  rcases hO.shape with ⟨e, _⟩ | ⟨g', cap', e, hB, hz, hc⟩
  · cases e
  · simp only [Value.slice.injEq, Option.some.injEq, Addr.mk.injEq, and_true] at e
    obtain ⟨rfl, e2, rfl⟩ := e
    have hl := hO.2.1
    have hlim := hO.2.2
    simp only [List.length_append] at hl hc
    refine ⟨⟨_, _, rfl, by omega, fun z hz => hlim z (by simp [hz]), ⟨by omega, fun h => by cases h⟩, fun h0 => ⟨g, o, rfl, hz, fun k hk => ?_⟩⟩, fun h0 b off n c' e => ?_⟩
    · have := hcell (o + k) (by simp [ho]; omega)
      rw [this, ← ho, mid_get D P R k hk]
    · simp only [Value.slice.injEq, Option.some.injEq, Addr.mk.injEq, and_true] at e
      obtain ⟨⟨rfl, rfl⟩, -, -⟩ := e
      exact ⟨hE, hO.isI g rfl⟩
theorem slsO_rd {E : Nat → Prop} {w : World} {B g N c : Nat} (hE : ¬ E g) : ∀ (Ls : List (List Int)) (D R : List Int) (o : Nat), Own w B (.slice (some ⟨g, 0, none⟩) N c) (D ++ (Ls.flatten ++ R)) → D.length = o → ∀ k (h : k < (slsO g c o Ls).length) (h' : k < Ls.length), RdY E w (slsO g c o Ls)[k].val Ls[k]
  | [], _, _, _, _, _, k, h, _ => by simp [slsO] at h
  | l :: r, D, R, o, hO, ho, k, h, h' => by
    cases k with
    | zero =>
      simp only [slsO, List.getElem_cons_zero, Sl.val]
      have : D ++ ((l :: r).flatten ++ R) = D ++ (l ++ (r.flatten ++ R)) := by simp
      rw [this] at hO
      exact piece_rd hO hE ho
    | succ k =>
      simp only [slsO, List.getElem_cons_succ]
      have : D ++ ((l :: r).flatten ++ R) = (D ++ l) ++ (r.flatten ++ R) := by simp
      rw [this] at hO
      exact slsO_rd hE r (D ++ l) R (o + l.length) hO (by simp [ho]) k (by simpa [slsO] using h) (by simpa using h')
def RofI (t : Tl) (E : Nat → Prop) (S : World → St → Prop) (w : World) (n B g N c : Nat) (L : List Int) (s : St) (vt vr : Value) (wr : World) : Prop :=
  ∃ (Ls : List (List Int)) (P : List Int) (s' : St) (a : Option Addr) (cc : Nat), vt = .slice a P.length cc ∧ (0 < P.length → a = some ⟨g, Ls.flatten.length, none⟩ ∧ cc = c - Ls.flatten.length) ∧
    Own wr B (.slice (some ⟨g, 0, none⟩) N c) (Ls.flatten ++ P) ∧ OwnG shL 22 wr w.heap.size vr (slsO g c 0 Ls) ∧ S wr s' ∧ OfE (Ei E g) w wr ∧ Ls.length + P.length ≤ N ∧ (∀ y ∈ P, 0 ≤ y ∧ y < (n : Int)) ∧
    s'.h.length + 6 * P.length ≤ s.h.length + 6 * N ∧ Hid (runsS t N L s = (Ls ++ (runsS t P.length P s').1, (runsS t P.length P s').2))
theorem runsS_cons (t : Tl) (P : List Int) (h : 0 < P.length) (s : St) : runsS t P.length P s = ((oneS t P s).1 :: (runsS t (oneS t P s).2.1.length (oneS t P s).2.1 (oneS t P s).2.2).1, (runsS t (oneS t P s).2.1.length (oneS t P s).2.1 (oneS t P s).2.2).2) := by
  obtain ⟨q, hq⟩ : ∃ q, P.length = q + 1 := ⟨P.length - 1, by omega⟩
  have hlt := oneS_lt t P s h
  rw [hq]
  simp only [runsS]
  rw [if_neg (by intro e; rw [e] at h; simp at h)]
  rw [runsS_fuel t q (oneS t P s).2.1.length _ _ (by omega) (Nat.le_refl _)]
theorem fillS_stop (t : Tl) (Q R : List Int) (s : St) (h : ¬ (Q.length < 6 ∧ 0 < R.length)) : fillS t Q R s = (Q, R, s) := by
  cases R with
  | nil => rfl
  | cons x r => simp only [fillS]; rw [if_neg (fun h2 => h ⟨h2, by simp⟩)]

def FilI (t : Tl) (E : Nat → Prop) (S : World → St → Prop) (w2 : World) (n B g N c m : Nat) (D P : List Int) (s' : St) (vn : Value) (wr : World) : Prop :=
  ∃ (k : Nat) (Q R : List Int) (s3 : St), vn = .int .i64 k ∧ Q.length = k ∧ R.length = m - k ∧ 0 < k ∧ k ≤ m ∧ Own wr B (.slice (some ⟨g, 0, none⟩) N c) (D ++ (Q ++ R)) ∧ S wr s3 ∧ OfE (Ei E g) w2 wr ∧ (∀ y ∈ Q, 0 ≤ y ∧ y < (n : Int)) ∧ (∀ y ∈ R, 0 ≤ y ∧ y < (n : Int)) ∧ s3.h.length + 6 * (m - k) ≤ s'.h.length + 6 * m ∧ Hid (oneS t P s' = fillS t Q R s3)
set_option maxRecDepth 100000 in
set_option maxHeartbeats 1000000 in
theorem runsOf_any (t : Tl) (n Z Y : Nat) (E : Nat → Prop) (S : World → St → Prop) (T : Tlr t n Z Y E S) (w : World) (B g N c : Nat) (L : List Int) (s : St) (hn : n ≤ 2000) (hS : S w s)
    (hO : Own w B (.slice (some ⟨g, 0, none⟩) N c) L) (hN : N ≤ 2000) (hNc : N ≤ c) (hZB : Z ≤ B) (hgE : ¬ E g) (hP : ∀ y ∈ L, 0 ≤ y ∧ y < (n : Int)) (hl : s.h.length + 6 * N < 1000000) :
    Calls Try.prog 35 #[.pointer (some ⟨Y, 0, none⟩), .slice (some ⟨g, 0, none⟩) N c] w fun e w' => ∃ v, e = .returned v ∧ RO E w' w.heap.size v (runsS t N L s).1 ∧ S w' (runsS t N L s).2 ∧ OfE (Ei E g) w w' := by
  have hEw := T.lt w s hS
  have hZw := T.bel w s hS
  have hgw : g < w.heap.size := (hO.lt g rfl).2
  have hEgw : ∀ q, Ei E g q → q < w.heap.size := fun q hq => hq.elim (hEw q) (fun e => by rw [e]; exact hgw)
  have hLN := hO.len
  have bE := al_below w (.cells #[] 22)
  obtain ⟨sE, rE, -, -⟩ := RO.nil E w
  have rE2 : OwnG shL 22 (w.alloc (.cells #[] 22)) w.heap.size (.slice (some ⟨w.heap.size, 0, none⟩) 0 0) [] := ⟨World.ownsRow_lit w #[] 0 (Nat.le_refl _) (Nat.zero_le _) rfl, by simp, by simp⟩
  generalize hM : runsS t N L s = M
  have HM : Hid (runsS t N L s = M) := hM
  have HLN : Hid (N = L.length) := hLN
  clear hM hLN rE
  go_enter Try.func35, Try.ntmps35
  go_wp2_with fail
  go_loopw [1, 5] (fun vt vr wr => RofI t E S w n B g N c L s vt vr wr) (fun vt _ _ => slM vt)
  case atStart => exact ⟨[], L, s, some ⟨g, 0, none⟩, c, by rw [← HLN.out], fun _ => ⟨rfl, rfl⟩, hO.keep bE, rE2, T.al hS bE, OfE.below bE, by rw [← HLN.out]; simp, hP, by rw [← HLN.out]; exact Nat.le_refl _, by rw [← HLN.out, List.nil_append]; exact rfl⟩
  case round =>
    obtain ⟨Ls, P, s', a, cc, rfl, hva, hOw, hOl, hS1, hF1, hcnt, hrng, hask, HR⟩ := hrel
    clear bE rE2
    generalize wr = W1 at *
    have hz1 := hF1.1
    obtain ⟨ra, rc, hv⟩ := hOl.form
    rw [slsO_len] at hv
    subst hv
    obtain ⟨NL, hNL⟩ : ∃ NL, Ls.length = NL := ⟨_, rfl⟩
    obtain ⟨m, hm⟩ : ∃ m, P.length = m := ⟨_, rfl⟩
    rw [hNL] at hcnt hOl ⊢
    rw [hm] at hva hcnt hask HR ⊢
    have HNL : Hid (Ls.length = NL) := hNL
    have Hm : Hid (P.length = m) := hm
    obtain ⟨o, ho⟩ : ∃ o, Ls.flatten.length = o := ⟨_, rfl⟩
    have Ho : Hid (Ls.flatten.length = o) := ho
    rw [ho] at hva
    have hfit : o + m = N := by have := hOw.len; simp [ho, hm] at this; omega
    clear hNL hm ho
    by_cases hm0 : 0 < m
    · obtain ⟨rfl, rfl⟩ := hva hm0
      have hm0i : (0 : Int) < (m : Int) := by omega
      have HC := runSize_any t n Z Y E S T W1 B g N c o m (c - o) Ls.flatten P s' hn hS1 hOw Ho.out Hm.out hm0 (by omega) (by omega) hZB hgE hrng (by omega)
      have hr1 := runN_le t P s'
      have hr2 := runN_pos t P s' (by rw [Hm.out]; exact hm0)
      have hr3 := runN_asks t P s'
      rw [Hm.out] at hr1
      go_wp2_with fail
      refine HC.mono ?_
      rintro e w2 ⟨rfl, hO2, hS2, hF2⟩
      have hone : oneS t P s' = fillS t (if (runN t P s').2.1 then (P.take (runN t P s').1).reverse else P.take (runN t P s').1) (P.drop (runN t P s').1) (runN t P s').2.2 := rfl
      have hQl : (if (runN t P s').2.1 then (P.take (runN t P s').1).reverse else P.take (runN t P s').1).length = (runN t P s').1 := by split <;> simp [Hm.out] <;> omega
      have hQr : ∀ y ∈ (if (runN t P s').2.1 then (P.take (runN t P s').1).reverse else P.take (runN t P s').1), 0 ≤ y ∧ y < (n : Int) := by
        intro y hy
        apply hrng
        revert hy
        split
        · rw [List.mem_reverse]; exact List.mem_of_mem_take
        · exact List.mem_of_mem_take
      have hRr : ∀ y ∈ P.drop (runN t P s').1, 0 ≤ y ∧ y < (n : Int) := fun y hy => hrng y (List.mem_of_mem_drop hy)
      have hRl : (P.drop (runN t P s').1).length = m - (runN t P s').1 := by simp [Hm.out]
      generalize (if (runN t P s').2.1 then (P.take (runN t P s').1).reverse else P.take (runN t P s').1) = Q0 at *
      generalize P.drop (runN t P s').1 = R0' at *
      generalize hrn : runN t P s' = RN at *
      obtain ⟨k0, d0, s2⟩ := RN
      simp only at hr1 hr2 hr3 hQl hRl hS2 hone
      have HONE : Hid (oneS t P s' = fillS t Q0 R0' s2) := hone
      have hF3 : OfE (Ei E g) w w2 := hF1.trans hF2
      have hOl2 := hOl.offE hEgw hF2
      have HQl : Hid (Q0.length = k0) := hQl
      have HRl : Hid (R0'.length = m - k0) := hRl
      clear hrn hone hQl hRl HC hOw hS1 hF1 hF2 hOl
      go_wp2_with fail
      go_loopw [6] (fun vn wr => FilI t E S w2 n B g N c m Ls.flatten P s' vn wr) (fun vn _ => m - (intOf vn).toNat)
      case atStart => exact ⟨k0, Q0, R0', s2, rfl, HQl.out, HRl.out, hr2, hr1, hO2, hS2, OfE.refl _ _, hQr, hRr, by omega, HONE⟩
      case round =>
        obtain ⟨k, Q, R, s3, rfl, hQk, hRk, hk1, hkm, hOw3, hS3, hF4, hrQ, hrR, has3, HF⟩ := hrel
        generalize wr = W3 at *
        have HQk : Hid (Q.length = k) := hQk
        have HRk : Hid (R.length = m - k) := hRk
        have hOl3 := hOl2.offE hEgw hF4
        have hz3 : w.heap.size ≤ W3.heap.size := Nat.le_trans hF3.1 hF4.1
        have q1 : (k : Int) ≤ ((c - o : Nat) : Int) := by omega
        have q2 : (m : Int) ≤ ((c - o : Nat) : Int) := by omega
        have q3 : (k : Int) ≤ (m : Int) := by omega
        obtain ⟨CO, hCO⟩ : ∃ CO, c - o = CO := ⟨_, rfl⟩
        by_cases hgo : k < 6 ∧ k < m
        · obtain ⟨h1, h2⟩ := hgo
          have h1i : (k : Int) < 6 := by omega
          have h2i : (k : Int) < (m : Int) := by omega
          obtain ⟨x, R2, rfl⟩ : ∃ x r, R = x :: r := by cases R with | nil => simp at hRk; omega | cons x r => exact ⟨x, r, rfl⟩
          have hx := hrR x (List.mem_cons_self ..)
          obtain ⟨xn, rfl⟩ : ∃ xn : Nat, x = (xn : Int) := ⟨x.toNat, by omega⟩
          have hOw4 : Own W3 B (.slice (some ⟨g, 0, none⟩) N c) (Ls.flatten ++ ((Q ++ [(xn : Int)]) ++ R2)) := by simpa using hOw3
          have HC := putIn_any t n Z Y E S T W3 B g N c o k (c - o) Ls.flatten Q R2 xn s3 hn hS3 hOw4 Ho.out hQk (by omega) (by omega) hZB hgE (by omega) hrQ (by omega)
          have hpl := putS_len t xn Q s3
          have hpa := putS_asks t xn Q s3
          have hpm := putS_mem t xn Q s3
          have HF2 : Hid (oneS t P s' = fillS t (putS t xn Q s3).1 R2 (putS t xn Q s3).2) := by
            rw [HF.out]
            simp only [fillS]
            rw [if_pos (by rw [hQk]; exact h1)]
            exact rfl
          have hR2 : R2.length = m - (k + 1) := by simp at hRk; omega
          have HR2 : Hid (R2.length = m - (k + 1)) := hR2
          generalize hPS : putS t xn Q s3 = PS at *
          have HPS : Hid (putS t xn Q s3 = PS) := hPS
          clear hPS
          obtain ⟨Q2, s4⟩ := PS
          simp only at hpl hpa hpm HF2
          rw [hQk] at hpl hpa
          have HPL : Hid (Q2.length = k + 1) := hpl
          have hrQ2 : ∀ y ∈ Q2, 0 ≤ y ∧ y < (n : Int) := fun y hy => (hpm y hy).elim (fun e => by omega) (hrQ y)
          have hrR2 : ∀ y ∈ R2, 0 ≤ y ∧ y < (n : Int) := fun y hy => hrR y (List.mem_cons_of_mem _ hy)
          have wk : IntKind.i64.wrap ((k : Int) + 1) = (k : Int) + 1 := by rw [IntKind.wrap_i64]; omega
          have q4 : (k : Int) + 1 ≤ ((c - o : Nat) : Int) := by omega
          have q5 : (0 : Int) ≤ (k : Int) + 1 := by omega
          rw [hCO] at q1 q2 q4 HC ⊢
          clear hpl hpm hQk hRk hR2 HF hCO
          go_wp2_with fail
          refine HC.mono ?_
          rintro e w4 ⟨rfl, hO5, hS5, hF5⟩
          rw [HPS.out] at hO5 hS5
          clear HC HPS
          go_wp2_with fail
          go_roundw
          case rel => exact ⟨k + 1, Q2, R2, s4, by go_num, HPL.out, HR2.out, by omega, by omega, hO5, hS5, hF4.trans hF5, hrQ2, hrR2, by omega, HF2⟩
          case measure => simp [intOf]; omega
        · have hcase : (¬ k < 6) ∨ (k < 6 ∧ ¬ k < m) := by
            by_cases h : k < 6
            · exact .inr ⟨h, fun h2 => hgo ⟨h, h2⟩⟩
            · exact .inl h
          have HCO : Hid (c - o = CO) := hCO
          rw [hCO] at q1 q2 ⊢
          clear hCO hQk hRk
          rcases hcase with h1 | ⟨h1, h2⟩
          · have h1i : ¬ (k : Int) < 6 := by omega
            have hsl : Hid ((slsO g c 0 Ls).length = NL) := by rw [slsO_len]; exact HNL.out
            have bL := al_below W3 (.cells #[.slice (some ⟨g, o, none⟩) k CO] 22)
            have hOl4 := hOl3.keep bL
            go_wp2_with (at_builtin; refine wpList_append_one Try.info22 rfl (by decide) rfl _ _ 57 rfl Try.underlying57 w.heap.size _ (slsO g c 0 Ls) ⟨some ⟨g, o, none⟩, k, CO⟩ trivial W3.heap.size 1 rfl rfl hOl4 (sl_cell W3 (some ⟨g, o, none⟩) k CO) (by rw [hsl.out]; omega) (by simp; omega) ?_; intro a5 c5 w5 hO5 hg5)
            have hOw5 : Own w5 B (.slice (some ⟨g, 0, none⟩) N c) (Ls.flatten ++ (Q ++ R)) := (hOw3.keep bL).but (show World.grownBy _ w5 (Value.slice ra NL rc).ownBlock from hg5) (by right; intro e; have := (hOl4.lt g e.symm).1; omega)
            have hS5 := T.gs (T.al hS3 bL) hOl4 hZw hEw hg5
            have hF5 : OfE (Ei E g) w w5 := ((hF3.trans hF4).low (bL.mono hz3)).far hg5 (fun j hj => (hOl4.lt j hj).1)
            have hO6 : OwnG shL 22 w5 w.heap.size (.slice a5 ((slsO g c 0 Ls).length + 1) c5) (slsO g c 0 (Ls ++ [Q])) := by
              rw [slsO_snoc, Nat.zero_add, Ho.out, HQk.out, HCO.out]
              have := hO5
              rw [List.length_append, List.length_singleton] at this
              exact this
            have hrel2 : RofI t E S w n B g N c L s (.slice (if CO = k then some ⟨g, o, none⟩ else some ⟨g, o + k, none⟩) (m - k) (CO - k)) (.slice a5 ((slsO g c 0 Ls).length + 1) c5) w5 := by
              refine ⟨Ls ++ [Q], R, s3, _, _, by rw [HRk.out], fun h0 => ?_, by simpa using hOw5, hO6, hS5, hF5, by have := HNL.out; have := HRk.out; simp; omega, hrR, by have := HRk.out; omega, ?_⟩
              · rw [HRk.out] at h0
                have := HCO.out
                have hne : ¬ CO = k := by omega
                rw [if_neg hne]
                have e1 : (Ls ++ [Q]).flatten.length = o + k := by simp only [List.flatten_append, List.flatten_cons, List.flatten_nil, List.append_nil, List.length_append, Ho.out, HQk.out]
                rw [e1]
                exact ⟨rfl, by omega⟩
              · have h := HR.out
                have e2 : oneS t P s' = (Q, R, s3) := by rw [HF.out]; exact fillS_stop t Q R s3 (by rw [HQk.out, HRk.out]; omega)
                have e3 := runsS_cons t P (by rw [Hm.out]; exact hm0) s'
                rw [Hm.out, e2] at e3
                rw [e3] at h
                exact h.trans (by simp)
            go_roundw
            case rel => exact hrel2
            case measure => simp [slM]; omega
          · have h1i : (k : Int) < 6 := by omega
            have h2i : ¬ (k : Int) < (m : Int) := by omega
            have hsl : Hid ((slsO g c 0 Ls).length = NL) := by rw [slsO_len]; exact HNL.out
            have bL := al_below W3 (.cells #[.slice (some ⟨g, o, none⟩) k CO] 22)
            have hOl4 := hOl3.keep bL
            go_wp2_with (at_builtin; refine wpList_append_one Try.info22 rfl (by decide) rfl _ _ 57 rfl Try.underlying57 w.heap.size _ (slsO g c 0 Ls) ⟨some ⟨g, o, none⟩, k, CO⟩ trivial W3.heap.size 1 rfl rfl hOl4 (sl_cell W3 (some ⟨g, o, none⟩) k CO) (by rw [hsl.out]; omega) (by simp; omega) ?_; intro a5 c5 w5 hO5 hg5)
            have hOw5 : Own w5 B (.slice (some ⟨g, 0, none⟩) N c) (Ls.flatten ++ (Q ++ R)) := (hOw3.keep bL).but (show World.grownBy _ w5 (Value.slice ra NL rc).ownBlock from hg5) (by right; intro e; have := (hOl4.lt g e.symm).1; omega)
            have hS5 := T.gs (T.al hS3 bL) hOl4 hZw hEw hg5
            have hF5 : OfE (Ei E g) w w5 := ((hF3.trans hF4).low (bL.mono hz3)).far hg5 (fun j hj => (hOl4.lt j hj).1)
            have hO6 : OwnG shL 22 w5 w.heap.size (.slice a5 ((slsO g c 0 Ls).length + 1) c5) (slsO g c 0 (Ls ++ [Q])) := by
              rw [slsO_snoc, Nat.zero_add, Ho.out, HQk.out, HCO.out]
              have := hO5
              rw [List.length_append, List.length_singleton] at this
              exact this
            have hrel2 : RofI t E S w n B g N c L s (.slice (if CO = k then some ⟨g, o, none⟩ else some ⟨g, o + k, none⟩) (m - k) (CO - k)) (.slice a5 ((slsO g c 0 Ls).length + 1) c5) w5 := by
              refine ⟨Ls ++ [Q], R, s3, _, _, by rw [HRk.out], fun h0 => ?_, by simpa using hOw5, hO6, hS5, hF5, by have := HNL.out; have := HRk.out; simp; omega, hrR, by have := HRk.out; omega, ?_⟩
              · rw [HRk.out] at h0
                have := HCO.out
                have hne : ¬ CO = k := by omega
                rw [if_neg hne]
                have e1 : (Ls ++ [Q]).flatten.length = o + k := by simp only [List.flatten_append, List.flatten_cons, List.flatten_nil, List.append_nil, List.length_append, Ho.out, HQk.out]
                rw [e1]
                exact ⟨rfl, by omega⟩
              · have h := HR.out
                have e2 : oneS t P s' = (Q, R, s3) := by rw [HF.out]; exact fillS_stop t Q R s3 (by rw [HQk.out, HRk.out]; omega)
                have e3 := runsS_cons t P (by rw [Hm.out]; exact hm0) s'
                rw [Hm.out, e2] at e3
                rw [e3] at h
                exact h.trans (by simp)
            go_roundw
            case rel => exact hrel2
            case measure => simp [slM]; omega
    · have hm0i : ¬ (0 : Int) < (m : Int) := by omega
      obtain rfl : m = 0 := by omega
      have hP0 : P = [] := List.length_eq_zero_iff.mp Hm.out
      subst hP0
      have HR2 : Hid (M = (Ls, s')) := by rw [← HM.out, HR.out]; simp [runsS]; exact trivial
      have hret : RO E W1 w.heap.size (.slice ra NL rc) Ls := ⟨slsO g c 0 Ls, hOl, slsO_len _ _ _ _, slsO_rd hgE Ls [] [] 0 (by simpa using hOw) rfl⟩
      clear HR
      go_wp2_with fail
      go_ret
      rw [HR2.out]
      exact ⟨_, rfl, hret, hS1, hF1⟩
end Go.Proofs.Ytlnekedehalbdaa
