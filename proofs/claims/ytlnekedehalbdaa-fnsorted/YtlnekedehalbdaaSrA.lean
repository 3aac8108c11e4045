import Derived.Test.YtlnekedehalbdaaSrL
namespace Go.Proofs.Ytlnekedehalbdaa
open Go.RowKit
set_option linter.unusedVariables false
set_option linter.unusedSimpArgs false

theorem putS_mem (t : Tl) (x : Int) (l : List Int) (s : St) (z : Int) (h : z ∈ (putS t x l s).1) : z = x ∨ z ∈ l := by
  simp only [putS, List.mem_append, List.mem_cons] at h
  rcases h with h | h | h
  · exact .inr (List.mem_of_mem_take h)
  · exact .inl h
  · exact .inr (List.mem_of_mem_drop h)
theorem fillS_mem (t : Tl) : ∀ (r run : List Int) (s : St) (z : Int), z ∈ (fillS t run r s).1 → z ∈ run ∨ z ∈ r
  | [], run, s, z, h => .inl h
  | x :: r, run, s, z, h => by
    simp only [fillS] at h
    split at h
    · rcases fillS_mem t r _ _ z h with h | h
      · rcases putS_mem t x run s z h with h | h
        · right; simp [h]
        · exact .inl h
      · right; simp [h]
    · exact .inl h
theorem oneS_mem (t : Tl) (l : List Int) (s : St) (z : Int) (h : z ∈ (oneS t l s).1) : z ∈ l := by
  unfold oneS at h
  rcases fillS_mem t _ _ _ z h with h | h
  · split at h
    · rw [List.mem_reverse] at h; exact List.mem_of_mem_take h
    · exact List.mem_of_mem_take h
  · exact List.mem_of_mem_drop h
/-- The runs, and what was asked for them. -/
def R0 (t : Tl) (n : Nat) : List (List Int) × St := runsS t n (nums n) ⟨[], false⟩
/-- What the whole sort answers. -/
def AllP (t : Tl) (w0 w : World) (X n : Nat) (ov : Bool) (ks an : Value) (e : Ending) (w' : World) : Prop := ∃ (v : Value) (L : List Int), e = .returned v ∧ Rd w' v L ∧ SS w0 w' X ov ks an (sortS t n).2 ∧ Off w w' X ∧ ((sortS t n).2.k = false → L = (sortS t n).1.headD [])
def RunsI (t : Tl) (n p : Nat) (Ls : List (List Int)) (s' : St) : Prop := (s'.k = true → (R0 t n).2 = s') ∧ (s'.k = false → R0 t n = (Ls ++ (runsS t (n - p) (nf p n) s').1, (runsS t (n - p) (nf p n) s').2) ∧ ∀ l ∈ Ls, ∀ y ∈ l, 0 ≤ y ∧ y < (n : Int))
def RunsE (t : Tl) (n : Nat) (Ls : List (List Int)) (s' : St) : Prop := (s'.k = true → (R0 t n).2 = s') ∧ (s'.k = false → R0 t n = (Ls, s') ∧ (∀ l ∈ Ls, ∀ y ∈ l, 0 ≤ y ∧ y < (n : Int)) ∧ s'.h.length ≤ 6 * n)
theorem RunsI.start (t : Tl) (n : Nat) : RunsI t n 0 [] ⟨[], false⟩ := ⟨fun h => (by cases h), fun _ => ⟨by unfold R0 nf; rw [Nat.sub_zero, seg_nums]; simp, fun l hl => by cases hl⟩⟩
theorem RunsI.done {t : Tl} {n : Nat} {Ls : List (List Int)} {s' : St} (h : RunsI t n n Ls s') (hl : s'.k = false → s'.h.length + 6 * (n - n) ≤ 6 * n) : RunsE t n Ls s' :=
  ⟨h.1, fun hk => by
    obtain ⟨e, hr⟩ := h.2 hk
    refine ⟨by rw [e, Nat.sub_self]; simp [runsS], hr, by have := hl hk; omega⟩⟩
theorem RunsI.stuck {t : Tl} {n p : Nat} {Ls : List (List Int)} {s' : St} (h : RunsI t n p Ls s') (hk : s'.k = true) : RunsE t n Ls s' := ⟨h.1, fun h => by rw [hk] at h; cases h⟩
theorem RunsI.step {t : Tl} {n p k : Nat} {Ls : List (List Int)} {L : List Int} {s' s2 : St} (h : RunsI t n p Ls s') (hk : s'.k = false) (hp : p < n) (hpk : p + k ≤ n) (hst : (oneS t (nf p n) s').2.2 = s2) (hgo : s2.k = false → (oneS t (nf p n) s').1 = L ∧ (oneS t (nf p n) s').2.1 = nf (p + k) n) (hk1 : 1 ≤ k) : RunsI t n (p + k) (Ls ++ [L]) s2 := by
  obtain ⟨e, hr⟩ := h.2 hk
  have hne : nf p n ≠ [] := by rw [nf_cons hp]; simp
  obtain ⟨q, hq⟩ : ∃ q, n - p = q + 1 := ⟨n - p - 1, by omega⟩
  rw [hq] at e
  simp only [runsS] at e
  rw [if_neg hne, hst] at e
  refine ⟨fun h2 => by rw [e]; exact runsS_mono t q _ s2 h2, fun h2 => ?_⟩
  obtain ⟨e1, e2⟩ := hgo h2
  rw [e1, e2] at e
  refine ⟨?_, ?_⟩
  · rw [e, runsS_fuel t q (n - (p + k)) (nf (p + k) n) s2 (by rw [nf_len]; omega) (by rw [nf_len]; exact Nat.le_refl _)]
    simp
  · intro l hl y hy
    rcases List.mem_append.mp hl with h3 | h3
    · exact hr l h3 y hy
    · simp at h3; subst h3
      have hm : y ∈ nf p n := by
        rw [← e1] at hy
        exact oneS_mem t _ s' y hy
      have := seg_mem hm
      omega
/-- What is known in the rounds of merging. -/
def MrgI (t : Tl) (n q : Nat) (Ls : List (List Int)) (s' : St) : Prop := (s'.k = true → (sortS t n).2 = s') ∧ (s'.k = false → sortS t n = allS t Ls.length Ls s' ∧ (∀ l ∈ Ls, ∀ y ∈ l, 0 ≤ y ∧ y < (n : Int)) ∧ tot Ls = n ∧ s'.h.length + q * n ≤ 17 * n ∧ Ls.length ≤ 2 ^ q)
theorem RunsE.mrg {t : Tl} {n : Nat} {Ls : List (List Int)} {s' : St} (h : RunsE t n Ls s') (hn : n ≤ 2000) (hl : Ls.length ≤ n) : MrgI t n 11 Ls s' := by
  refine ⟨fun hk => ?_, fun hk => ?_⟩
  · have e := h.1 hk
    unfold R0 at e
    unfold sortS
    rw [e]
    exact allS_mono t _ _ s' hk
  · obtain ⟨e, hr, hs⟩ := h.2 hk
    unfold R0 at e
    have ht := runsS_tot t n (nums n) ⟨[], false⟩ (by simp [nums])
    rw [e] at ht
    refine ⟨by unfold sortS; rw [e], hr, by rw [ht]; simp [nums], by omega, ?_⟩
    have : (2 : Nat) ^ 11 = 2048 := by decide
    omega
theorem MrgI.step {t : Tl} {n q : Nat} {Ls : List (List Int)} {s' : St} (h : MrgI t n q Ls s') (hk : s'.k = false) (hl : 1 < Ls.length) : ∃ q', MrgI t n q' (pairS t Ls s').1 (pairS t Ls s').2 := by
  obtain ⟨e, hr, ht, ha, hq⟩ := h.2 hk
  have hpl := pairS_len t Ls s'
  obtain ⟨f, hf⟩ : ∃ f, Ls.length = f + 1 := ⟨Ls.length - 1, by omega⟩
  rw [hf] at e
  simp only [allS] at e
  rw [if_neg (by omega)] at e
  cases q with
  | zero => simp at hq; omega
  | succ q =>
    refine ⟨q, fun h2 => by rw [e]; exact allS_mono t _ _ _ h2, fun h2 => ⟨?_, pairS_in t Ls s' hr, by rw [pairS_tot]; exact ht, ?_, ?_⟩⟩
    · rw [e]; exact allS_fuel t _ _ _ _ (by omega) (by omega)
    · have := pairS_asks t Ls s'
      rw [ht] at this
      rw [Nat.add_mul] at ha
      omega
    · rw [Nat.pow_succ] at hq; omega
theorem MrgI.fin {t : Tl} {n q : Nat} {Ls : List (List Int)} {s' : St} (h : MrgI t n q Ls s') (hl : s'.k = false → Ls.length ≤ 1) : (sortS t n).2 = s' ∧ (s'.k = false → (sortS t n).1 = Ls) := by
  cases hk : s'.k
  · obtain ⟨e, _⟩ := h.2 hk
    have : allS t Ls.length Ls s' = (Ls, s') := by
      have h1 := hl hk
      cases hL : Ls.length with
      | zero => rfl
      | succ m => simp only [allS]; rw [if_pos (by omega)]
    rw [e, this]
    exact ⟨rfl, fun _ => rfl⟩
  · exact ⟨h.1 hk, fun h => by cases h⟩
theorem pair_two (t : Tl) (Ls : List (List Int)) (i : Nat) (h : i + 1 < Ls.length) (s : St) : pairS t (Ls.drop i) s = ((mrg2 t Ls[i] Ls[i + 1] s).1 :: (pairS t (Ls.drop (i + 2)) (mrg2 t Ls[i] Ls[i + 1] s).2).1, (pairS t (Ls.drop (i + 2)) (mrg2 t Ls[i] Ls[i + 1] s).2).2) := by
  rw [List.drop_eq_getElem_cons (by omega), List.drop_eq_getElem_cons h]
  rfl
theorem pair_one (t : Tl) (Ls : List (List Int)) (i : Nat) (h : i + 1 = Ls.length) (s : St) : pairS t (Ls.drop i) s = ([Ls[i]], s) := by
  rw [List.drop_eq_getElem_cons (by omega), List.drop_of_length_le (by omega)]
  rfl
theorem tot_two (Ls : List (List Int)) (i : Nat) (h : i + 1 < Ls.length) : tot (Ls.drop i) = Ls[i].length + Ls[i + 1].length + tot (Ls.drop (i + 2)) := by
  rw [List.drop_eq_getElem_cons (by omega), List.drop_eq_getElem_cons h]
  show Ls[i].length + (Ls[i + 1].length + tot (Ls.drop (i + 2))) = _
  omega

/-- In a round of merging. -/
def MInv (t : Tl) (w0 W3 : World) (X n NL : Nat) (ov : Bool) (ks an : Value) (Ls : List (List Int)) (s' : St) (vn vi : Value) (wr : World) : Prop := ∃ (j : Nat) (Ns : List (List Int)) (s2 : St), RR X wr W3.heap.size vn Ns ∧ vi = .int .i64 ((2 * j : Nat) : Int) ∧ 2 * j ≤ NL + 1 ∧ Ns.length ≤ j ∧ SS w0 wr X ov ks an s2 ∧ Off W3 wr X ∧ s2.h.length + tot (Ls.drop (2 * j)) ≤ s'.h.length + n ∧ Hid (pairS t Ls s' = (Ns ++ (pairS t (Ls.drop (2 * j)) s2).1, (pairS t (Ls.drop (2 * j)) s2).2))
set_option maxRecDepth 100000 in
set_option maxHeartbeats 1000000 in
theorem allS_any (t : Tl) (w0 w : World) (X n : Nat) (ov : Bool) (ks an : Value) (hn : n ≤ 2000) (hL : LessC t w0 X ov ks an n) (hS : SS w0 w X ov ks an ⟨[], false⟩) :
    Calls Try.prog 23 #[.pointer (some ⟨X, 0, none⟩), .int .i64 n] w fun e w' => AllP t w0 w X n ov ks an e w' := by
  have hXw := hS.lt
  have bE : Below w.heap.size w (w.alloc (.cells #[] 22)) := (Below.refl _ w).alloc (Nat.le_refl _) _
  have rE := RR.nil X w
  have hS1 := hS.keep bE
  have hF1 : Off w (w.alloc (.cells #[] 22)) X := Off.below bE
  go_enter Try.func23, Try.ntmps23
  go_upto_block 0 with fail
  generalize w.alloc (.cells #[] 22) = W1 at *
  clear bE hS
  go_cut [5] from 6 (fun vr wc => ∃ (Ls : List (List Int)) (s' : St), RR X wc w.heap.size vr Ls ∧ SS w0 wc X ov ks an s' ∧ Off w wc X ∧ Ls.length ≤ n ∧ Hid (RunsE t n Ls s'))
  case first =>
    go_wp2_with fail
    go_loopw [5, 6] (fun vr va wr => ∃ (p : Nat) (Ls : List (List Int)) (s' : St), RR X wr w.heap.size vr Ls ∧ va = .int .i64 p ∧ p ≤ n ∧ Ls.length ≤ p ∧ SS w0 wr X ov ks an s' ∧ Off w wr X ∧ (s'.k = false → s'.h.length + 6 * (n - p) ≤ 6 * n) ∧ Hid (RunsI t n p Ls s')) (fun _ va _ => n - (intOf va).toNat)
    case atStart => exact ⟨0, [], ⟨[], false⟩, rE, rfl, Nat.zero_le _, Nat.le_refl _, hS1, hF1, fun _ => by simp, RunsI.start t n⟩
    case round =>
      obtain ⟨p, Ls, s', hR, rfl, hpn, hLp, hS, hF, hl, HI⟩ := hrel
      clear rE hS1 hF1
      generalize wr = W2 at *
      have hst := hS.k
      obtain ⟨ra, rc, rfl⟩ := hR.form
      obtain ⟨NL, hNL⟩ : ∃ NL, Ls.length = NL := ⟨_, rfl⟩
      have HNL : Hid (Ls.length = NL) := hNL
      rw [hNL] at hLp hR ⊢
      clear hNL
      by_cases hend : p < n ∧ s'.k = false
      · obtain ⟨h1, h2⟩ := hend
        have h1i : (p : Int) < (n : Int) := by omega
        rw [h2] at hst
        have hl2 := hl h2
        have HC := runS_any t w0 W2 X n p ov ks an s' h1 hn hL hS h2 (by omega)
        go_wp2_with fail
        refine HC.mono ?_
        rintro e w3 ⟨v, k, L, s2, rfl, hk1, hpk, hO3, hLk, hS3, hF3, hst3, hgo3⟩
        have HI2 : Hid (RunsI t n (p + k) (Ls ++ [L]) s2) := HI.out.step h2 h1 hpk hst3 hgo3 hk1
        have has3 := oneS_asks t (nf p n) s'
        rw [hst3, nf_len] at has3
        have hl3 : s2.k = false → s2.h.length + 6 * (n - (p + k)) ≤ 6 * n := fun h => by
          have := (hgo3 h).2
          rw [this, nf_len] at has3
          omega
        obtain ⟨va, vc, rfl⟩ := hO3.form
        have hR3 := hR.off hXw hF3
        have hI3 := hO3.rdI (X := X) (Nat.lt_of_lt_of_le hXw hF.1)
        have hF4 : Off w w3 X := hF.trans hF3
        have hz3 := hF4.1
        rw [hLk] at hI3 ⊢
        clear HC hO3 hgo3 hst3 hF3 has3 HI hl hst hR
        have bL : Below w3.heap.size w3 (w3.alloc (.cells #[.slice va k vc] 22)) := (Below.refl _ w3).alloc (Nat.le_refl _) _
        have hR4 := hR3.off hXw (Off.below bL)
        have hI4 := hI3.off (Off.below bL)
        obtain ⟨sls, o1, o2, o3⟩ := hR4
        have hC4 : ∀ j, j < shL.n → (w3.alloc (.cells #[.slice va k vc] 22)).cell? ⟨w3.heap.size, j, none⟩ = (shL.cs ⟨va, k, vc⟩)[j]? := by
          intro j hj
          rw [World.cell?_alloc_at _ _ _ _ rfl]
          have : j = 0 := by simp [shL] at hj; omega
          subst this; rfl
        have hsl : Hid (sls.length = NL) := by rw [o2]; exact HNL.out
        go_wp2_with (at_builtin; refine wpList_append_one Try.info22 rfl (by decide) rfl _ _ 57 rfl Try.underlying57 w.heap.size _ sls ⟨va, k, vc⟩ trivial w3.heap.size 1 rfl rfl o1 hC4 (by rw [hsl.out]; omega) (by simp; omega) ?_; intro a5 c5 w5 hO5 hg5)
        have hR5 := RR.snoc o1 o2 o3 hg5 hO5 hI4
        have hS5 := (hS3.keep bL).gs o1 hXw hg5
        have hF5 : Off w w5 X := (hF4.low (bL.mono hz3)).far hg5 (fun j hj => (o1.lt j hj).1)
        go_roundw
        case rel => exact ⟨p + k, Ls ++ [L], s2, by rw [← o2]; simpa using hR5, by go_num, hpk, by have := HNL.out; simp; omega, hS5, hF5, hl3, HI2⟩
        case measure => simp [intOf]; omega
      · have hcase : (¬ p < n) ∨ (p < n ∧ s'.k = true) := by
          by_cases h : p < n
          · right; refine ⟨h, ?_⟩
            cases h8 : s'.k
            · exact absurd ⟨h, h8⟩ hend
            · rfl
          · exact .inl h
        rcases hcase with h1 | ⟨h1, h2⟩
        · have h1i : ¬ (p : Int) < (n : Int) := by omega
          obtain rfl : p = n := by omega
          go_wp2_with fail
          go_meet
          case rel => exact ⟨Ls, s', hR, hS, hF, by rw [HNL.out]; exact hLp, HI.out.done hl⟩
        · have h1i : (p : Int) < (n : Int) := by omega
          rw [h2] at hst
          go_wp2_with fail
          go_meet
          case rel => exact ⟨Ls, s', hR, hS, hF, by rw [HNL.out]; omega, HI.out.stuck h2⟩
  case rest =>
    obtain ⟨Ls, s', hR, hS, hF, hLn, HE⟩ := hcut
    clear rE hS1 hF1
    generalize wc = W2 at *
    have HM : Hid (∃ q, MrgI t n q Ls s') := ⟨11, HE.out.mrg hn hLn⟩
    clear HE
    go_upto_block 2 with fail
    go_cut [5] from 6 (fun vr wc => ∃ (Ls : List (List Int)) (s' : St), RR X wc w.heap.size vr Ls ∧ SS w0 wc X ov ks an s' ∧ Off w wc X ∧ Hid ((sortS t n).2 = s' ∧ (s'.k = false → (sortS t n).1 = Ls)))
    case first =>
      go_wp2_with fail
      go_loopw [5] (fun vr wr => ∃ (Ls : List (List Int)) (s' : St), RR X wr w.heap.size vr Ls ∧ SS w0 wr X ov ks an s' ∧ Off w wr X ∧ Ls.length ≤ n ∧ Hid (∃ q, MrgI t n q Ls s')) (fun vr _ => slM vr)
      case atStart => exact ⟨Ls, s', hR, hS, hF, hLn, HM⟩
      case round =>
        clear hR hS hF hLn HM
        obtain ⟨Ls, s', hR, hS, hF, hLn, HM⟩ := hrel
        generalize wr = W3 at *
        have hst := hS.k
        obtain ⟨ra, rc, rfl⟩ := hR.form
        obtain ⟨NL, hNL⟩ : ∃ NL, Ls.length = NL := ⟨_, rfl⟩
        have HNL : Hid (Ls.length = NL) := hNL
        rw [hNL] at hLn hR ⊢
        clear hNL
        by_cases hend : 1 < NL ∧ s'.k = false
        · obtain ⟨h1, h2⟩ := hend
          have h1i : (1 : Int) < (NL : Int) := by omega
          rw [h2] at hst
          have hmm : ∃ q', MrgI t n q' (pairS t Ls s').1 (pairS t Ls s').2 := by obtain ⟨q, hM⟩ := HM.out; exact hM.step h2 (by rw [HNL.out]; exact h1)
          have hrng : ∀ l ∈ Ls, ∀ y ∈ l, 0 ≤ y ∧ y < (n : Int) := by obtain ⟨q, hM⟩ := HM.out; exact (hM.2 h2).2.1
          have htot : tot Ls = n := by obtain ⟨q, hM⟩ := HM.out; exact (hM.2 h2).2.2.1
          have hask : s'.h.length ≤ 17 * n := by obtain ⟨q, hM⟩ := HM.out; have := (hM.2 h2).2.2.2.1; omega
          have hpl := pairS_len t Ls s'
          have HMM : Hid _ := hmm
          have HPL : Hid ((pairS t Ls s').1.length = (NL + 1) / 2) := by rw [hpl, HNL.out]; exact rfl
          have HT : Hid (tot Ls = n) := htot
          clear hmm hpl htot HM
          have bE : Below W3.heap.size W3 (W3.alloc (.cells #[] 22)) := (Below.refl _ W3).alloc (Nat.le_refl _) _
          have rE := RR.nil X W3
          have hz3 := hF.1
          have hX3 : X < W3.heap.size := Nat.lt_of_lt_of_le hXw hz3
          go_wp2_with fail
          go_loopw [9, 10] (fun vn vi wr => MInv t w0 W3 X n NL ov ks an Ls s' vn vi wr) (fun _ vi _ => NL + 2 - (intOf vi).toNat)
          case atStart => exact ⟨0, [], s', rE, rfl, by omega, Nat.le_refl _, hS.keep bE, Off.below bE, by rw [Nat.mul_zero, List.drop_zero, HT.out]; exact Nat.le_refl _, by rw [Nat.mul_zero, List.drop_zero, List.nil_append]; exact rfl⟩
          case round =>
            obtain ⟨j, Ns, s2, hN, rfl, hj, hNj, hS2, hF2, has2, HP⟩ := hrel
            clear rE bE hst
            generalize wr = W4 at *
            obtain ⟨na, nc, rfl⟩ := hN.form
            obtain ⟨NN, hNN⟩ : ∃ NN, Ns.length = NN := ⟨_, rfl⟩
            have HNN : Hid (Ns.length = NN) := hNN
            rw [hNN] at hNj hN ⊢
            obtain ⟨I, hI⟩ : ∃ I, 2 * j = I := ⟨_, rfl⟩
            rw [hI] at hj has2 HP ⊢
            have HI : Hid (2 * j = I) := hI
            clear hNN hI
            have hF4 : Off w W4 X := hF.trans hF2
            have hz4 := hF2.1
            have hR4 := hR.off hXw hF2
            have wI : IntKind.i64.wrap ((I : Int) + 1) = (I : Int) + 1 := by rw [IntKind.wrap_i64]; omega
            have wI2 : IntKind.i64.wrap ((I : Int) + 2) = (I : Int) + 2 := by rw [IntKind.wrap_i64]; omega
            by_cases h3 : I < NL
            · have h3i : (I : Int) < (NL : Int) := by omega
              have hIL : I < Ls.length := by rw [HNL.out]; exact h3
              by_cases h4 : I + 1 < NL
              · have h4i : (I : Int) + 1 < (NL : Int) := by omega
                have hIL1 : I + 1 < Ls.length := by rw [HNL.out]; exact h4
                obtain ⟨g, c, e, hBg, hgz, a1, c1, hc1, hr1⟩ := hR.at I hIL
                obtain ⟨g', c', e', _, _, a2, c2, hc2, hr2⟩ := hR.at (I + 1) hIL1
                simp only [Value.slice.injEq] at e e'
                obtain ⟨e1, -, rfl⟩ := e
                obtain ⟨e4, -, -⟩ := e'
                rw [e1] at e4
                simp only [Option.some.injEq, Addr.mk.injEq, and_true] at e4
                subst e4 e1
                obtain ⟨gcur, gp, hgT⟩ := hR.blk
                have hgQ : g ≠ X := by omega
                have KEEP : ∀ W, Off W3 W X → W.cell? ⟨g, I, none⟩ = some (.slice a1 Ls[I].length c1) ∧ W.cell? ⟨g, I + 1, none⟩ = some (.slice a2 Ls[I + 1].length c2) := fun W h => by
                  have hb := h.2 g hgz hgQ (fun cur p h3 => by rw [hgT] at h3; simp only [Option.some.injEq, Obj.cells.injEq] at h3; exact absurd h3.2.1 (by decide))
                  exact ⟨(World.cell?_of_block (a := ⟨g, I, none⟩) hb).trans hc1, (World.cell?_of_block (a := ⟨g, I + 1, none⟩) hb).trans hc2⟩
                obtain ⟨d1, d2⟩ := KEEP W4 hF2
                have htw := tot_two Ls I hIL1
                have hpt := pair_two t Ls I hIL1 s2
                have HC := fun W (h : SS w0 W X ov ks an s2) (ha : RdF X W (.slice a1 Ls[I].length c1) Ls[I]) (hb : RdF X W (.slice a2 Ls[I + 1].length c2) Ls[I + 1]) => mergeS_any t w0 W X n ov ks an (.slice a1 Ls[I].length c1) (.slice a2 Ls[I + 1].length c2) Ls[I] Ls[I + 1] s2 hn hL h ha hb (hrng _ (List.getElem_mem hIL)) (hrng _ (List.getElem_mem hIL1)) (by omega)
                have hml := mrg2_asks t Ls[I] Ls[I + 1] s2
                have HPT : Hid (pairS t (Ls.drop I) s2 = ((mrg2 t Ls[I] Ls[I + 1] s2).1 :: (pairS t (Ls.drop (I + 2)) (mrg2 t Ls[I] Ls[I + 1] s2).2).1, (pairS t (Ls.drop (I + 2)) (mrg2 t Ls[I] Ls[I + 1] s2).2).2)) := hpt
                have has4 : (mrg2 t Ls[I] Ls[I + 1] s2).2.h.length + tot (Ls.drop (I + 2)) ≤ s'.h.length + n := by omega
                generalize hMM : mrg2 t Ls[I] Ls[I + 1] s2 = M at *
                obtain ⟨ML, Ms⟩ := M
                have hRF1 := (hr1.off hF2).rdF
                have hRF2 := (hr2.off hF2).rdF
                generalize Ls[I].length = L1 at *
                generalize Ls[I + 1].length = L2 at *
                clear hMM hpt htw hml has2
                have hFd : Off W4 W4.drew X := Off.below (Below.refl _ _).drew
                have hNl : NN ≤ 2000 := by have := HI.out; omega
                have h5i : (0 : Int) ≤ (I : Int) + 1 := by omega
                have hneF : some g ≠ (Value.slice na NN nc).ownBlock := by
                  obtain ⟨sl0, p1, _⟩ := hN
                  intro e
                  have := (p1.lt _ e.symm).1
                  omega
                clear hc1 hc2 hr1 hr2 hgT
                go_wp2_with fail
                go_region_held3 (fun W => W.cell? ⟨g, I, none⟩ = some (.slice a1 L1 c1) ∧ W.cell? ⟨g, I + 1, none⟩ = some (.slice a2 L2 c2)) (go_keep) (first | (go_at_call 34; refine (HC _ (hS2.keep (Below.refl _ _).drew) (hRF1.off hFd) (hRF2.off hFd)).mono ?_; rintro e w5 ⟨v5, rfl, hO5, hS5, hF5⟩; obtain ⟨va, vc, ev⟩ := hO5.form; subst ev; have hF6 : Off W3 w5 X := (hF2.trans hFd).trans hF5; have k1 : w5.cell? ⟨g, I, none⟩ = some (.slice a1 L1 c1) := (KEEP w5 hF6).1; have k2 : w5.cell? ⟨g, I + 1, none⟩ = some (.slice a2 L2 c2) := (KEEP w5 hF6).2; obtain ⟨sls, o1, o2, o3⟩ := (hN.off hX3 (hFd.trans hF5)).off hX3 (Off.below (al_below w5 (.cells #[.slice va ML.length vc] 22))); have hsl : Hid (sls.length = NN) := (by rw [o2]; exact HNN.out); have hz5 := hF6.1) | (refine step_append_one Try.info22 rfl (by decide) rfl (.tmp 56) (.tmp 68) 57 rfl Try.underlying57 W3.heap.size _ sls ⟨va, ML.length, vc⟩ trivial w5.heap.size 1 rfl rfl o1 (sl_cell w5 va ML.length vc) (by rw [hsl.out]; omega) (by simp; omega) ?_; intro a6 c6 w6 hO6 hg6; have k3 := hg6.cell (cell_al _ k1) hneF; have k4 := hg6.cell (cell_al _ k2) hneF))
                have hI6 := (hO5.rdI (X := X) (show X < W4.heap.size by omega)).off (Off.below (al_below w5 (.cells #[.slice va ML.length vc] 22)))
                have hR6 := RR.snoc o1 o2 o3 hg6 hO6 hI6
                have hS6 := (hS5.keep (al_below w5 (.cells #[.slice va ML.length vc] 22))).gs o1 hX3 hg6
                have hF7 : Off W3 w6 X := (hF6.low ((al_below w5 (.cells #[.slice va ML.length vc] 22)).mono hz5)).far hg6 (fun j hj => (o1.lt j hj).1)
                clear k3 k4 KEEP HC
                go_wp2_with fail
                go_roundw
                case rel =>
                  have hrel2 : MInv t w0 W3 X n NL ov ks an Ls s' (.slice a6 (Ns.length + 1) c6) (.int .i64 ((I : Int) + 2)) w6 := ⟨j + 1, Ns ++ [ML], Ms, by rw [← o2]; simpa using hR6, by have := HI.out; go_num, by have := HI.out; omega, by have := HNN.out; simp; omega, hS6, hF7, by have := HI.out; rw [show 2 * (j + 1) = I + 2 by omega]; exact has4, by have e := HI.out; rw [show 2 * (j + 1) = I + 2 by omega]; have h := HP.out; rw [HPT.out] at h; exact h.trans (by simp)⟩
                  first | exact hrel2 | ((repeat apply Exists.intro); exact ⟨hrel2, rfl⟩)
                case measure => simp [intOf]; omega
              · have h4i : ¬ (I : Int) + 1 < (NL : Int) := by omega
                have hI1 : I + 1 = Ls.length := by rw [HNL.out]; omega
                obtain ⟨g, c, e, hBg, hgz, a1, c1, hc1, hr1⟩ := (hR.off hXw hF2).at I hIL
                simp only [Value.slice.injEq] at e
                obtain ⟨e1, -, rfl⟩ := e
                subst e1
                have hpo := pair_one t Ls I hI1 s2
                have HPO : Hid (pairS t (Ls.drop I) s2 = ([Ls[I]], s2)) := hpo
                obtain ⟨LI, hLI⟩ : ∃ LI, Ls[I] = LI := ⟨_, rfl⟩
                rw [hLI] at hc1 hr1 HPO
                obtain ⟨L1, hL1⟩ : ∃ L1, LI.length = L1 := ⟨_, rfl⟩
                rw [hL1] at hc1 hr1
                have hNl : NN ≤ 2000 := by have := HI.out; omega
                obtain ⟨sls, o1, o2, o3⟩ := hN.off hX3 (Off.below (al_below W4 (.cells #[.slice a1 L1 c1] 22)))
                have hsl : Hid (sls.length = NN) := (by rw [o2]; exact HNN.out)
                have hI6 := hr1.off (Off.below (al_below W4 (.cells #[.slice a1 L1 c1] 22)))
                clear hpo hLI hL1 hr1
                go_wp2_with (at_builtin; refine wpList_append_one Try.info22 rfl (by decide) rfl _ _ 57 rfl Try.underlying57 W3.heap.size _ sls ⟨a1, L1, c1⟩ trivial W4.heap.size 1 rfl rfl o1 (sl_cell W4 a1 L1 c1) (by rw [hsl.out]; omega) (by simp; omega) ?_; intro a6 c6 w6 hO6 hg6)
                have hR6 := RR.snoc o1 o2 o3 hg6 hO6 hI6
                have hS6 := (hS2.keep (al_below W4 (.cells #[.slice a1 L1 c1] 22))).gs o1 hX3 hg6
                have hF7 : Off W3 w6 X := (hF2.low ((al_below W4 (.cells #[.slice a1 L1 c1] 22)).mono hz4)).far hg6 (fun j hj => (o1.lt j hj).1)
                have hdr : Ls.drop (I + 2) = [] := List.drop_of_length_le (by omega)
                go_roundw
                case rel => exact ⟨j + 1, Ns ++ [LI], s2, by rw [← o2]; simpa using hR6, by have := HI.out; go_num, by have := HI.out; omega, by have := HNN.out; simp; omega, hS6, hF7, by have := HI.out; rw [show 2 * (j + 1) = I + 2 by omega, hdr]; simp [tot]; omega, by have e := HI.out; rw [show 2 * (j + 1) = I + 2 by omega, hdr]; have h := HP.out; rw [HPO.out] at h; exact h.trans (by simp [pairS])⟩
                case measure => simp [intOf]; omega
            · have h3i : ¬ (I : Int) < (NL : Int) := by omega
              have hdr : Ls.drop I = [] := List.drop_of_length_le (by rw [HNL.out]; omega)
              rw [hdr] at HP
              have HP2 : pairS t Ls s' = (Ns, s2) := by rw [HP.out]; simp [pairS]
              rw [HP2] at HMM HPL
              have hNs : NN < NL := by have := HPL.out; have := HNN.out; simp only at *; omega
              have HMM2 : Hid (∃ q', MrgI t n q' Ns s2) := HMM
              clear HP2 HP HMM HPL hdr
              go_wp2_with fail
              go_roundw
              case rel => exact ⟨Ns, s2, hN.mono hz3, hS2, hF4, by have := HNN.out; omega, HMM2⟩
              case measure => simp [slM]; omega
        · have hfin : (sortS t n).2 = s' ∧ (s'.k = false → (sortS t n).1 = Ls) := by
            obtain ⟨q, hM⟩ := HM.out
            exact hM.fin (fun h => by
              rw [HNL.out]
              rcases Nat.lt_or_ge 1 NL with h3 | h3
              · exact absurd ⟨h3, h⟩ hend
              · exact h3)
          have Hfin : Hid _ := hfin
          clear hfin
          have hcase : (¬ 1 < NL) ∨ (1 < NL ∧ s'.k = true) := by
            by_cases h : 1 < NL
            · right; refine ⟨h, ?_⟩
              cases h8 : s'.k
              · exact absurd ⟨h, h8⟩ hend
              · rfl
            · exact .inl h
          rcases hcase with h1 | ⟨h1, h2⟩
          · have h1i : ¬ (1 : Int) < (NL : Int) := by omega
            go_wp2_with fail
            go_meet
            case rel => exact ⟨Ls, s', hR, hS, hF, Hfin⟩
          · have h1i : (1 : Int) < (NL : Int) := by omega
            rw [h2] at hst
            go_wp2_with fail
            go_meet
            case rel => exact ⟨Ls, s', hR, hS, hF, Hfin⟩
    case rest =>
      clear hR hS hF hLn HM
      obtain ⟨Ls, s', hR, hS, hF, HF⟩ := hcut
      generalize wc = W3 at *
      cases Ls with
      | nil =>
        obtain ⟨ra, rc, rfl⟩ := hR.form
        have bE : Below W3.heap.size W3 (W3.alloc (.cells #[] 2)) := (Below.refl _ W3).alloc (Nat.le_refl _) _
        have hret : AllP t w0 w X n ov ks an (.returned (.slice (some ⟨W3.heap.size, 0, none⟩) 0 0)) (W3.alloc (.cells #[] 2)) := ⟨_, [], rfl, (Own.empty W3).rd, by rw [HF.out.1]; exact hS.keep bE, hF.low (bE.mono hF.1), fun h => by rw [HF.out.2 (by rw [← HF.out.1]; exact h)]; rfl⟩
        simp only [List.length_nil]
        go_wp2_with fail
        go_ret
        exact hret
      | cons l r =>
        obtain ⟨g, c, e, hBg, hgz, a, c', hcell, hrd⟩ := hR.at 0 (by simp)
        subst e
        simp only [List.getElem_cons_zero] at hcell hrd
        have hret : AllP t w0 w X n ov ks an (.returned (.slice a l.length c')) W3 := ⟨_, l, rfl, hrd.1, by rw [HF.out.1]; exact hS, hF, fun h => by rw [HF.out.2 (by rw [← HF.out.1]; exact h)]; rfl⟩
        obtain ⟨NL, hNL⟩ : ∃ NL, (l :: r).length = NL + 1 := ⟨r.length, rfl⟩
        obtain ⟨LL, hLL⟩ : ∃ LL, l.length = LL := ⟨_, rfl⟩
        rw [hLL] at hcell hret
        rw [hNL]
        have hne : ((NL : Int) + 1 == 0) = false := by rw [beq_eq_false_iff_ne]; omega
        have hlt : (0 : Int) < (NL : Int) + 1 := by omega
        clear hLL hNL hR hrd
        go_wp2_with fail
        go_ret
        exact hret
end Go.Proofs.Ytlnekedehalbdaa
