import Derived.Test.YtlnekedehalbdaaPsW
namespace Go.Proofs.Ytlnekedehalbdaa
open Go.RowKit
set_option linter.unusedVariables false
set_option linter.unusedSimpArgs false

theorem fillS_rest (t : Tl) : ∀ (r run : List Int) (s : St) (z : Int), z ∈ (fillS t run r s).2.1 → z ∈ r
  | [], run, s, z, h => h
  | x :: r, run, s, z, h => by
    simp only [fillS] at h
    split at h
    · exact List.mem_cons_of_mem _ (fillS_rest t r _ _ z h)
    · exact h
theorem oneS_rest (t : Tl) (l : List Int) (s : St) (z : Int) (h : z ∈ (oneS t l s).2.1) : z ∈ l := List.mem_of_mem_drop (fillS_rest t _ _ _ z h)
theorem RO.mono {E : Nat → Prop} {B B' : Nat} {w : World} {v : Value} {Ls : List (List Int)} (h : RO E w B v Ls) (hB : B' ≤ B) : RO E w B' v Ls := by
  obtain ⟨sls, h1, h2, h3⟩ := h
  exact ⟨sls, h1.mono hB, h2, h3⟩
theorem runsS_mem (t : Tl) : ∀ (f : Nat) (l : List Int) (s : St), ∀ q ∈ (runsS t f l s).1, ∀ y ∈ q, y ∈ l
  | 0, l, s, q, hq, _, _ => by simp [runsS] at hq
  | f + 1, l, s, q, hq, y, hy => by
    simp only [runsS] at hq
    split at hq
    · simp at hq
    · rcases List.mem_cons.mp hq with rfl | hq
      · exact oneS_mem t l s y hy
      · exact oneS_rest t l s y (runsS_mem t f _ _ q hq y hy)
theorem nums_in {n : Nat} {y : Int} (h : y ∈ nums n) : 0 ≤ y ∧ y < (n : Int) := by
  rw [← seg_nums] at h
  have := seg_mem h
  omega
/-- In the rounds of merging, of the program. -/
def MrgP (t : Tl) (n q : Nat) (Ls : List (List Int)) (s' : St) : Prop := sortS t n = allS t Ls.length Ls s' ∧ (∀ l ∈ Ls, ∀ y ∈ l, 0 ≤ y ∧ y < (n : Int)) ∧ tot Ls = n ∧ s'.h.length + q * n ≤ 17 * n ∧ Ls.length ≤ 2 ^ q
theorem MrgP.start (t : Tl) (n : Nat) (hn : n ≤ 2000) : MrgP t n 11 (runsS t n (nums n) ⟨[], false⟩).1 (runsS t n (nums n) ⟨[], false⟩).2 := by
  have h1 := runsS_asks t n (nums n) ⟨[], false⟩
  have h2 := runsS_count t n (nums n) ⟨[], false⟩
  have h3 := runsS_tot t n (nums n) ⟨[], false⟩ (by simp [nums])
  have hl : (nums n).length = n := by simp [nums]
  have h5 : (2 : Nat) ^ 11 = 2048 := by decide
  rw [hl] at h1 h2 h3
  simp only [List.length_nil] at h1
  exact ⟨rfl, fun l hl y hy => nums_in (runsS_mem t n (nums n) _ l hl y hy), h3, by omega, by omega⟩
theorem MrgP.step {t : Tl} {n q : Nat} {Ls : List (List Int)} {s' : St} (h : MrgP t n q Ls s') (hl : 1 < Ls.length) : ∃ q', MrgP t n q' (pairS t Ls s').1 (pairS t Ls s').2 := by
  obtain ⟨e, hr, ht, ha, hq⟩ := h
  have hpl := pairS_len t Ls s'
  obtain ⟨f, hf⟩ : ∃ f, Ls.length = f + 1 := ⟨Ls.length - 1, by omega⟩
  rw [hf] at e
  simp only [allS] at e
  rw [if_neg (by omega)] at e
  cases q with
  | zero => simp at hq; omega
  | succ q =>
    refine ⟨q, ?_, pairS_in t Ls s' hr, by rw [pairS_tot]; exact ht, ?_, ?_⟩
    · rw [e]; exact allS_fuel t _ _ _ _ (by omega) (by omega)
    · have := pairS_asks t Ls s'
      rw [ht] at this
      rw [Nat.add_mul] at ha
      omega
    · rw [Nat.pow_succ] at hq; omega
theorem MrgP.fin {t : Tl} {n q : Nat} {Ls : List (List Int)} {s' : St} (h : MrgP t n q Ls s') (hl : Ls.length ≤ 1) : sortS t n = (Ls, s') := by
  obtain ⟨e, _⟩ := h
  rw [e]
  cases hL : Ls.length with
  | zero => rfl
  | succ m => simp only [allS]; rw [if_pos (by omega)]
/-- What sortedBy answers. -/
def SbP (t : Tl) (S : World → St → Prop) (w : World) (N : Nat) (e : Ending) (w' : World) : Prop := ∃ v, e = .returned (.tuple #[v, .bool (!(sortS t N).2.k)]) ∧ Own w' w.heap.size v (if (sortS t N).2.k then [] else (sortS t N).1.headD []) ∧ S w' (sortS t N).2
set_option maxRecDepth 100000 in
set_option maxHeartbeats 1000000 in
theorem sorted_any (t : Tl) (Z : Nat) (E : Nat → Prop) (S : World → St → Prop) (w : World) (B g N c fn : Nat) (cs : Array Value) (T : Tlr t N Z w.heap.size E S) (hS : S (w.alloc (.cells #[.func (.func fn) #[] cs, .bool false] 62)) ⟨[], false⟩)
    (hO : Own w B (.slice (some ⟨g, 0, none⟩) N c) (nums N)) (hN : N ≤ 2000) (hNc : N ≤ c) (hZB : Z ≤ B) (hgE : ¬ E g) :
    Calls Try.prog 24 #[.slice (some ⟨g, 0, none⟩) N c, .func (.func fn) #[] cs] w fun e w' => SbP t S w N e w' := by
  have bY := al_below w (.cells #[.func (.func fn) #[] cs, .bool false] 62)
  have hO1 := hO.keep bY
  have hz1 : w.heap.size ≤ (w.alloc (.cells #[.func (.func fn) #[] cs, .bool false] 62)).heap.size := bY.size
  have HC := runsOf_any t N Z w.heap.size E S T _ B g N c (nums N) ⟨[], false⟩ hN hS hO1 hN hNc hZB hgE (fun y hy => nums_in hy) (by simp; omega)
  have hM0 : Hid (∃ q, MrgP t N q (runsS t N (nums N) ⟨[], false⟩).1 (runsS t N (nums N) ⟨[], false⟩).2) := ⟨11, MrgP.start t N hN⟩
  have hEw := T.lt _ _ hS
  have hZw := T.bel _ _ hS
  have hL0 := runsS_count t N (nums N) ⟨[], false⟩
  rw [show (nums N).length = N by simp [nums]] at hL0
  generalize hR1 : runsS t N (nums N) ⟨[], false⟩ = R1 at *
  obtain ⟨Ls0, s0⟩ := R1
  simp only at hM0 hL0
  have hL0 : Ls0.length ≤ 2000 := by omega
  generalize hZZ : sortS t N = ZZ
  have HZZ : Hid (sortS t N = ZZ) := hZZ
  have HP : ∀ e w', SbP t S w N e w' ↔ ∃ v, e = .returned (.tuple #[v, .bool (!ZZ.2.k)]) ∧ Own w' w.heap.size v (if ZZ.2.k then [] else ZZ.1.headD []) ∧ S w' ZZ.2 := fun e w' => by unfold SbP; rw [hZZ]
  have HPH : Hid (∀ e w', SbP t S w N e w' ↔ ∃ v, e = .returned (.tuple #[v, .bool (!ZZ.2.k)]) ∧ Own w' w.heap.size v (if ZZ.2.k then [] else ZZ.1.headD []) ∧ S w' ZZ.2) := HP
  clear hZZ HP hR1 hS hO1
  go_enter Try.func24, Try.ntmps24
  go_wp2_with fail
  refine HC.mono ?_
  rintro e w2 ⟨v2, rfl, hR2, hS2, hF2⟩
  clear HC
  generalize w.alloc (.cells #[.func (.func fn) #[] cs, .bool false] 62) = W0 at *
  have hEW : ∀ q, E q → q < W0.heap.size := hEw
  have hB2 : W0.heap.size ≤ w2.heap.size := hF2.1
  go_wp2_with fail
  go_loopw [7] (fun vr wr => ∃ (Ls : List (List Int)) (s' : St), RO E wr W0.heap.size vr Ls ∧ S wr s' ∧ W0.heap.size ≤ wr.heap.size ∧ Ls.length ≤ 2000 ∧ Hid (∃ q, MrgP t N q Ls s')) (fun vr _ => slM vr)
  case atStart => exact ⟨Ls0, s0, hR2, hS2, hB2, hL0, hM0⟩
  case round =>
    obtain ⟨Ls, s', hR, hS3, hz3, hNLn, HM⟩ := hrel
    clear hR2 hS2 hB2 hM0 hF2
    generalize wr = W3 at *
    obtain ⟨ra, rc, rfl⟩ := hR.form
    obtain ⟨NL, hNL⟩ : ∃ NL, Ls.length = NL := ⟨_, rfl⟩
    have HNL : Hid (Ls.length = NL) := hNL
    rw [hNL] at hNLn hR ⊢
    have hst := T.k W3 s' hS3
    have hry := hR.ry hEW
    by_cases h1 : 1 < NL
    · have h1i : (1 : Int) < (NL : Int) := by omega
      have hfacts : (∀ l ∈ Ls, ∀ y ∈ l, 0 ≤ y ∧ y < (N : Int)) ∧ tot Ls = N ∧ s'.h.length ≤ 17 * N := by
        obtain ⟨q, _, hr, ht, ha, _⟩ := HM.out
        exact ⟨hr, ht, by omega⟩
      have HM2 : Hid (∃ q', MrgP t N q' (pairS t Ls s').1 (pairS t Ls s').2) := by obtain ⟨q, hM⟩ := HM.out; exact hM.step (by rw [hNL]; exact h1)
      have hpl := pairS_len t Ls s'
      have HC := pairs_any t N Z w.heap.size E S T W3 (.slice ra NL rc) Ls s' hN hS3 hry hfacts.1 (by rw [hfacts.2.1]; omega) (by omega)
      generalize pairS t Ls s' = PP at *
      obtain ⟨Ns, s4⟩ := PP
      simp only at hpl HM2
      rw [hNL] at hpl
      have HPL : Hid (Ns.length = (NL + 1) / 2) := hpl
      clear hpl hNL hst
      go_wp2_with fail
      refine HC.mono ?_
      rintro e w5 ⟨v5, rfl, hR5, hS5, hF5⟩
      obtain ⟨na, nc, rfl⟩ := hR5.form
      clear HC
      go_wp2_with fail
      go_roundw
      case rel => exact ⟨Ns, s4, hR5.mono hz3, hS5, Nat.le_trans hz3 hF5.1, by have := HPL.out; omega, HM2⟩
      case measure => have := HPL.out; simp [slM]; omega
    · have h1i : ¬ (1 : Int) < (NL : Int) := by omega
      have hfin : ZZ = (Ls, s') := by
        obtain ⟨q, hM⟩ := HM.out
        rw [← HZZ.out]
        exact hM.fin (by rw [hNL]; omega)
      have htt : tot Ls = N := by obtain ⟨q, _, _, ht, _, _⟩ := HM.out; exact ht
      have HPK := HPH.out
      rw [hfin] at HPK
      have hflat : Ls.flatten = Ls.headD [] := by
        have h3 : Ls.length ≤ 1 := by rw [hNL]; omega
        match Ls, h3 with
        | [], _ => rfl
        | [x], _ => simp
        | _ :: _ :: _, h3 => simp at h3
      have HFL : Hid (Ls.flatten = Ls.headD []) := hflat
      have HPG : Hid (∀ e w', SbP t S w N e w' ↔ ∃ v, e = .returned (.tuple #[v, .bool (!s'.k)]) ∧ Own w' w.heap.size v (if s'.k then [] else Ls.headD []) ∧ S w' s') := HPK
      clear hfin HPK HM HZZ HPH hflat
      cases hk : s'.k
      · rw [hk] at hst HPG
        have HC := concat_any E W3 (.slice ra NL rc) Ls hry (by omega) (by rw [hNL]; exact hNLn)
        clear hNL
        go_wp2_with fail
        refine HC.mono ?_
        rintro e w5 ⟨u5, rfl, hO5, hB5⟩
        rw [HFL.out] at hO5
        have hret : SbP t S w N (.returned (.tuple #[u5, .bool true])) w5 := (HPG.out _ _).mpr ⟨u5, rfl, hO5.mono (by omega), T.al hS3 hB5⟩
        clear HC
        go_wp2_with fail
        exact bodyPost_ret (v := .tuple #[u5, .bool true]) (by simp [results, Try.results24, go_sem]) rfl hret
      · rw [hk] at hst HPG
        have hret : SbP t S w N (.returned (.tuple #[.slice (some ⟨W3.heap.size, 0, none⟩) 0 0, .bool false])) (W3.alloc (.cells #[] 2)) := (HPG.out _ _).mpr ⟨_, rfl, (Own.empty W3).mono (by omega), T.al hS3 (al_below W3 _)⟩
        clear hNL
        go_wp2_with fail
        exact bodyPost_ret (v := .tuple #[.slice (some ⟨W3.heap.size, 0, none⟩) 0 0, .bool false]) (by simp [results, Try.results24, go_sem]) rfl hret
end Go.Proofs.Ytlnekedehalbdaa
