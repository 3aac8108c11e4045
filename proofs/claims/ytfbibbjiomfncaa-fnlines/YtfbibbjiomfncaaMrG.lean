import Derived.Test.YtfbibbjiomfncaaMrJ
namespace Go.Proofs.Ytfbibbjiomfncaa
open Go.RowKit Go.Maps
set_option linter.unusedVariables false
set_option linter.unusedSimpArgs false

theorem tcnt_cons (l : List Int) (r : List (List Int)) (y : Int) : tcnt (l :: r) y = (l.tail.count y : Nat) + tcnt r y := by unfold tcnt; simp
theorem tcnt_full : ∀ (Ls : List (List Int)) (y : Int), tcnt (full Ls) y = tcnt Ls y
  | [], y => rfl
  | [] :: r, y => by rw [full_cons_nil, tcnt_full r, tcnt_cons]; simp
  | (x :: t) :: r, y => by rw [full_cons, tcnt_cons, tcnt_cons, tcnt_full r]
theorem tcnt_zero (x : Int) : ∀ Ls : List (List Int), tcnt Ls x = 0 ↔ GoodH Ls x
  | [] => by simp [tcnt, GoodH]
  | l :: r => by
    rw [tcnt_cons]
    have h1 := tcnt_zero x r
    have h0 : 0 ≤ tcnt r x := by unfold tcnt; omega
    unfold GoodH at *
    simp only [List.mem_cons, forall_eq_or_imp]
    rw [← h1, ← List.count_eq_zero]
    omega
theorem count_head (t : List Int) (y : Int) : (t.count y : Int) = (t.tail.count y : Nat) + if t.head? = some y then 1 else 0 := by
  cases t with
  | nil => simp
  | cons a r =>
    rw [List.count_cons]
    simp only [List.tail_cons, List.head?_cons, Option.some.injEq, beq_iff_eq]
    split <;> simp
/-- The head of a row is dropped. -/
theorem tcnt_set (x : Int) (t : List Int) (y : Int) : ∀ (Rs : List (List Int)) (i : Nat) (hi : i < Rs.length), Rs[i] = x :: t → tcnt (Rs.set i t) y = tcnt Rs y - if t.head? = some y then 1 else 0
  | l :: r, 0, _, h => by
    simp only [List.getElem_cons_zero] at h
    subst h
    rw [List.set_cons_zero, tcnt_cons, tcnt_cons, List.tail_cons, count_head t y]
    omega
  | l :: r, i + 1, hi, h => by
    simp only [List.getElem_cons_succ] at h
    rw [List.set_cons_succ, tcnt_cons, tcnt_cons, tcnt_set x t y r i (by simpa using hi) h]
    omega
theorem pick_none {Ls : List (List Int)} : ∀ {Rs : List (List Int)}, (∀ l ∈ Rs, ∀ x, l.head? = some x → tcnt Ls x ≠ 0) → pickL Ls Rs = none
  | [], _ => rfl
  | [] :: r, h => by simp only [pickL]; exact pick_none (fun l hl => h l (List.mem_cons_of_mem _ hl))
  | (x :: t) :: r, h => by
    have hx := h (x :: t) (List.mem_cons_self ..) x rfl
    simp only [pickL]
    rw [if_neg (fun hg => hx ((tcnt_zero x Ls).mpr hg))]
    exact pick_none (fun l hl => h l (List.mem_cons_of_mem _ hl))
theorem pick_at {Ls : List (List Int)} {i : Nat} {x : Int} {t : List Int} (hi : i < Ls.length) (he : Ls[i] = x :: t) (h0 : tcnt Ls x = 0) (hA : ∀ l ∈ Ls.take i, ∀ x, l.head? = some x → tcnt Ls x ≠ 0) : pickL Ls Ls = some x := by
  have h1 := pick_take Ls Ls i hi
  rw [pick_none hA, he] at h1
  apply pick_early (k := i + 1)
  rw [h1]
  simp [pickL, (tcnt_zero x Ls).mp h0]

theorem MC.but {w w' : World} {M n : Nat} {f : Int → Int} {row : Option Nat} (h : MC w M n f) (hg : w.grownBy w' row) (hne : some M ≠ row) : MC w' M n f := by
  obtain ⟨D, h1, h2⟩ := h
  exact ⟨D, h1.kept hg hne, h2⟩
theorem BoxM.but {w w' : World} {X M : Nat} {row : Option Nat} (h : BoxM w X M) (hg : w.grownBy w' row) (hne : some X ≠ row) : BoxM w' X M :=
  ⟨Nat.lt_of_lt_of_le h.1 hg.size, (World.cell?_of_block (a := ⟨X, 0, none⟩) (hg.block X h.1 hne)).trans h.2⟩
/-- What the merge has in memory: the rows that are left, the counts, the box of the counts. -/
structure MW (w : World) (N g X M cap n : Nat) (Rs : List (List Int)) : Prop where
  ll : LL (fun b => b < N) w N g Rs.length cap Rs
  mc : MC w M n (tcnt Rs)
  bx : BoxM w X M
theorem MW.far {a b : World} {N N1 g X M cap n : Nat} {row : Option Nat} {Rs : List (List Int)} (h : MW a N g X M cap n Rs) (k : a.grownBy b row) (hr : ∀ j, row = some j → N1 ≤ j) (hN : N ≤ N1) (hg : g < N1) (hX : X < N1) (hM : M < N1) : MW b N g X M cap n Rs :=
  ⟨h.ll.far k hr hg (fun b hb => by omega), h.mc.but k (fun e => by have := hr M e.symm; omega), h.bx.but k (fun e => by have := hr X e.symm; omega)⟩

theorem cell_set_same {w : World} {g j : Nat} {u v : Value} (h : w.cell? ⟨g, j, none⟩ = some u) : (w.setCell ⟨g, j, none⟩ v).cell? ⟨g, j, none⟩ = some v := by
  have := World.cell?_setCells_in g [v] j w (fun k hk => by simp at hk; subst hk; rw [Nat.add_zero, h]; rfl) 0 (by simp)
  simpa [World.setCells] using this
theorem mix_mem {x : Int} {F : List (List Int)} {j : Nat} {l : List Int} (h : l ∈ mixL x F j) : ∃ l' ∈ F, l.length ≤ l'.length := by
  unfold mixL at h
  rcases List.mem_append.mp h with h | h
  · obtain ⟨l', h1, rfl⟩ := List.mem_map.mp h
    exact ⟨l', List.mem_of_mem_take h1, dropH_len x l'⟩
  · exact ⟨l, List.mem_of_mem_drop h, Nat.le_refl _⟩

set_option maxRecDepth 100000 in
set_option maxHeartbeats 2000000 in
theorem merged_any (v : Value) (Ls : List (List Int)) (K : Nat) (w : World) (hr : RL w v Ls) (h0 : 0 < Ls.length) (hl : Ls.length ≤ 300) (hll : ∀ l ∈ Ls, l.length ≤ 300) (hb : ∀ l ∈ Ls, ∀ y ∈ l, 0 ≤ y ∧ y < (K : Int)) (hK : K ≤ 300) :
    Calls Try.prog 74 #[v] w fun e w' => ∃ a m c, e = .returned (.tuple #[.slice a m c, .bool (merge Ls).isSome]) ∧ (∀ xs, merge Ls = some xs → Own w' w.heap.size (.slice a m c) xs) ∧ Below w.heap.size w w' := by
  have hT0 : Tk K [] Ls := Tk.start hb
  have ha0 := ans_nil Ls
  generalize hM : merge Ls = MM at *
  have HM : Hid (ans [] Ls = MM) := ha0
  clear hM ha0 hb
  go_enter Try.func74, Try.ntmps74
  go_wp2_with fail
  refine (cloneL_any v Ls w hr h0).mono ?_
  rintro e w1 ⟨g, cap, rfl, hL1, hB1⟩
  have hr1 := hr.keep hB1
  go_wp2_with fail
  refine (tailCounts_any v Ls _ hr1 hl hll).mono ?_
  rintro e w2 ⟨n0, rfl, hM2, hn2, hB2⟩
  have hgN := hL1.size
  have hw12 := hB1.size
  obtain ⟨M, hMw⟩ : ∃ M, w1.heap.size = M := ⟨_, rfl⟩
  rw [hMw] at hM2 hB2 hgN hw12 ⊢
  have hMl : M < w2.heap.size := by
    obtain ⟨D, h1, h2⟩ := hM2
    exact h1.lt
  obtain ⟨N, hNw⟩ : ∃ N, w.heap.size = N := ⟨_, rfl⟩
  have HNw : Hid (w.heap.size = N) := hNw
  rw [hNw] at hL1 hB1 hgN hw12
  have HMw : Hid (w1.heap.size = M) := hMw
  clear hNw hMw
  have hB02 : Below N w w2 := hB1.trans (hB2.mono hw12)
  obtain ⟨X, hX⟩ : ∃ X, w2.heap.size = X := ⟨_, rfl⟩
  have HX : Hid (w2.heap.size = X) := hX
  go_wp2_with fail
  go_loopw [4, 6] (fun r o wr => ∃ (Rs : List (List Int)) (acc : List Int) (n : Nat), r = .slice (some ⟨g, 0, none⟩) Rs.length cap ∧ Own wr (X + 1) o acc ∧ MW wr N g X M cap n Rs ∧ Hid (n ≤ 90000 + 300 * acc.length) ∧ Tk K acc Rs ∧ Hid (ans acc Rs = MM) ∧ Rs.length ≤ 300 ∧ Hid (∀ l ∈ Rs, l.length ≤ 300) ∧ Below N w wr ∧ X + 1 ≤ wr.heap.size) (fun _ o _ => K + 1 - slL o)
  case atStart =>
    have bA : Below w2.heap.size w2 ((w2.alloc (.cells #[.map (some M)] 101)).alloc (.cells #[] 2)) := ((Below.refl _ w2).alloc (Nat.le_refl _) _).alloc (by simp) _
    have oE := Own.empty (w2.alloc (.cells #[.map (some M)] 101))
    have hsz : (w2.alloc (.cells #[.map (some M)] 101)).heap.size = X + 1 := by simp [hX]
    rw [hsz] at oE
    have hL2 := hL1.same (hB2.block g hgN.2) (fun b hb hp => hB2.block b (by have := HMw.out; omega)) (by have := HMw.out; omega)
    refine ⟨Ls, [], n0, rfl, oE, ⟨hL2.same (bA.block g (by omega)) (fun b hb _ => bA.block b hb) bA.size, hM2.keep bA, ⟨by simp [hX]; omega, ?_⟩⟩, (show n0 ≤ _ by omega), hT0, HM, hl, hll, hB02.trans (bA.mono (by omega)), by simp [hX]⟩
    rw [World.cell?_alloc_past (w := w2.alloc (.cells #[.map (some M)] 101)) _ X 0 (by rw [hsz]; omega), World.cell?_alloc_at (w := w2) _ _ X 0 hX.symm]
    rfl
  case round =>
    obtain ⟨Rs, acc, n, rfl, hO, hMW, HN, hT, HA, hRl, HRl, hB, hXs⟩ := hrel
    generalize wr = W1 at *
    have hPg : ¬ g < N := by omega
    go_wp2_with fail
    refine (deleteL_any (fun b => b < N) N g cap Rs _ hPg hMW.ll).mono ?_
    rintro e w3 ⟨rfl, hL3, hg3⟩
    have hF : MW w3 N g X M cap n (full Rs) := ⟨hL3, (hMW.mc.but hg3 (by simp; omega)).congr (fun y => (tcnt_full Rs y).symm), hMW.bx.but hg3 (by simp; omega)⟩
    have hO3 := hO.but hg3 (.inr (fun e => by have := (hO.lt g e).1; omega))
    have hB3 : Below N w w3 := hB.trans (gb_to hg3 (fun k hk => by cases hk; omega) (by omega))
    have hNoE : NoE (full Rs) := fun l hl => (mem_full.mp hl).2
    have hTF := hT.full
    have HAF : Hid (ans acc (full Rs) = MM) := by rw [Hid, ans_full]; exact HA.out
    have hFl : (full Rs).length ≤ 300 := Nat.le_trans (List.length_filter_le ..) hRl
    have HFl : Hid (∀ l ∈ full Rs, l.length ≤ 300) := fun l hl => HRl.out l (mem_full.mp hl).1
    have hz3 := hg3.size
    generalize full Rs = F at *
    clear hMW hO hL3 hB hg3 hT HA HRl hRl
    have hRL : RL w3 (.slice (some ⟨g, 0, none⟩) F.length cap) F := by
      obtain ⟨sls, h1, h2, h3⟩ := hF.ll
      exact ⟨sls, h1.rd, h2, fun k h h' => (h3 k h h').1⟩
    go_wp2_with fail
    refine (indexG_any _ cap X M n (tcnt F) F _ hRL hNoE hF.bx hF.mc).mono ?_
    rintro e w4 ⟨h4, hB4⟩
    have hF4 : MW w4 N g X M cap n F := hF.far (gb_below none hB4) (fun j hj => by cases hj) (N1 := X + 1) (by omega) (by omega) (by omega) (by omega)
    have hO4 := hO3.keep hB4
    have hB4' := hB3.trans (hB4.mono (by omega))
    have hz4 := hB4.size
    clear hF hO3 hB3 hRL
    rcases h4 with ⟨rfl, hA⟩ | ⟨i, hi, rfl, hhd, hA⟩
    · have hpk : pickL F F = none := pick_none hA
      obtain ⟨oa, oc, eo⟩ := hO4.form
      subst eo
      clear hA
      by_cases hF0 : F = []
      · subst hF0
        have hMM : MM = some acc := by rw [← HAF.out, ans_end (by intro l hl; cases hl)]
        subst hMM
        go_wp2
        exact bodyPost_ret (v := .tuple #[.slice oa acc.length oc, .bool true]) (by simp [results, Try.results74, go_sem]) rfl ⟨_, _, _, rfl, (fun xs h => by cases h; rw [HNw.out]; exact hO4.mono (by omega)), by rw [HNw.out]; exact hB4'⟩
      · have hMM : MM = none := by
          rw [← HAF.out, ans_none ?_ hpk]
          intro hE
          obtain ⟨l, r, e⟩ := List.exists_cons_of_ne_nil hF0
          exact hNoE l (by rw [e]; exact List.mem_cons_self ..) (hE l (by rw [e]; exact List.mem_cons_self ..))
        subst hMM
        have hb0 : ((F.length : Int) == 0) = false := beq_len0 (fun h => hF0 (List.length_eq_zero_iff.mp h))
        go_wp2
        exact bodyPost_ret (v := .tuple #[.slice oa acc.length oc, .bool false]) (by simp [results, Try.results74, go_sem]) rfl ⟨_, _, _, rfl, (fun xs h => by cases h), by rw [HNw.out]; exact hB4'⟩
    · obtain ⟨x, t, he⟩ : ∃ x t, F[i] = x :: t := List.exists_cons_of_ne_nil (hNoE F[i] (List.getElem_mem hi))
      have hx0 : tcnt F x = 0 := hhd x (by rw [he]; rfl)
      have hpA : pickL F F = some x := pick_at hi he hx0 hA
      have hT' := hTF.step hpA
      have hl' := hT'.len
      have HA' : Hid (ans (acc ++ [x]) (F.map (dropH x)) = MM) := by have := HAF.out; rw [ans_step hpA] at this; exact this
      have hxk := hTF.bl _ (List.getElem_mem hi) x (by rw [he]; exact List.mem_cons_self ..)
      have hxR : -9223372036854775808 ≤ x ∧ x < 9223372036854775808 := by omega
      obtain ⟨ia, ic, dc, hRd⟩ := hF4.ll.at i hi
      rw [he] at dc hRd
      obtain ⟨b, off, rfl, hbz, dx⟩ : ∃ b off, ia = some ⟨b, off, none⟩ ∧ b < w4.heap.size ∧ w4.cell? ⟨b, off, none⟩ = some (.int .i64 x) := by
        obtain ⟨⟨a', c', e, _, _, _, hc⟩, _⟩ := hRd
        simp only [Value.slice.injEq] at e
        obtain ⟨rfl, -, rfl⟩ := e
        obtain ⟨b, off, e, hb, hcs⟩ := hc (by simp)
        have := hcs 0 (by simp)
        simp at this
        exact ⟨b, off, e, hb, this⟩
      have hTm := hRd.1.max
      obtain ⟨TN, hTN⟩ : ∃ TN, (x :: t).length = TN + 1 := ⟨t.length, rfl⟩
      rw [hTN] at dc hTm
      have hg4 : (0 : Int) < (TN : Int) + 1 := by omega
      have hii : (i : Int) < (F.length : Int) := by omega
      have hin : ¬ (i : Int) < 0 := by omega
      obtain ⟨oa, oc, eo⟩ := hO4.form
      subst eo
      have hOq := hO4.alloc (.cells #[.int .i64 x] 2)
      have bL : Below w4.heap.size w4 (w4.alloc (.cells #[.int .i64 x] 2)) := (Below.refl _ w4).alloc (Nat.le_refl _) _
      obtain ⟨AN, hAN⟩ : ∃ AN, acc.length = AN := ⟨_, rfl⟩
      have HAN : Hid (acc.length = AN) := hAN
      simp only [List.length_append, List.length_singleton] at hl'
      rw [hAN] at hOq hl' ⊢
      obtain ⟨FN, hFN⟩ : ∃ FN, F.length = FN := ⟨_, rfl⟩
      have HFN : Hid (F.length = FN) := hFN
      rw [hFN] at hii hFl ⊢
      clear hAN hRd hTN hA hhd hx0 hFN
      go_wp2_with (at_builtin; refine wpList_append_gb rfl _ _ 51 rfl Try.underlying51 (X + 1) _ _ acc [x] (AN + 1) (by simp [HAN.out]) rfl rfl hOq (Rd.one w4 w4.heap.size rfl 2 hxR.1 hxR.2) (by simp) (by omega) (by simp; omega) ?_; intro a5 c5 w5 hO5 hg5)
      have hg5' : World.grownBy _ w5 (Value.slice oa AN oc).ownBlock := hg5
      have hrow : ∀ j, (Value.slice oa AN oc).ownBlock = some j → X + 1 ≤ j := fun j hj => (hOq.lt j hj).1
      have hF5 : MW w5 N g X M cap n F := (hF4.far (gb_below none bL) (fun j hj => by cases hj) (N1 := X + 1) (by omega) (by omega) (by omega) (by omega)).far hg5' hrow (by omega) (by omega) (by omega) (by omega)
      have hB5 : Below N w w5 := (hB4'.trans (bL.mono (by omega))).trans (gb_to hg5' (fun k hk => by have := hrow k hk; omega) (by simp; omega))
      have hz5 : X + 1 ≤ w5.heap.size := by have := hg5'.size; simp at this; omega
      have hM0 : mixL x F 0 = F := by simp [mixL]
      clear hg5 hg5' hOq bL hF4 hO4 hB4' hrow dc dx hbz hB4 hz4 hz3
      go_loopw [39] (fun i wq => ∃ (j n' : Nat), j ≤ FN ∧ i = .int .i64 j ∧ MW wq N g X M cap n' (mixL x F j) ∧ Hid (n' ≤ n + j) ∧ Own wq (X + 1) (.slice a5 (AN + 1) c5) (acc ++ [x]) ∧ Below N w wq ∧ X + 1 ≤ wq.heap.size) (fun i _ => FN - (intOf i).toNat)
      case atStart => exact ⟨0, n, Nat.zero_le _, rfl, by rw [hM0]; exact hF5, Nat.le_refl _, hO5, hB5, hz5⟩
      case round =>
        obtain ⟨j, n', hj, rfl, hF6, HN6, hO6, hB6, hz6⟩ := hrel
        clear hF5 hO5 hB5 hz5 hM0
        generalize wr = w6 at *
        by_cases hjn : j < FN
        · have hjni : (j : Int) < (FN : Int) := by omega
          have hjR : j < F.length := by rw [HFN.out]; exact hjn
          have hjm : j < (mixL x F j).length := by rw [mix_len]; exact hjR
          have hL6 := hF6.ll
          obtain ⟨ja, jc, hcell, hrd⟩ := hL6.at j hjm
          have hfz := hL6.frozen j
          have hma := mix_at x F j hjR hjm
          have hms := mix_succ x F j hjR
          have hmm := mix_same x F j hjR
          have hput := fun a m c l h => hL6.put hPg j hjm a m c l h
          have htc := fun y => tcnt_le (mixL x F j) y (fun l hl => by obtain ⟨l', h1, h2⟩ := mix_mem hl; exact Nat.le_trans h2 (HFl.out l' h1))
          rw [mix_len, HFN.out] at htc
          obtain ⟨y, t', hRj⟩ : ∃ y t, F[j] = y :: t := List.exists_cons_of_ne_nil (hNoE F[j] (List.getElem_mem hjR))
          have hma' := hma.trans hRj
          rw [hma, hRj] at hcell hrd
          rw [hRj] at hmm hms
          obtain ⟨b', off', rfl, hbz', hdc⟩ : ∃ b off, ja = some ⟨b, off, none⟩ ∧ b < w6.heap.size ∧ w6.cell? ⟨b, off, none⟩ = some (.int .i64 y) := by
            obtain ⟨⟨a', c', e, _, _, _, hc⟩, _⟩ := hrd
            simp only [Value.slice.injEq] at e
            obtain ⟨rfl, -, rfl⟩ := e
            obtain ⟨b, off, e, hb, hcs⟩ := hc (by simp)
            have := hcs 0 (by simp)
            simp at this
            exact ⟨b, off, e, hb, this⟩
          obtain ⟨TJ, hTJ⟩ : ∃ TJ, (y :: t').length = TJ + 1 := ⟨t'.length, rfl⟩
          have hTJ' : t'.length = TJ := by simpa using hTJ
          have HTJ : Hid (t'.length = TJ) := hTJ'
          have hic : TJ + 1 ≤ jc := by
            obtain ⟨⟨a', c', e, _, _, hn, _⟩, _⟩ := hrd
            simp only [Value.slice.injEq] at e
            obtain ⟨-, -, rfl⟩ := e
            rw [← hTJ]; exact hn.1
          rw [hTJ] at hcell
          have hTm' : TJ ≤ 16777216 := by have := hrd.1.max; simp at this; omega
          have hg4' : (0 : Int) < (TJ : Int) + 1 := by omega
          have HMA : Hid _ := hma'
          clear hTJ hTJ' hma hma'
          by_cases hyx : y = x
          · subst hyx
            have e1 : mixL y F (j + 1) = (mixL y F j).set j t' := by rw [hms]; simp [dropH]
            have hg1 : (1 : Int) ≤ (TJ : Int) + 1 := by omega
            have hg2 : (TJ : Int) + 1 ≤ (jc : Int) := by omega
            by_cases hi1 : jc = 1
            · subst hi1
              obtain rfl : TJ = 0 := by omega
              have ht0 : t' = [] := List.length_eq_zero_iff.mp HTJ.out
              have hrt : RdX (fun b => b < N) w6 (.slice (some ⟨b', off', none⟩) 0 0) t' := by
                rw [ht0]
                exact RdX.nilAt _ b' off' 
              have hL7 := hput _ _ _ t' hrt
              have hmc7 := hF6.mc.but (gb_set w6 g j (.slice (some ⟨b', off', none⟩) 0 0)) (by simp; omega)
              have hbx7 := hF6.bx.but (gb_set w6 g j (.slice (some ⟨b', off', none⟩) 0 0)) (by simp; omega)
              have hrt7 := hrt.same (w' := w6.setCell ⟨g, j, none⟩ (.slice (some ⟨b', off', none⟩) 0 0)) (fun b hb hp => (gb_set w6 g j _).block b hb (by simp; omega)) (gb_set w6 g j _).size
              have hO7 := hO6.setBelow (a := ⟨g, j, none⟩) (by show g < X + 1; omega) (.slice (some ⟨b', off', none⟩) 0 0)
              have hB7 : Below N w (w6.setCell ⟨g, j, none⟩ (.slice (some ⟨b', off', none⟩) 0 0)) := hB6.trans (gb_to (gb_set w6 g j _) (fun k hk => by cases hk; omega) (by omega))
              have hz7 : X + 1 ≤ (w6.setCell ⟨g, j, none⟩ (.slice (some ⟨b', off', none⟩) 0 0)).heap.size := by have := (gb_set w6 g j (.slice (some ⟨b', off', none⟩) 0 0)).size; omega
              have hc7 : (w6.setCell ⟨g, j, none⟩ (.slice (some ⟨b', off', none⟩) 0 0)).cell? ⟨g, j, none⟩ = some (.slice (some ⟨b', off', none⟩) 0 0) := by
                obtain ⟨q1, q2, q3, -⟩ := hL7.at j (by simpa using hjm)
                have q4 := (hput _ _ _ t' hrt)
                exact cell_set_same hcell
              have hXc6 := hF6.bx.2
              have hXg : ¬ X = g := by omega
              have HTC : Hid _ := fun z => tcnt_set y t' z (mixL y F j) j hjm HMA.out
              have HE1 : Hid _ := e1
              have hnn : n' < 1000000 := by
                have h1 := HN6.out; have h2 := HN.out; have h3 := HAN.out
                omega
              have HC := fun W (hm : MC W M n' (tcnt (mixL y F j))) (hr : Rd W (.slice (some ⟨b', off', none⟩) 0 0) t') => dropHead_any M n' (tcnt (mixL y F j)) (.slice (some ⟨b', off', none⟩) 0 0) t' W hm hr hnn (fun z => by have := htc z; omega)
              clear hmm hms hput e1
              go_wp2_with fail
              generalize w6.setCell ⟨g, j, none⟩ (.slice (some ⟨b', off', none⟩) 0 0) = w7 at *
              have hXc7 := hbx7.2
              go_region_held3 (fun W => W.cell? ⟨X, 0, none⟩ = some (.map (some M)) ∧ W.cell? ⟨g, j, none⟩ = some (.slice (some ⟨b', off', none⟩) 0 0)) (go_keep) ((go_at_call 82; refine (HC _ (hmc7.keep (Below.refl _ _).drew) hrt7.1.drew).mono ?_; rintro e w8 ⟨n8, rfl, hn8, hmc8, hg8⟩; have hg8' : w7.grownBy w8 (some M) := gb_trans (gb_below _ (Below.refl _ w7).drew) hg8; have y0 := (hbx7.but hg8' (by simp; omega)).2; have y1 := (World.cell?_of_block (a := ⟨g, j, none⟩) (hg8'.block g hL7.size.2 (by simp; omega))).trans hc7))
              all_goals
                have hF8 : MW w8 N g X M cap n8 ((mixL y F j).set j t') := ⟨by have := hL7.same (hg8'.block g hL7.size.2 (by simp; omega)) (fun b hb hp => hg8'.block b hb (by simp; omega)) hg8'.size; simpa using this, hmc8.congr (fun z => (HTC.out z).symm), hbx7.but hg8' (by simp; omega)⟩
                rw [← HE1.out] at hF8
                go_wp2_with fail
                go_roundw
                case rel => exact ⟨j + 1, n8, by omega, by go_num, hF8, (show n8 ≤ _ by have := HN6.out; omega), hO7.but hg8' (.inr (fun e => by have := (hO7.lt M e).1; omega)), hB7.trans (gb_to hg8' (fun k hk => by cases hk; omega) (by omega)), Nat.le_trans hz7 hg8'.size⟩
                case measure => simp [intOf]; omega
            · have hi2 : ¬ 1 = jc := fun h => hi1 h.symm
              have hrt : RdX (fun b => b < N) w6 (.slice (some ⟨b', off' + 1, none⟩) TJ (jc - 1)) t' := by
                have := hrd.tail
                simp only [List.length_cons, Nat.add_sub_cancel, HTJ.out] at this
                exact this
              have hL7 := hput _ _ _ t' hrt
              have hmc7 := hF6.mc.but (gb_set w6 g j (.slice (some ⟨b', off' + 1, none⟩) TJ (jc - 1))) (by simp; omega)
              have hbx7 := hF6.bx.but (gb_set w6 g j (.slice (some ⟨b', off' + 1, none⟩) TJ (jc - 1))) (by simp; omega)
              have hrt7 := hrt.same (w' := w6.setCell ⟨g, j, none⟩ (.slice (some ⟨b', off' + 1, none⟩) TJ (jc - 1))) (fun b hb hp => (gb_set w6 g j _).block b hb (by simp; omega)) (gb_set w6 g j _).size
              have hO7 := hO6.setBelow (a := ⟨g, j, none⟩) (by show g < X + 1; omega) (.slice (some ⟨b', off' + 1, none⟩) TJ (jc - 1))
              have hB7 : Below N w (w6.setCell ⟨g, j, none⟩ (.slice (some ⟨b', off' + 1, none⟩) TJ (jc - 1))) := hB6.trans (gb_to (gb_set w6 g j _) (fun k hk => by cases hk; omega) (by omega))
              have hz7 : X + 1 ≤ (w6.setCell ⟨g, j, none⟩ (.slice (some ⟨b', off' + 1, none⟩) TJ (jc - 1))).heap.size := by have := (gb_set w6 g j (.slice (some ⟨b', off' + 1, none⟩) TJ (jc - 1))).size; omega
              have hc7 : (w6.setCell ⟨g, j, none⟩ (.slice (some ⟨b', off' + 1, none⟩) TJ (jc - 1))).cell? ⟨g, j, none⟩ = some (.slice (some ⟨b', off' + 1, none⟩) TJ (jc - 1)) := by
                obtain ⟨q1, q2, q3, -⟩ := hL7.at j (by simpa using hjm)
                have q4 := (hput _ _ _ t' hrt)
                exact cell_set_same hcell
              have hXc6 := hF6.bx.2
              have hXg : ¬ X = g := by omega
              have HTC : Hid _ := fun z => tcnt_set y t' z (mixL y F j) j hjm HMA.out
              have HE1 : Hid _ := e1
              have hnn : n' < 1000000 := by
                have h1 := HN6.out; have h2 := HN.out; have h3 := HAN.out
                omega
              have HC := fun W (hm : MC W M n' (tcnt (mixL y F j))) (hr : Rd W (.slice (some ⟨b', off' + 1, none⟩) TJ (jc - 1)) t') => dropHead_any M n' (tcnt (mixL y F j)) (.slice (some ⟨b', off' + 1, none⟩) TJ (jc - 1)) t' W hm hr hnn (fun z => by have := htc z; omega)
              clear hmm hms hput e1
              go_wp2_with fail
              generalize w6.setCell ⟨g, j, none⟩ (.slice (some ⟨b', off' + 1, none⟩) TJ (jc - 1)) = w7 at *
              have hXc7 := hbx7.2
              go_region_held3 (fun W => W.cell? ⟨X, 0, none⟩ = some (.map (some M)) ∧ W.cell? ⟨g, j, none⟩ = some (.slice (some ⟨b', off' + 1, none⟩) TJ (jc - 1))) (go_keep) ((go_at_call 82; refine (HC _ (hmc7.keep (Below.refl _ _).drew) hrt7.1.drew).mono ?_; rintro e w8 ⟨n8, rfl, hn8, hmc8, hg8⟩; have hg8' : w7.grownBy w8 (some M) := gb_trans (gb_below _ (Below.refl _ w7).drew) hg8; have y0 := (hbx7.but hg8' (by simp; omega)).2; have y1 := (World.cell?_of_block (a := ⟨g, j, none⟩) (hg8'.block g hL7.size.2 (by simp; omega))).trans hc7))
              all_goals
                have hF8 : MW w8 N g X M cap n8 ((mixL y F j).set j t') := ⟨by have := hL7.same (hg8'.block g hL7.size.2 (by simp; omega)) (fun b hb hp => hg8'.block b hb (by simp; omega)) hg8'.size; simpa using this, hmc8.congr (fun z => (HTC.out z).symm), hbx7.but hg8' (by simp; omega)⟩
                rw [← HE1.out] at hF8
                go_wp2_with fail
                go_roundw
                case rel => exact ⟨j + 1, n8, by omega, by go_num, hF8, (show n8 ≤ _ by have := HN6.out; omega), hO7.but hg8' (.inr (fun e => by have := (hO7.lt M e).1; omega)), hB7.trans (gb_to hg8' (fun k hk => by cases hk; omega) (by omega)), Nat.le_trans hz7 hg8'.size⟩
                case measure => simp [intOf]; omega
          · have hyb : (y == x) = false := by rw [beq_eq_false_iff_ne]; exact hyx
            have e1 : mixL x F (j + 1) = mixL x F j := hmm (by simp [dropH, hyx])
            clear hmm hms hyx hput
            go_wp2_with fail
            go_roundw
            case rel => exact ⟨j + 1, n', by omega, by go_num, by rw [e1]; exact hF6, (show n' ≤ _ by have := HN6.out; omega), hO6, hB6, hz6⟩
            case measure => simp [intOf]; omega
        · obtain rfl : FN = j := by omega
          have hjni : ¬ (FN : Int) < (FN : Int) := by omega
          have hme := mix_end x F
          rw [HFN.out] at hme
          rw [hme] at hF6
          go_wp2_with fail
          go_roundw
          case rel =>
            refine ⟨F.map (dropH x), acc ++ [x], n', by simp [HFN.out], hO6, hF6, ?_, hT', HA', by simp [HFN.out]; exact hFl, ?_, hB6, hz6⟩
            · show n' ≤ _
              have h1 := HN6.out; have h2 := HN.out; have h3 := HAN.out
              simp; omega
            · intro l hl
              obtain ⟨l', h1, rfl⟩ := List.mem_map.mp hl
              exact Nat.le_trans (dropH_len x l') (HFl.out l' h1)
          case measure => have := HAN.out; simp [slL]; omega
end Go.Proofs.Ytfbibbjiomfncaa
