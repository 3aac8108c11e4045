import Derived.Test.YtfbibbjiomfncaaMrL
import Derived.Test.YtfbibbjiomfncaaKpA
namespace Go.Proofs.Ytfbibbjiomfncaa
open Go.RowKit
set_option linter.unusedVariables false
set_option linter.unusedSimpArgs false

theorem pick_app (Ls : List (List Int)) : ∀ (A B : List (List Int)), pickL Ls (A ++ B) = (pickL Ls A).or (pickL Ls B)
  | [], B => by simp [pickL]
  | [] :: r, B => by simp only [List.cons_append, pickL]; exact pick_app Ls r B
  | (x :: t) :: r, B => by
    simp only [List.cons_append, pickL]
    split
    · simp
    · exact pick_app Ls r B
theorem pick_take (Ls Rs : List (List Int)) (k : Nat) (hk : k < Rs.length) : pickL Ls (Rs.take (k + 1)) = (pickL Ls (Rs.take k)).or (pickL Ls [Rs[k]]) := by
  rw [List.take_succ_eq_append_getElem hk, pick_app]
theorem pick_early {Ls Rs : List (List Int)} {k : Nat} {x : Int} (h : pickL Ls (Rs.take k) = some x) : pickL Ls Rs = some x := by
  rw [← List.take_append_drop k Rs, pick_app, h]; rfl
theorem allE_take (Rs : List (List Int)) (k : Nat) (hk : k < Rs.length) : AllE (Rs.take (k + 1)) ↔ (AllE (Rs.take k) ∧ Rs[k] = []) := by
  unfold AllE
  rw [List.take_succ_eq_append_getElem hk]
  simp only [List.mem_append, List.mem_singleton]
  exact ⟨fun h => ⟨fun l hl => h l (.inl hl), h _ (.inr rfl)⟩, fun h l hl => hl.elim (h.1 l) (fun e => by rw [e]; exact h.2)⟩
theorem good_take (Rs : List (List Int)) (x : Int) (k : Nat) (hk : k < Rs.length) : GoodH (Rs.take (k + 1)) x ↔ (GoodH (Rs.take k) x ∧ x ∉ Rs[k].tail) := by
  unfold GoodH
  rw [List.take_succ_eq_append_getElem hk]
  simp only [List.mem_append, List.mem_singleton]
  exact ⟨fun h => ⟨fun l hl => h l (.inl hl), h _ (.inr rfl)⟩, fun h l hl => hl.elim (h.1 l) (fun e => by rw [e]; exact h.2)⟩
theorem below_dS {B : Nat} {a w : World} (h : Below B a w) (n : Nat) : Below B a (w.drewN n) := h.trans ⟨rfl, rfl, rfl, Nat.le_refl _, fun _ _ => rfl⟩
def slL : Value → Nat
  | .slice _ n _ => n
  | _ => 0
/-- The lines, of which the first j have lost their head. -/
def mixL (x : Int) (Rs : List (List Int)) (j : Nat) : List (List Int) := (Rs.take j).map (dropH x) ++ Rs.drop j
theorem mix_len (x : Int) (Rs : List (List Int)) (j : Nat) : (mixL x Rs j).length = Rs.length := by simp [mixL]; omega
theorem mix_at (x : Int) (Rs : List (List Int)) (j : Nat) (hj : j < Rs.length) (h : j < (mixL x Rs j).length) : (mixL x Rs j)[j] = Rs[j] := by
  have h1 : (mixL x Rs j)[j]? = Rs[j]? := by
    unfold mixL
    rw [List.getElem?_append_right (by simp; omega)]
    simp [Nat.min_eq_left (Nat.le_of_lt hj)]
  rw [List.getElem?_eq_getElem h, List.getElem?_eq_getElem hj] at h1
  exact Option.some.inj h1
theorem mix_succ (x : Int) (Rs : List (List Int)) (j : Nat) (hj : j < Rs.length) : mixL x Rs (j + 1) = (mixL x Rs j).set j (dropH x Rs[j]) := by
  unfold mixL
  rw [List.take_succ_eq_append_getElem hj, List.map_append, List.set_append_right _ _ (by simp; omega)]
  simp [Nat.min_eq_left (Nat.le_of_lt hj)]
  rw [List.drop_eq_getElem_cons hj, List.set_cons_zero]
theorem mix_same (x : Int) (Rs : List (List Int)) (j : Nat) (hj : j < Rs.length) (h : dropH x Rs[j] = Rs[j]) : mixL x Rs (j + 1) = mixL x Rs j := by
  rw [mix_succ x Rs j hj, h]
  have hm : j < (mixL x Rs j).length := by rw [mix_len]; exact hj
  rw [← mix_at x Rs j hj hm]
  exact List.set_getElem_self hm
theorem mix_end (x : Int) (Rs : List (List Int)) : mixL x Rs Rs.length = Rs.map (dropH x) := by simp [mixL]
theorem grown_far {w a b : World} {g : Nat} {row : Option Nat} (h : w.grownBy a (some g)) (k : a.grownBy b row) (hr : ∀ j, row = some j → w.heap.size ≤ j) : w.grownBy b (some g) :=
  ⟨k.os.trans h.os, k.tape.trans h.tape, k.output.trans h.output, Nat.le_trans h.size k.size, fun i hi hne => (k.block i (Nat.lt_of_lt_of_le hi h.size) (fun e => by have := hr i e.symm; omega)).trans (h.block i hi hne)⟩
theorem LL.far {P : Nat → Prop} {a b : World} {B g n cap N : Nat} {row : Option Nat} {Ls : List (List Int)} (h : LL P a B g n cap Ls) (k : a.grownBy b row) (hr : ∀ j, row = some j → N ≤ j) (hg : g < N) (hP : ∀ b, P b → b < N) : LL P b B g n cap Ls :=
  h.same (k.block g h.size.2 (fun e => by have := hr g e.symm; omega)) (fun c hc hp => k.block c hc (fun e => by have := hr c e.symm; have := hP c hp; omega)) k.size
def pkI (o : Option Int) : Int := o.getD (-1)

set_option maxRecDepth 100000 in
set_option maxHeartbeats 2000000 in
theorem mergeS_any (B g n cap K : Nat) (P : Nat → Prop) (Ls : List (List Int)) (w : World) (hL : LL P w B g n cap Ls) (hn : n = Ls.length) (hn1 : n ≤ 300) (hP : ∀ b, P b → b < w.heap.size ∧ b ≠ g) (hb : ∀ l ∈ Ls, ∀ y ∈ l, 0 ≤ y ∧ y < (K : Int)) (hK : K ≤ 1000) :
    Calls Try.prog 68 #[.slice (some ⟨g, 0, none⟩) n cap] w fun e w' => ∃ a m c, e = .returned (.tuple #[.slice a m c, .bool (merge Ls).isSome]) ∧ (∀ xs, merge Ls = some xs → m = xs.length ∧ Own w' w.heap.size (.slice a m c) xs) ∧ w.grownBy w' (some g) := by
  have hT0 : Tk K [] Ls := Tk.start hb
  have ha0 := ans_nil Ls
  generalize hM : merge Ls = M at *
  have HM : Hid (ans [] Ls = M) := ha0
  clear hM ha0 hb
  have HN0 : Hid (n = Ls.length) := hn
  clear hn
  have hgw := hL.size
  have bE : Below w.heap.size w (w.alloc (.cells #[] 2)) := (Below.refl _ w).alloc (Nat.le_refl _) _
  have oE := Own.empty w
  go_enter Try.func68, Try.ntmps68
  go_wp2_with fail
  go_loopw [4] (fun v wr => ∃ (acc : List Int) (Rs : List (List Int)), Own wr w.heap.size v acc ∧ LL P wr B g n cap Rs ∧ n = Rs.length ∧ Tk K acc Rs ∧ Hid (ans acc Rs = M) ∧ w.grownBy wr (some g) ∧ w.heap.size ≤ wr.heap.size) (fun v wr => K + 1 - slL v)
  case atStart => exact ⟨[], Ls, oE, hL.same (bE.block g hgw.2) (fun b hb _ => bE.block b hb) bE.size, HN0.out, hT0, HM, gb_below _ bE, bE.size⟩
  case round =>
    obtain ⟨acc, Rs, hO, hL, hn, hT, HA, hG, hz⟩ := hrel
    generalize wr = W1 at *
    obtain ⟨oa, oc, eo⟩ := hO.form
    subst eo
    have hgz := hL.size
    have hni : (n : Int) ≤ 300 := by omega
    have HN : Hid (n = Rs.length) := hn
    clear hn bE oE hT0 HM
    go_wp2_with fail
    go_loopw [5, 6, 7] (fun lf pk i wq => ∃ k : Nat, k ≤ n ∧ i = .int .i64 k ∧ lf = .bool (!decide (AllE (Rs.take k))) ∧ pk = .int .i64 (pkI (pickL Rs (Rs.take k))) ∧ Below W1.heap.size W1 wq) (fun _ _ i _ => n - (intOf i).toNat)
    case atStart => exact ⟨0, Nat.zero_le _, rfl, by simp [AllE], rfl, Below.refl _ _⟩
    case round =>
      obtain ⟨k, hk, rfl, rfl, rfl, hBq⟩ := hrel
      generalize wr = wq at *
      cases hp : pickL Rs (Rs.take k) with
      | some x =>
        have hpA : pickL Rs Rs = some x := pick_early hp
        obtain ⟨hg, t, ht⟩ := pickL_some hp
        have ht' := List.mem_of_mem_take ht
        have hlf : (!decide (AllE (Rs.take k))) = true := by
          rw [decide_eq_false (fun h => by have := h _ ht; cases this)]; rfl
        rw [hlf]
        clear hlf hp
        by_cases hlt : k < n
        · have hlti : (k : Int) < (n : Int) := by omega
          have hxk := hT.bl _ ht' x (List.mem_cons_self ..)
          have hT' := hT.step hpA
          have hl' := hT'.len
          have HA' : Hid (ans (acc ++ [x]) (Rs.map (dropH x)) = M) := by have := HA.out; rw [ans_step hpA] at this; exact this
          have hx0 : ¬ x < 0 := by omega
          have bL : Below wq.heap.size wq (wq.alloc (.cells #[.int .i64 x] 2)) := (Below.refl _ wq).alloc (Nat.le_refl _) _
          have hzq := hBq.size
          have hOq := (hO.keep hBq).alloc (.cells #[.int .i64 x] 2)
          have hLq := hL.same (hBq.block g hgz.2) (fun b hb _ => hBq.block b hb) hBq.size
          have hGq : w.grownBy wq (some g) := gb_trans hG (gb_below _ hBq)
          have hxR : -9223372036854775808 ≤ x ∧ x < 9223372036854775808 := by omega
          simp only [pkI, Option.getD_some]
          obtain ⟨AN, hAN⟩ : ∃ AN, acc.length = AN := ⟨_, rfl⟩
          have HAN : Hid (acc.length = AN) := hAN
          simp only [List.length_append, List.length_singleton] at hl'
          rw [hAN] at hOq hl' ⊢
          clear hAN
          go_wp2_with (at_builtin; refine wpList_append_gb rfl _ _ 51 rfl Try.underlying51 w.heap.size _ _ acc [x] (AN + 1) (by simp [HAN.out]) rfl rfl hOq (Rd.one wq wq.heap.size rfl 2 hxR.1 hxR.2) (by simp) (by omega) (by simp; omega) ?_; intro a5 c5 w5 hO5 hg5)
          have hrow : ∀ j, (Value.slice oa AN oc).ownBlock = some j → w.heap.size ≤ j := fun j hj => (hOq.lt j hj).1
          have hL5 : LL P w5 B g n cap Rs := (hLq.far (gb_below none bL) (fun j hj => by cases hj) hgw.2 (fun b hb => (hP b hb).1)).far (show World.grownBy _ w5 (Value.slice oa AN oc).ownBlock from hg5) hrow hgw.2 (fun b hb => (hP b hb).1)
          have hG5 : w.grownBy w5 (some g) := grown_far (grown_far hGq (gb_below none bL) (fun j hj => by cases hj)) (show World.grownBy _ w5 (Value.slice oa AN oc).ownBlock from hg5) hrow
          have hz5 := hG5.size
          have hM0 : mixL x Rs 0 = Rs := by simp [mixL]
          clear hg5 hLq hGq hOq bL hO hL hG hBq hgz hz hrow
          go_loopw [11] (fun i wq => ∃ j : Nat, j ≤ n ∧ i = .int .i64 j ∧ LL P wq B g n cap (mixL x Rs j) ∧ Own wq w.heap.size (.slice a5 (AN + 1) c5) (acc ++ [x]) ∧ w.grownBy wq (some g)) (fun i _ => n - (intOf i).toNat)
          case atStart => exact ⟨0, Nat.zero_le _, rfl, by rw [hM0]; exact hL5, hO5, hG5⟩
          case round =>
            obtain ⟨j, hj, rfl, hL6, hO6, hG6⟩ := hrel
            clear hL5 hO5 hG5 hM0
            generalize wr = w6 at *
            by_cases hjn : j < n
            · have hjni : (j : Int) < (n : Int) := by omega
              have hjR : j < Rs.length := by rw [← HN.out]; exact hjn
              have hjm : j < (mixL x Rs j).length := by rw [mix_len]; exact hjR
              obtain ⟨ia, ic, hcell, hrd⟩ := hL6.at j hjm
              have hfz := hL6.frozen j
              rw [mix_at x Rs j hjR hjm] at hcell hrd
              have hms := mix_succ x Rs j hjR
              have hmm := mix_same x Rs j hjR
              have hput := fun a m c l h => hL6.put (fun h => (hP g h).2 rfl) j hjm a m c l h
              have hgz6 := hL6.size
              cases hRj : Rs[j] with
              | nil =>
                rw [hRj] at hcell hrd hmm
                have e1 := hmm rfl
                clear hmm hms hput
                simp only [List.length_nil] at hcell
                go_wp2_with fail
                go_roundw
                case rel => exact ⟨j + 1, by omega, by go_num, by rw [e1]; exact hL6, hO6, hG6⟩
                case measure => simp [intOf]; omega
              | cons y t =>
                rw [hRj] at hcell hrd hmm hms
                obtain ⟨b, off, rfl, hbz, hdc⟩ : ∃ b off, ia = some ⟨b, off, none⟩ ∧ b < w6.heap.size ∧ w6.cell? ⟨b, off, none⟩ = some (.int .i64 y) := by
                  obtain ⟨⟨a', c', e, _, _, _, hc⟩, _⟩ := hrd
                  simp only [Value.slice.injEq] at e
                  obtain ⟨rfl, -, rfl⟩ := e
                  obtain ⟨b, off, e, hb, hcs⟩ := hc (by simp)
                  have := hcs 0 (by simp)
                  simp at this
                  exact ⟨b, off, e, hb, this⟩
                have hyk : 0 ≤ y ∧ y < (K : Int) := hT.bl _ (by rw [← hRj]; exact List.getElem_mem hjR) y (List.mem_cons_self ..)
                obtain ⟨TN, hTN⟩ : ∃ TN, (y :: t).length = TN + 1 := ⟨t.length, rfl⟩
                have hTN' : t.length = TN := by simpa using hTN
                have HTN : Hid (t.length = TN) := hTN'
                have hic : TN + 1 ≤ ic := by
                  obtain ⟨⟨a', c', e, _, _, hn, _⟩, _⟩ := hrd
                  simp only [Value.slice.injEq] at e
                  obtain ⟨-, -, rfl⟩ := e
                  rw [← hTN]; exact hn.1
                rw [hTN] at hcell
                have hTm : TN ≤ 16777216 := by have := hrd.1.max; simp at this; omega
                clear hTN hTN' hjm
                by_cases hyx : y = x
                · subst hyx
                  have e1 : mixL y Rs (j + 1) = (mixL y Rs j).set j t := by rw [hms]; simp [dropH]
                  have hg1 : (1 : Int) ≤ (TN : Int) + 1 := by omega
                  have hg2 : (TN : Int) + 1 ≤ (ic : Int) := by omega
                  have hg3 : ((TN : Int) + 1 == 0) = false := by rw [beq_eq_false_iff_ne]; omega
                  have hg4 : (0 : Int) < (TN : Int) + 1 := by omega
                  have hrt : RdX P w6 (.slice (if ic = 1 then some ⟨b, off, none⟩ else some ⟨b, off + 1, none⟩) TN (ic - 1)) t := by
                    by_cases hi1 : ic = 1
                    · subst hi1
                      have h0 : TN = 0 := by omega
                      have ht0 : t = [] := List.length_eq_zero_iff.mp (by rw [HTN.out]; exact h0)
                      rw [h0, ht0, if_pos rfl]
                      exact RdX.nilAt _ b off
                    · rw [if_neg hi1]
                      have := hrd.tail
                      simp only [List.length_cons, Nat.add_sub_cancel, HTN.out] at this
                      exact this
                  have hL7 := hput _ _ _ t hrt
                  rw [← e1] at hL7
                  clear hmm hms hput
                  go_wp2_with fail
                  go_roundw
                  case rel => exact ⟨j + 1, by omega, by go_num, hL7, hO6.setBelow (a := ⟨g, j, none⟩) hgw.2 _, gb_trans hG6 (gb_set _ _ _ _)⟩
                  case measure => simp [intOf]; omega
                · have hyb : (y == x) = false := by rw [beq_eq_false_iff_ne]; exact hyx
                  have e1 : mixL x Rs (j + 1) = mixL x Rs j := hmm (by simp [dropH, hyx])
                  have hg4 : (0 : Int) < (TN : Int) + 1 := by omega
                  clear hmm hms hyx hput
                  go_wp2_with fail
                  go_roundw
                  case rel => exact ⟨j + 1, by omega, by go_num, by rw [e1]; exact hL6, hO6, hG6⟩
                  case measure => simp [intOf]; omega
            · obtain rfl : n = j := by omega
              have hme := mix_end x Rs
              rw [← HN.out] at hme
              rw [hme] at hL6
              go_wp2_with fail
              go_roundw
              case rel => exact ⟨acc ++ [x], Rs.map (dropH x), hO6, hL6, by rw [List.length_map]; exact HN.out, hT', HA', hG6, hG6.size⟩
              case measure => have := HAN.out; simp [slL]; omega
        · have hlti : ¬ (k : Int) < (n : Int) := by omega
          have hxk := hT.bl _ ht' x (List.mem_cons_self ..)
          have hT' := hT.step hpA
          have hl' := hT'.len
          have HA' : Hid (ans (acc ++ [x]) (Rs.map (dropH x)) = M) := by have := HA.out; rw [ans_step hpA] at this; exact this
          have hx0 : ¬ x < 0 := by omega
          have bL : Below wq.heap.size wq (wq.alloc (.cells #[.int .i64 x] 2)) := (Below.refl _ wq).alloc (Nat.le_refl _) _
          have hzq := hBq.size
          have hOq := (hO.keep hBq).alloc (.cells #[.int .i64 x] 2)
          have hLq := hL.same (hBq.block g hgz.2) (fun b hb _ => hBq.block b hb) hBq.size
          have hGq : w.grownBy wq (some g) := gb_trans hG (gb_below _ hBq)
          have hxR : -9223372036854775808 ≤ x ∧ x < 9223372036854775808 := by omega
          simp only [pkI, Option.getD_some]
          obtain ⟨AN, hAN⟩ : ∃ AN, acc.length = AN := ⟨_, rfl⟩
          have HAN : Hid (acc.length = AN) := hAN
          simp only [List.length_append, List.length_singleton] at hl'
          rw [hAN] at hOq hl' ⊢
          clear hAN
          go_wp2_with (at_builtin; refine wpList_append_gb rfl _ _ 51 rfl Try.underlying51 w.heap.size _ _ acc [x] (AN + 1) (by simp [HAN.out]) rfl rfl hOq (Rd.one wq wq.heap.size rfl 2 hxR.1 hxR.2) (by simp) (by omega) (by simp; omega) ?_; intro a5 c5 w5 hO5 hg5)
          have hrow : ∀ j, (Value.slice oa AN oc).ownBlock = some j → w.heap.size ≤ j := fun j hj => (hOq.lt j hj).1
          have hL5 : LL P w5 B g n cap Rs := (hLq.far (gb_below none bL) (fun j hj => by cases hj) hgw.2 (fun b hb => (hP b hb).1)).far (show World.grownBy _ w5 (Value.slice oa AN oc).ownBlock from hg5) hrow hgw.2 (fun b hb => (hP b hb).1)
          have hG5 : w.grownBy w5 (some g) := grown_far (grown_far hGq (gb_below none bL) (fun j hj => by cases hj)) (show World.grownBy _ w5 (Value.slice oa AN oc).ownBlock from hg5) hrow
          have hz5 := hG5.size
          have hM0 : mixL x Rs 0 = Rs := by simp [mixL]
          clear hg5 hLq hGq hOq bL hO hL hG hBq hgz hz hrow
          go_loopw [11] (fun i wq => ∃ j : Nat, j ≤ n ∧ i = .int .i64 j ∧ LL P wq B g n cap (mixL x Rs j) ∧ Own wq w.heap.size (.slice a5 (AN + 1) c5) (acc ++ [x]) ∧ w.grownBy wq (some g)) (fun i _ => n - (intOf i).toNat)
          case atStart => exact ⟨0, Nat.zero_le _, rfl, by rw [hM0]; exact hL5, hO5, hG5⟩
          case round =>
            obtain ⟨j, hj, rfl, hL6, hO6, hG6⟩ := hrel
            clear hL5 hO5 hG5 hM0
            generalize wr = w6 at *
            by_cases hjn : j < n
            · have hjni : (j : Int) < (n : Int) := by omega
              have hjR : j < Rs.length := by rw [← HN.out]; exact hjn
              have hjm : j < (mixL x Rs j).length := by rw [mix_len]; exact hjR
              obtain ⟨ia, ic, hcell, hrd⟩ := hL6.at j hjm
              have hfz := hL6.frozen j
              rw [mix_at x Rs j hjR hjm] at hcell hrd
              have hms := mix_succ x Rs j hjR
              have hmm := mix_same x Rs j hjR
              have hput := fun a m c l h => hL6.put (fun h => (hP g h).2 rfl) j hjm a m c l h
              have hgz6 := hL6.size
              cases hRj : Rs[j] with
              | nil =>
                rw [hRj] at hcell hrd hmm
                have e1 := hmm rfl
                clear hmm hms hput
                simp only [List.length_nil] at hcell
                go_wp2_with fail
                go_roundw
                case rel => exact ⟨j + 1, by omega, by go_num, by rw [e1]; exact hL6, hO6, hG6⟩
                case measure => simp [intOf]; omega
              | cons y t =>
                rw [hRj] at hcell hrd hmm hms
                obtain ⟨b, off, rfl, hbz, hdc⟩ : ∃ b off, ia = some ⟨b, off, none⟩ ∧ b < w6.heap.size ∧ w6.cell? ⟨b, off, none⟩ = some (.int .i64 y) := by
                  obtain ⟨⟨a', c', e, _, _, _, hc⟩, _⟩ := hrd
                  simp only [Value.slice.injEq] at e
                  obtain ⟨rfl, -, rfl⟩ := e
                  obtain ⟨b, off, e, hb, hcs⟩ := hc (by simp)
                  have := hcs 0 (by simp)
                  simp at this
                  exact ⟨b, off, e, hb, this⟩
                have hyk : 0 ≤ y ∧ y < (K : Int) := hT.bl _ (by rw [← hRj]; exact List.getElem_mem hjR) y (List.mem_cons_self ..)
                obtain ⟨TN, hTN⟩ : ∃ TN, (y :: t).length = TN + 1 := ⟨t.length, rfl⟩
                have hTN' : t.length = TN := by simpa using hTN
                have HTN : Hid (t.length = TN) := hTN'
                have hic : TN + 1 ≤ ic := by
                  obtain ⟨⟨a', c', e, _, _, hn, _⟩, _⟩ := hrd
                  simp only [Value.slice.injEq] at e
                  obtain ⟨-, -, rfl⟩ := e
                  rw [← hTN]; exact hn.1
                rw [hTN] at hcell
                have hTm : TN ≤ 16777216 := by have := hrd.1.max; simp at this; omega
                clear hTN hTN' hjm
                by_cases hyx : y = x
                · subst hyx
                  have e1 : mixL y Rs (j + 1) = (mixL y Rs j).set j t := by rw [hms]; simp [dropH]
                  have hg1 : (1 : Int) ≤ (TN : Int) + 1 := by omega
                  have hg2 : (TN : Int) + 1 ≤ (ic : Int) := by omega
                  have hg3 : ((TN : Int) + 1 == 0) = false := by rw [beq_eq_false_iff_ne]; omega
                  have hg4 : (0 : Int) < (TN : Int) + 1 := by omega
                  have hrt : RdX P w6 (.slice (if ic = 1 then some ⟨b, off, none⟩ else some ⟨b, off + 1, none⟩) TN (ic - 1)) t := by
                    by_cases hi1 : ic = 1
                    · subst hi1
                      have h0 : TN = 0 := by omega
                      have ht0 : t = [] := List.length_eq_zero_iff.mp (by rw [HTN.out]; exact h0)
                      rw [h0, ht0, if_pos rfl]
                      exact RdX.nilAt _ b off
                    · rw [if_neg hi1]
                      have := hrd.tail
                      simp only [List.length_cons, Nat.add_sub_cancel, HTN.out] at this
                      exact this
                  have hL7 := hput _ _ _ t hrt
                  rw [← e1] at hL7
                  clear hmm hms hput
                  go_wp2_with fail
                  go_roundw
                  case rel => exact ⟨j + 1, by omega, by go_num, hL7, hO6.setBelow (a := ⟨g, j, none⟩) hgw.2 _, gb_trans hG6 (gb_set _ _ _ _)⟩
                  case measure => simp [intOf]; omega
                · have hyb : (y == x) = false := by rw [beq_eq_false_iff_ne]; exact hyx
                  have e1 : mixL x Rs (j + 1) = mixL x Rs j := hmm (by simp [dropH, hyx])
                  have hg4 : (0 : Int) < (TN : Int) + 1 := by omega
                  clear hmm hms hyx hput
                  go_wp2_with fail
                  go_roundw
                  case rel => exact ⟨j + 1, by omega, by go_num, by rw [e1]; exact hL6, hO6, hG6⟩
                  case measure => simp [intOf]; omega
            · obtain rfl : n = j := by omega
              have hme := mix_end x Rs
              rw [← HN.out] at hme
              rw [hme] at hL6
              go_wp2_with fail
              go_roundw
              case rel => exact ⟨acc ++ [x], Rs.map (dropH x), hO6, hL6, by rw [List.length_map]; exact HN.out, hT', HA', hG6, hG6.size⟩
              case measure => have := HAN.out; simp [slL]; omega
      | none =>
        have hpk : pkI (none : Option Int) = -1 := rfl
        rw [hpk]
        have hzq := hBq.size
        have hLq := hL.same (hBq.block g hgz.2) (fun b hb _ => hBq.block b hb) hBq.size
        by_cases hlt : k < n
        · have hlti : (k : Int) < (n : Int) := by omega
          have hkR : k < Rs.length := by rw [← HN.out]; exact hlt
          have hpt := pick_take Rs Rs k hkR
          have hat := allE_take Rs k hkR
          rw [hp] at hpt
          obtain ⟨ia, ic, hcell, hrd⟩ := hLq.at k hkR
          cases hRk : Rs[k] with
          | nil =>
            rw [hRk] at hcell hrd hpt hat
            have e1 : pkI (pickL Rs (Rs.take (k + 1))) = -1 := by rw [hpt]; rfl
            have e2 : (!decide (AllE (Rs.take (k + 1)))) = (!decide (AllE (Rs.take k))) := by
              congr 1
              exact decide_eq_decide.mpr (by rw [hat]; simp)
            simp only [List.length_nil] at hcell
            clear hpt hat hp hrd
            go_wp2_with fail
            go_roundw
            case rel => exact ⟨k + 1, by omega, by go_num, by rw [e2], by rw [e1], hBq⟩
            case measure => simp [intOf]; omega
          | cons x t =>
            rw [hRk] at hcell hrd hpt hat
            obtain ⟨b, off, rfl, hbz, hdc⟩ : ∃ b off, ia = some ⟨b, off, none⟩ ∧ b < wq.heap.size ∧ wq.cell? ⟨b, off, none⟩ = some (.int .i64 x) := by
              obtain ⟨⟨a', c', e, _, _, _, hc⟩, _⟩ := hrd
              simp only [Value.slice.injEq] at e
              obtain ⟨rfl, -, rfl⟩ := e
              obtain ⟨b, off, e, hb, hcs⟩ := hc (by simp)
              have := hcs 0 (by simp)
              simp at this
              exact ⟨b, off, e, hb, this⟩
            have hxk : 0 ≤ x ∧ x < (K : Int) := hT.bl _ (by rw [← hRk]; exact List.getElem_mem hkR) x (List.mem_cons_self ..)
            have e2 : (!decide (AllE (Rs.take (k + 1)))) = true := by
              rw [decide_eq_false (fun h => by have := (hat.mp h).2; cases this)]; rfl
            have hxR : -9223372036854775808 ≤ x ∧ x < 9223372036854775808 := by omega
            obtain ⟨TN, hTN⟩ : ∃ TN, (x :: t).length = TN + 1 := ⟨t.length, rfl⟩
            rw [hTN] at hcell
            have hTm : TN ≤ 16777216 := by have := hrd.1.max; rw [hTN] at this; omega
            have hg3 : ((TN : Int) + 1 == 0) = false := by rw [beq_eq_false_iff_ne]; omega
            have hg4 : (0 : Int) < (TN : Int) + 1 := by omega
            clear hTN hat hp
            have Hpt : Hid (pickL Rs (Rs.take (k + 1)) = (none : Option Int).or (pickL Rs [x :: t])) := hpt
            clear hpt
            go_wp2_with fail
            go_loopw [9, 10] (fun gd kk wp => ∃ j : Nat, j ≤ n ∧ kk = .int .i64 j ∧ gd = .bool (decide (GoodH (Rs.take j) x)) ∧ Below W1.heap.size W1 wp) (fun _ kk _ => n - (intOf kk).toNat)
            case atStart => exact ⟨0, Nat.zero_le _, rfl, by simp [GoodH], hBq⟩
            case round =>
              obtain ⟨j, hj, rfl, rfl, hBp⟩ := hrel
              generalize wr = wp at *
              clear hcell hdc hLq hBq hrd
              by_cases hjn : j < n
              · have hjni : (j : Int) < (n : Int) := by omega
                have hjR : j < Rs.length := by rw [← HN.out]; exact hjn
                have hgt := good_take Rs x j hjR
                have hLp := hL.same (hBp.block g hgz.2) (fun b hb _ => hBp.block b hb) hBp.size
                obtain ⟨ja, jc, hcell, hrd⟩ := hLp.at j hjR
                go_wp2_with fail
                refine (inTail_any _ Rs[j] x wp hrd.1 hxR).mono ?_
                rintro e w6 ⟨rfl, rfl⟩
                by_cases hin : x ∈ Rs[j].tail
                · rw [decide_eq_true hin]
                  have e3 : decide (GoodH (Rs.take (j + 1)) x) = false := decide_eq_false (fun h => (hgt.mp h).2 hin)
                  go_wp2_with fail
                  go_roundw
                  case rel => exact ⟨j + 1, by omega, by go_num, by rw [e3], hBp⟩
                  case measure => simp [intOf]; omega
                · rw [decide_eq_false hin]
                  have e3 : decide (GoodH (Rs.take (j + 1)) x) = decide (GoodH (Rs.take j) x) := decide_eq_decide.mpr ⟨fun h => (hgt.mp h).1, fun h => hgt.mpr ⟨h, hin⟩⟩
                  go_wp2_with fail
                  go_roundw
                  case rel => exact ⟨j + 1, by omega, by go_num, by rw [e3], hBp⟩
                  case measure => simp [intOf]; omega
              · obtain rfl : n = j := by omega
                have hjni : ¬ (n : Int) < (n : Int) := by omega
                have htk : Rs.take n = Rs := by rw [HN.out]; exact List.take_length
                rw [htk]
                by_cases hgd : GoodH Rs x
                · have e4 : pkI (pickL Rs (Rs.take (k + 1))) = x := by rw [Hpt.out]; simp [pickL, hgd, pkI]
                  rw [decide_eq_true hgd]
                  go_wp2_with fail
                  go_roundw
                  case rel => exact ⟨k + 1, by omega, by go_num, by rw [e2], by rw [e4], hBp⟩
                  case measure => simp [intOf]; omega
                · have e4 : pkI (pickL Rs (Rs.take (k + 1))) = -1 := by rw [Hpt.out]; simp [pickL, hgd, pkI]
                  rw [decide_eq_false hgd]
                  go_wp2_with fail
                  go_roundw
                  case rel => exact ⟨k + 1, by omega, by go_num, by rw [e2], by rw [e4], hBp⟩
                  case measure => simp [intOf]; omega
        · obtain rfl : n = k := by omega
          have hlti : ¬ (n : Int) < (n : Int) := by omega
          have htk : Rs.take n = Rs := by rw [HN.out]; exact List.take_length
          rw [htk] at hp ⊢
          have hOq := hO.keep hBq
          have hGq : w.grownBy wq (some g) := gb_trans hG (gb_below _ hBq)
          by_cases hA : AllE Rs
          · obtain rfl : M = some acc := by rw [← HA.out]; exact ans_end hA
            rw [decide_eq_true hA]
            go_wp2_with fail
            exact bodyPost_ret (v := .tuple #[.slice oa acc.length oc, .bool true]) (by simp [results, Try.results68, go_sem]) rfl ⟨_, _, _, rfl, ⟨rfl, hOq⟩, hGq⟩
          · obtain rfl : M = none := by rw [← HA.out]; exact ans_none hA hp
            rw [decide_eq_false hA]
            go_wp2_with fail
            exact bodyPost_ret (v := .tuple #[.slice (some ⟨wq.heap.size, 0, none⟩) 0 0, .bool false]) (by simp [results, Try.results68, go_sem]) rfl ⟨⟨_, _, _, rfl⟩, gb_trans hGq (gb_below _ ((Below.refl _ _).alloc (Nat.le_refl _) _))⟩
end Go.Proofs.Ytfbibbjiomfncaa
