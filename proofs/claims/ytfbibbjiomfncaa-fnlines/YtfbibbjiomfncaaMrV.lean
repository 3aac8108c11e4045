import Derived.Test.YtfbibbjiomfncaaMrU
import Derived.Test.YtfbibbjiomfncaaClU
namespace Go.Proofs.Ytfbibbjiomfncaa
open Go.RowKit Go.Maps
set_option linter.unusedVariables false
set_option linter.unusedSimpArgs false

/-- A row of rows that is read. -/
def RL (w : World) (v : Value) (Ls : List (List Int)) : Prop := ∃ sls : List Sl, RdG shL w v sls ∧ sls.length = Ls.length ∧ ∀ k (h : k < sls.length) (h' : k < Ls.length), Rd w sls[k].val Ls[k]
theorem RL.keep {w w' : World} {v : Value} {Ls : List (List Int)} (h : RL w v Ls) (hb : Below w.heap.size w w') : RL w' v Ls := by
  obtain ⟨sls, h1, h2, h3⟩ := h
  exact ⟨sls, h1.keep hb, h2, fun k h h' => (h3 k h h').keep hb⟩
/-- What a map of counts says. -/
def Cnt (f : Int → Int) (D : DataW Unit) : Prop := ∀ x : Int, -9223372036854775808 ≤ x → x < 9223372036854775808 → D.atKey (.int .i64 x) (.lit (.int .i64 0)) = .lit (.int .i64 (f x))
def MC (w : World) (M n : Nat) (f : Int → Int) : Prop := ∃ D : DataW Unit, w.ownsMap Try.prog 2 (plainElem Try.prog 2) M n D ∧ Cnt f D
/-- How often a thing stands in the tails. -/
def tcnt (Ls : List (List Int)) (x : Int) : Int := ((Ls.map fun l => l.tail.count x).sum : Nat)
theorem MC.get {w : World} {M n : Nat} {f : Int → Int} (h : MC w M n f) (x : Int) (h0 : -9223372036854775808 ≤ x) (h1 : x < 9223372036854775808) :
    (Instr.lookup 101 (.map (some M)) (.int .i64 x) false).run Try.prog w = .ok (.int .i64 (f x)) w := by
  obtain ⟨D, hown, hC⟩ := h
  obtain ⟨c, hL, hat, _⟩ := hown.lookup_int keyedI Try.underlying101 Try.underlying2 (zeroI64 _) (keyI h0 h1)
  rw [hC x h0 h1] at hat
  obtain rfl : f x = c := by simpa using hat
  exact hL
theorem MC.put {w : World} {M n : Nat} {f : Int → Int} (h : MC w M n f) (hn : n < maxLen) (x : Int) (h0 : -9223372036854775808 ≤ x) (h1 : x < 9223372036854775808) (c : Int) (hc : (Lit.int .i64 c).wf = true) :
    ∃ w', (Instr.mapUpdate 101 (.map (some M)) (.int .i64 x) (.int .i64 c)).run Try.prog w = .ok () w' ∧ MC w' M (n + 1) (fun y => if y = x then c else f y) ∧ w.grownBy w' (some M) := by
  obtain ⟨D, hown, hC⟩ := h
  obtain ⟨w', hU, hown2, hg⟩ := hown.update keyedI Try.underlying101 hn (keyI h0 h1) (plainElem_int (H := Unit) Try.underlying2 hc)
  refine ⟨w', hU, ⟨_, hown2, fun y hy0 hy1 => ?_⟩, hg⟩
  by_cases e : y = x
  · subst e
    show _ = DataW.lit (Lit.int .i64 (if y = y then c else f y))
    rw [atKey_put_same hown.isMap (keyedI.key (keyI h0 h1)), if_pos rfl]
  · show _ = DataW.lit (Lit.int .i64 (if y = x then c else f y))
    rw [if_neg e, atKey_put_other (by intro e2; apply e; simpa using e2)]
    exact hC y hy0 hy1

theorem MC.congr {w : World} {M n : Nat} {f g : Int → Int} (h : MC w M n f) (e : ∀ y, f y = g y) : MC w M n g := by rw [← funext e]; exact h
theorem tcnt_take (Ls : List (List Int)) (k : Nat) (hk : k < Ls.length) (y : Int) : tcnt (Ls.take (k + 1)) y = tcnt (Ls.take k) y + (Ls[k].tail.count y : Nat) := by
  unfold tcnt
  rw [List.take_succ_eq_append_getElem hk]
  simp only [List.map_append, List.sum_append, List.map_cons, List.map_nil, List.sum_cons, List.sum_nil, Nat.add_zero]
  push_cast
  rfl
theorem tcnt_le : ∀ (Ls : List (List Int)) (y : Int), (∀ l ∈ Ls, l.length ≤ 300) → 0 ≤ tcnt Ls y ∧ tcnt Ls y ≤ 300 * (Ls.length : Int)
  | [], y, _ => by simp [tcnt]
  | l :: r, y, h => by
    have h1 := tcnt_le r y (fun l hl => h l (List.mem_cons_of_mem _ hl))
    have h2 : l.tail.count y ≤ 300 := by
      have := List.count_le_length (a := y) (l := l.tail)
      have := h l (List.mem_cons_self ..)
      simp at *; omega
    unfold tcnt at *
    simp only [List.map_cons, List.sum_cons, List.length_cons]
    push_cast at *
    omega
theorem count_take (t : List Int) (j : Nat) (hj : j < t.length) (y : Int) : (t.take (j + 1)).count y = (t.take j).count y + if y = t[j] then 1 else 0 := by
  rw [List.take_succ_eq_append_getElem hj, List.count_append, List.count_singleton]
  congr 1
  by_cases e : y = t[j]
  · rw [if_pos e, if_pos (by simp [e])]
  · rw [if_neg e, if_neg (by simpa using fun h => e h.symm)]

set_option maxRecDepth 100000 in
set_option maxHeartbeats 1000000 in
theorem tailCounts_any (v : Value) (Ls : List (List Int)) (w : World) (hr : RL w v Ls) (hl : Ls.length ≤ 300) (hll : ∀ l ∈ Ls, l.length ≤ 300) :
    Calls Try.prog 77 #[v] w fun e w' => ∃ n, e = .returned (.map (some w.heap.size)) ∧ MC w' w.heap.size n (tcnt Ls) ∧ n ≤ 90000 ∧ Below w.heap.size w w' := by
  obtain ⟨sls, ⟨a, cap, rfl, hlx, hzx, hnx, hcx⟩, hsl, hR⟩ := hr
  have hmm := @run_makeMap Try.prog
  have HS : Hid (sls.length = Ls.length) := hsl
  rw [hsl] at hlx ⊢
  clear hsl
  go_enter Try.func77, Try.ntmps77
  go_wp2
  go_loopw [11] (fun i wr => ∃ (k n : Nat), k ≤ Ls.length ∧ i = .int .i64 k ∧ MC wr w.heap.size n (tcnt (Ls.take k)) ∧ n ≤ 300 * k ∧ Below w.heap.size w wr) (fun i _ => Ls.length - (intOf i).toNat)
  case atStart => exact ⟨0, 0, Nat.zero_le _, rfl, ⟨_, World.ownsMap_made w _ _ _, fun x _ _ => by simp [tcnt, DataW.atKey]⟩, by omega, (Below.refl _ w).alloc (Nat.le_refl _) _⟩
  case round =>
    obtain ⟨k, n, hk, rfl, hM, hn, hB⟩ := hrel
    clear hmm
    generalize wr = W1 at *
    by_cases hlt : k < Ls.length
    · have hlti : (k : Int) < (Ls.length : Int) := by omega
      have hks : k < sls.length := by rw [HS.out]; exact hlt
      obtain ⟨b, off, rfl, hb, hcell⟩ := hcx (by omega)
      have d0 : W1.cell? ⟨b, off + k, none⟩ = some sls[k].val := by
        have := (hB.cell (p := ⟨b, off + k * shL.n + 0, none⟩) hb).trans (hcell k hks 0 (by decide))
        simpa [shL] using this
      have hRk := hR k hks hlt
      have htt := tcnt_take Ls k hlt
      have hlk := hll _ (List.getElem_mem hlt)
      have htl := fun y => tcnt_le (Ls.take k) y (fun l hl => hll l (List.mem_of_mem_take hl))
      have hln : (Ls.take k).length = k := by simp; omega
      simp only [hln] at htl
      generalize sls[k].val = sv at *
      generalize hLk : Ls[k] = l at *
      obtain ⟨sa, sc, es⟩ := hRk.form
      subst es
      obtain ⟨a', c', e, _, hzz, hnc, hcs⟩ := hRk
      simp only [Value.slice.injEq] at e
      obtain ⟨e1, -, e3⟩ := e
      subst e1 e3
      clear hcell
      cases l with
      | nil =>
        simp only [List.length_nil] at d0
        have htt' : ∀ y, tcnt (Ls.take k) y = tcnt (Ls.take (k + 1)) y := fun y => by rw [htt]; simp
        clear htt hcs
        go_wp2
        go_loopw [21] (fun i wq => i = .int .i64 0 ∧ wq = W1) (fun _ _ => 0)
        case atStart => exact ⟨rfl, rfl⟩
        case round =>
          obtain ⟨rfl, hw⟩ := hrel
          have hw' := hw.symm
          subst hw'
          go_wp2
          go_roundw
          case rel => exact ⟨k + 1, n, by omega, by go_num, hM.congr htt', by omega, hB⟩
          case measure => simp [intOf]; omega
      | cons z t =>
        obtain ⟨sb, so, rfl, hsb, hscs⟩ := hcs (by simp)
        obtain ⟨TN, hTN⟩ : ∃ TN, t.length = TN := ⟨_, rfl⟩
        have HTN : Hid (t.length = TN) := hTN
        simp only [List.length_cons, hTN] at d0 hnc hlk hscs
        clear hTN
        have hs1 : (1 : Int) ≤ (TN : Int) + 1 := by omega
        have hs2 : (TN : Int) + 1 ≤ (sc : Int) := by omega
        have hmin : min (1 : Int) ((TN : Int) + 1) = 1 := by omega
        by_cases hsc1 : sc = 1
        · subst hsc1
          obtain rfl : TN = 0 := by omega
          have ht0 : t = [] := List.length_eq_zero_iff.mp HTN.out
          have htt' : ∀ y, tcnt (Ls.take k) y = tcnt (Ls.take (k + 1)) y := fun y => by rw [htt, ht0]; simp
          clear htt hscs
          go_wp2
          go_loopw [21] (fun i wq => i = .int .i64 0 ∧ wq = W1) (fun _ _ => 0)
          case atStart => exact ⟨rfl, rfl⟩
          case round =>
            obtain ⟨rfl, hw⟩ := hrel
            have hw' := hw.symm
            subst hw'
            go_wp2
            go_roundw
            case rel => exact ⟨k + 1, n, by omega, by go_num, hM.congr htt', by omega, hB⟩
            case measure => simp [intOf]; omega
        · have hcq : ¬ 1 = sc := fun h => hsc1 h.symm
          go_wp2
          go_loopw [21] (fun i wq => ∃ (j m : Nat), j ≤ TN ∧ i = .int .i64 j ∧ MC wq w.heap.size m (fun y => tcnt (Ls.take k) y + ((t.take j).count y : Nat)) ∧ m ≤ 300 * k + j ∧ Below w.heap.size w wq) (fun i _ => TN - (intOf i).toNat)
          case atStart => exact ⟨0, n, Nat.zero_le _, rfl, hM.congr (fun y => by simp), by omega, hB⟩
          case round =>
            obtain ⟨j, m, hj, rfl, hM2, hm, hB2⟩ := hrel
            generalize wr = W2 at *
            by_cases hjt : j < TN
            · have hji : (j : Int) < (TN : Int) := by omega
              have hjl : j < t.length := by rw [HTN.out]; exact hjt
              have d1 : W2.cell? ⟨sb, so + 1 + j, none⟩ = some (.int .i64 t[j]) := by
                have := (hB2.cell (p := ⟨sb, so + (j + 1), none⟩) hsb).trans (hscs (j + 1) (by omega))
                rw [show so + 1 + j = so + (j + 1) by omega, this]
                simp [List.getD, hjl]
              have hzt := hzz t[j] (List.mem_cons_of_mem _ (List.getElem_mem hjl))
              have hct := count_take t j hjl
              have hcl : ∀ y, ((t.take j).count y : Nat) ≤ 300 := fun y => by
                have := List.count_le_length (a := y) (l := t.take j)
                simp at this; omega
              generalize t[j] = X at *
              have hgt := hM2.get X hzt.1 hzt.2
              have hfb := htl X
              have hcx' := hcl X
              obtain ⟨F, hF⟩ : ∃ F, tcnt (Ls.take k) X + ((t.take j).count X : Nat) = F := ⟨_, rfl⟩
              simp only [hF] at hgt
              have hF0 : 0 ≤ F ∧ F ≤ 100000 := by omega
              obtain ⟨W3, hU, hM3, hg3⟩ := hM2.put (by unfold maxLen; omega) X hzt.1 hzt.2 (F + 1) (WalkArith.wf_i64 (by omega))
              have hB3 : Below w.heap.size w W3 := hB2.grown hg3 hB2.size (fun j hj => by cases hj; exact Nat.le_refl _)
              have hM4 : MC W3 w.heap.size (m + 1) (fun y => tcnt (Ls.take k) y + ((t.take (j + 1)).count y : Nat)) := hM3.congr (fun y => by
                by_cases e : y = X
                · subst e; rw [if_pos rfl, hct, if_pos rfl, ← hF]; push_cast; omega
                · rw [if_neg e, hct, if_neg e]; simp)
              have hwr : IntKind.i64.wrap (F + 1) = F + 1 := by simp [IntKind.wrap, IntKind.bits, IntKind.signed]; omega
              clear hM3 hct hcl hfb hcx' hM2 hscs htt htl hg3
              go_wp2
              go_roundw
              case rel => exact ⟨j + 1, m + 1, by omega, by go_num, hM4, by omega, hB3⟩
              case measure => simp [intOf]; omega
            · obtain rfl : TN = j := by omega
              have hji : ¬ (TN : Int) < (TN : Int) := by omega
              have hM5 : MC W2 w.heap.size m (tcnt (Ls.take (k + 1))) := hM2.congr (fun y => by rw [htt, ← HTN.out, List.take_length]; rfl)
              go_wp2
              go_roundw
              case rel => exact ⟨k + 1, m, by omega, by go_num, hM5, by omega, hB2⟩
              case measure => simp [intOf]; omega
    · obtain rfl : k = Ls.length := by omega
      rw [List.take_length] at hM
      have hlti : ¬ (Ls.length : Int) < (Ls.length : Int) := by omega
      go_wp2
      go_ret
      exact ⟨rfl, n, hM, by omega, hB⟩
end Go.Proofs.Ytfbibbjiomfncaa
