import Derived.Test.YtlnekedehalbdaaPsV
import Derived.Lib.AppendZerosOnto
import Derived.Deep.MidRow
namespace Go.Proofs.Ytlnekedehalbdaa
open Go.RowKit
set_option linter.unusedVariables false
set_option linter.unusedSimpArgs false

theorem wpList_append_run {w : World} {ops : Array Oper} {rest : List Oper} {o : Oper} {a : Act} {Q : Exit → Act → World → Prop} (hgd : o.guard = none) (s x : Operand) (t tn : TypeId)
    (ho : o.op = .call { callee := .builtin .append, args := #[s, x], argTypes := #[t, tn] }) (v u r : Value) (w' : World) (hs : a.eval s = v) (hx : a.eval x = u)
    (hrun : (Builtin.append_ #[t, tn] o.type #[v, u]).run Try.prog w = .ok r w') (h : wpList Try.prog ops Q rest (a.put o.dst r) w') : wpList Try.prog ops Q (o :: rest) a w := by
  refine wpList_plain hgd fun K hK' => ?_
  unfold Oper.wp
  simp [execOp, ho, resolve, invoke, builtin, hs, hx, hrun, Result.andThen]
  exact hK' _ _ h
set_option maxRecDepth 100000 in
set_option maxHeartbeats 1000000 in
theorem grow_any (n : Nat) (w : World) (hn : n ≤ 2000) :
    Calls Try.prog 44 #[.slice none 0 0, .int .i64 n] w fun e w' => ∃ v, e = .returned v ∧ Own w' w.heap.size v [] ∧ Below w.heap.size w w' := by
  obtain ⟨i0, hi0, hz0, hzs, hzb⟩ := info_parts Try.info2
  have w1 : IntKind.i64.wrap (n : Int) = (n : Int) := by rw [IntKind.wrap_i64]; omega
  have g0 : ¬ (n : Int) < 0 := by omega
  rcases Nat.eq_zero_or_pos n with h0 | h0
  · subst h0
    go_enter Try.func44, Try.ntmps44
    go_wp2_with fail
    go_ret
    exact ⟨_, rfl, Own.nil _ _, Below.refl _ _⟩
  · obtain ⟨G, hG⟩ : ∃ G, G = grownCap w n 0 2 := ⟨_, rfl⟩
    obtain ⟨ROW, hROW⟩ : ∃ ROW : Array Value, ROW = ([] : List Value).toArray ++ Builtin.zeroCells (Value.int .i64 0).cells n ++ Builtin.zeroCells (Value.int .i64 0).cells (G - n) := ⟨_, rfl⟩
    obtain ⟨W1, hW1⟩ : ∃ W1, W1 = w.drew.alloc (.cells ROW 2) := ⟨_, rfl⟩
    have hrz : ∀ ty, (Builtin.append_ #[22, 3] ty #[.slice none 0 0, .int .i64 (n : Int)]).run Try.prog w = .ok (.slice (some ⟨w.heap.size, 0, none⟩) n G) W1 := fun ty => by
      have h := Lib.run_append_grow_zeros (P := Try.prog) w 22 3 ty 2 i0 (.int .i64 0) .i64 .i64 Try.underlying22 Try.underlying3 hi0 hz0 none 0 0 [] (by rw [hzs]; exact run_firstCells_none w.drew 1 0 0 0) n h0 (by rw [hzs]; omega) (by omega) (by omega) (by rw [hzb]; omega) (by rw [hzb]; exact growslice_fits (by omega) (by omega))
      rw [Nat.zero_add, ← hG, ← hROW, ← hW1] at h
      exact h
    have hGn : n ≤ G := by rw [hG]; exact grownCap_ge w _ _ _
    have hGm : G ≤ maxLen := by rw [hG]; exact grownCap_le_maxLen w _ 0 2 (by unfold maxLen; omega)
    have hRl : ROW.size = G := by
      rw [hROW]
      simp [Builtin.zeroCells, Value.cells]
      omega
    have hh1 : W1.heap[w.heap.size]? = some (.cells ROW 2 (0, 0)) := by rw [hW1]; show (w.heap.push _)[w.heap.size]? = _; simp
    have hB1 : Below w.heap.size w W1 := by rw [hW1]; exact (Below.refl _ w).drew.alloc (Nat.le_refl _) _
    have hOw : Own W1 w.heap.size (.slice (some ⟨w.heap.size, 0, none⟩) 0 G) [] := ⟨⟨by simp, .inr ⟨w.heap.size, G, ROW, rfl, Nat.le_refl _, hh1, Nat.zero_le _, hGm, by omega, by simp⟩⟩, by simp, Limbs.nil⟩
    have hpi : (0 : Int) < (n : Int) := by omega
    have q1 : (0 : Int) ≤ (G : Int) := by omega
    clear hG hROW hW1 hRl hh1
    go_enter Try.func44, Try.ntmps44
    go_wp2_with (at_builtin; refine wpList_append_run rfl _ _ 22 3 rfl (.slice none 0 0) (.int .i64 (n : Int)) _ _ rfl rfl (hrz _) ?_)
    go_ret
    exact ⟨_, rfl, hOw, hB1⟩

theorem tot_app (a b : List (List Int)) : tot (a ++ b) = tot a + tot b := by simp [tot]
theorem tot_take (Ls : List (List Int)) (k : Nat) (h : k < Ls.length) : tot (Ls.take (k + 1)) = tot (Ls.take k) + Ls[k].length := by
  rw [List.take_succ_eq_append_getElem h, tot_app]
  rfl
theorem tot_le (Ls : List (List Int)) (k : Nat) : tot (Ls.take k) ≤ tot Ls := by
  have := tot_app (Ls.take k) (Ls.drop k)
  rw [List.take_append_drop] at this
  omega
theorem tot_flat (Ls : List (List Int)) : Ls.flatten.length = tot Ls := by rw [List.length_flatten]; rfl
set_option maxRecDepth 100000 in
set_option maxHeartbeats 1000000 in
theorem concat_any (E : Nat → Prop) (w : World) (v : Value) (Ls : List (List Int)) (hr : RY E w v Ls) (ht : tot Ls ≤ 2000) (hl : Ls.length ≤ 2000) :
    Calls Try.prog 37 #[v] w fun e w' => ∃ u, e = .returned u ∧ Own w' w.heap.size u Ls.flatten ∧ Below w.heap.size w w' := by
  obtain ⟨ra, rc, rfl⟩ := hr.form
  obtain ⟨NL, hNL⟩ : ∃ NL, Ls.length = NL := ⟨_, rfl⟩
  have HNL : Hid (Ls.length = NL) := hNL
  have HR : ∀ W, Below w.heap.size w W → RY E W (.slice ra NL rc) Ls := fun W h => by rw [← hNL]; exact hr.off (OfE.below h)
  rw [hNL] at hl ⊢
  clear hNL hr
  have htk : ∀ k (h : k < Ls.length), tot (Ls.take (k + 1)) = tot (Ls.take k) + Ls[k].length := fun k h => tot_take Ls k h
  have htl : ∀ k, tot (Ls.take k) ≤ tot Ls := tot_le Ls
  go_enter Try.func37, Try.ntmps37
  go_upto_block 0 with fail
  go_cut [3] from 5 (fun vs wc => vs = .int .i64 (tot Ls : Nat) ∧ Below w.heap.size w wc)
  case first =>
    go_wp2_with fail
    go_loopw [3, 11] (fun vs vi wr => ∃ k : Nat, k ≤ NL ∧ vi = .int .i64 k ∧ vs = .int .i64 (tot (Ls.take k) : Nat) ∧ Below w.heap.size w wr) (fun _ vi _ => NL - (intOf vi).toNat)
    case atStart => exact ⟨0, Nat.zero_le _, rfl, by simp [tot], Below.refl _ _⟩
    case round =>
      obtain ⟨k, hk, rfl, rfl, hB⟩ := hrel
      generalize wr = W1 at *
      by_cases hlt : k < NL
      · have hlti : (k : Int) < (NL : Int) := by omega
        have hkL : k < Ls.length := by rw [HNL.out]; exact hlt
        obtain ⟨b, off, rfl, hb, -, -, -, a', c', hc, hrd⟩ := (HR W1 hB).at k hkL
        have e1 := htk k hkL
        have e2 := htl (k + 1)
        obtain ⟨T1, hT1⟩ : ∃ T1, tot (Ls.take k) = T1 := ⟨_, rfl⟩
        obtain ⟨L1, hL1⟩ : ∃ L1, Ls[k].length = L1 := ⟨_, rfl⟩
        rw [hT1, hL1] at e1
        rw [hL1] at hc
        rw [hT1]
        have HE : Hid (tot (Ls.take (k + 1)) = T1 + L1) := e1
        have hb1 : T1 + L1 ≤ 2000 := by omega
        have g1 : ¬ (T1 : Int) + (L1 : Int) < 0 := by omega
        have w1 : IntKind.i64.wrap ((T1 : Int) + (L1 : Int)) = (T1 : Int) + (L1 : Int) := by rw [IntKind.wrap_i64]; omega
        clear e1 e2 hT1 hL1 htk htl hrd HR
        go_wp2_with fail
        go_roundw
        case rel => exact ⟨k + 1, by omega, by go_num, by rw [HE.out]; go_num, hB⟩
        case measure => simp [intOf]; omega
      · obtain rfl : k = NL := by omega
        have hlti : ¬ (k : Int) < (k : Int) := by omega
        have htk2 : Ls.take k = Ls := List.take_of_length_le (by rw [HNL.out]; exact Nat.le_refl _)
        rw [htk2]
        go_wp2_with fail
        go_meet
        case rel => exact ⟨rfl, hB⟩
  case rest =>
    obtain ⟨rfl, hB⟩ := hcut
    generalize wc = W1 at *
    have HC := grow_any (tot Ls) W1 ht
    obtain ⟨TT, hTT⟩ : ∃ TT, tot Ls = TT := ⟨_, rfl⟩
    rw [hTT] at HC ht ⊢
    have HTT : Hid (tot Ls = TT) := hTT
    clear hTT htk
    go_wp2_with fail
    refine HC.mono ?_
    rintro e w2 ⟨v2, rfl, hO2, hB2⟩
    have hB3 : Below w.heap.size w w2 := hB.trans (hB2.mono hB.size)
    have hO3 := hO2.mono hB.size
    clear HC hO2 hB2
    go_wp2_with fail
    go_loopw [6, 27] (fun vo vi wr => ∃ k : Nat, k ≤ NL ∧ vi = .int .i64 k ∧ Own wr w.heap.size vo (Ls.take k).flatten ∧ Below w.heap.size w wr) (fun _ vi _ => NL - (intOf vi).toNat)
    case atStart => exact ⟨0, Nat.zero_le _, rfl, by simpa using hO3, hB3⟩
    case round =>
      obtain ⟨k, hk, rfl, hO4, hB4⟩ := hrel
      generalize wr = W2 at *
      by_cases hlt : k < NL
      · have hlti : (k : Int) < (NL : Int) := by omega
        have hkL : k < Ls.length := by rw [HNL.out]; exact hlt
        obtain ⟨b, off, rfl, hb, -, -, -, a', c', hc, hrd⟩ := (HR W2 hB4).at k hkL
        have hfl : (Ls.take (k + 1)).flatten = (Ls.take k).flatten ++ Ls[k] := by rw [List.take_succ_eq_append_getElem hkL, List.flatten_append, List.flatten_cons, List.flatten_nil, List.append_nil]
        have hfn : (Ls.take (k + 1)).flatten.length ≤ 2000 := by
          have := htl (k + 1)
          rw [tot_flat]
          have := HTT.out
          omega
        rw [hfl, List.length_append] at hfn
        have HFL : Hid ((Ls.take (k + 1)).flatten = (Ls.take k).flatten ++ Ls[k]) := hfl
        obtain ⟨oa, oc, rfl⟩ := hO4.form
        have hrd1 := hrd.1
        obtain ⟨LK, hLK⟩ : ∃ LK, Ls[k] = LK := ⟨_, rfl⟩
        rw [hLK] at hfn HFL hc hrd1
        obtain ⟨F, hF⟩ : ∃ F, (Ls.take k).flatten = F := ⟨_, rfl⟩
        rw [hF] at hO4 hfn HFL ⊢
        obtain ⟨L1, hL1⟩ : ∃ L1, LK.length = L1 := ⟨_, rfl⟩
        rw [hL1] at hc hrd1 hfn
        have HL1 : Hid (LK.length = L1) := hL1
        have hz4 := hB4.size
        clear hfl hLK hF htl hrd HR hL1
        go_wp2_with (at_builtin; refine wpList_append_rg rfl _ _ 22 rfl Try.underlying22 w.heap.size _ _ F LK (F.length + L1) (by rw [HL1.out]) rfl rfl hO4 hrd1 (by omega) hz4 ?_; intro a5 c5 w5 hO5 hg5)
        have hB5 : Below w.heap.size w w5 := hB4.trans (gb_to hg5 (fun j hj => (hO4.lt j hj).1) hz4)
        go_roundw
        case rel => exact ⟨k + 1, by omega, by go_num, by rw [HFL.out]; exact hO5, hB5⟩
        case measure => simp [intOf]; omega
      · obtain rfl : k = NL := by omega
        have hlti : ¬ (k : Int) < (k : Int) := by omega
        have htk2 : Ls.take k = Ls := List.take_of_length_le (by rw [HNL.out]; exact Nat.le_refl _)
        rw [htk2] at hO4
        go_wp2_with fail
        go_ret
        exact ⟨_, rfl, hO4, hB4⟩
end Go.Proofs.Ytlnekedehalbdaa
