import Derived.Test.YtnpjlmnhailipaaRoI
import Derived.Deep.AppendLies
namespace Go.Proofs.Ytnpjlmnhailipaa
open Go.RowKit Go.Maps
set_option linter.unusedVariables false
set_option linter.unusedSimpArgs false

noncomputable def d0D : Dt := ⟨tabOf 8 [], [], 0⟩
noncomputable def stK (ops : List Op) : Nat → Dt
  | 0 => d0D
  | k + 1 => (runD (stK ops k) (ops.getD k ⟨0, 0, 0, 0⟩)).1
noncomputable def outK (ops : List Op) (k : Nat) : List Int := (List.range k).map fun i => (runD (stK ops i) (ops.getD i ⟨0, 0, 0, 0⟩)).2
theorem outK_length (ops : List Op) (k : Nat) : (outK ops k).length = k := by simp [outK]
theorem outK_succ (ops : List Op) (k : Nat) (hk : k < ops.length) : outK ops (k + 1) = outK ops k ++ [(runD (stK ops k) ops[k]).2] := by
  simp [outK, List.range_succ, List.getD, hk]
theorem stK_succ (ops : List Op) (k : Nat) (hk : k < ops.length) : stK ops (k + 1) = (runD (stK ops k) ops[k]).1 := by
  simp [stK, List.getD, hk]
theorem d0_ok : OkD d0D := by
  refine ⟨⟨3, by decide, by decide, tabK_length _ _ _⟩, by simp [d0D], by simp [d0D], by simp [d0D, livN], ?_, by simp [d0D, lv]⟩
  show tabOf 8 [] = tabOf (tabOf 8 []).length []
  rw [show (tabOf 8 []).length = 8 from tabK_length _ _ _]
theorem OkD.run {d : Dt} (hok : OkD d) (ho : ∀ e ∈ d.e, shE.ok e) (o : Op) (h : shO.ok o) : OkD (runD d o).1 := by
  unfold runD
  split
  · exact hok.put ho _ _ _ h.2.1.1 h.2.1.2
  · split
    · exact hok
    · split
      · exact hok.cut _ _ h.2.1.1 h.2.1.2
      · split
        · exact hok
        · split <;> exact hok
theorem run_rng {d : Dt} (hok : OkD d) (ho : ∀ e ∈ d.e, shE.ok e) (o : Op) (h : shO.ok o) : -9223372036854775808 ≤ (runD d o).2 ∧ (runD d o).2 < 9223372036854775808 := by
  obtain ⟨m, hm3, hm, ht, hl, hs, hroom⟩ := hok.tab
  have hsz := sz_le hm
  have hv := fnd_val hok o.h o.k h.2.1.1 h.2.1.2
  obtain ⟨j, hj, hF⟩ := tab_fd (m := m) (es := d.e) hl o.h o.k (by have := h.2.1.1; have := h.2.1.2; omega)
  rw [← ht] at hF
  have hf2 : (fnd d o.h o.k).2 = (j : Int) + 1 := by simp only [fnd, hs, fdj_eq hF]
  unfold runD
  split
  · simp only; split <;> omega
  · split
    · simp only
      split
      · rename_i h0
        rcases hv with hv | ⟨_, hlt, _⟩
        · omega
        · rw [List.getD, List.getElem?_eq_getElem hlt]
          exact (ho _ (List.getElem_mem hlt)).2.2
      · omega
    · split
      · simp only; split <;> omega
      · split
        · simp only [hf2]; omega
        · split
          · simp only; omega
          · simp only; omega

/-- 'append(xs, x)' of ints, and where it lies. -/
theorem wpList_append_intL {w : World} {ops : Array Oper} {rest : List Oper} {o : Oper} {a : Act} {Q : Exit → Act → World → Prop} (hgd : o.guard = none) (s x : Operand) (t : TypeId)
    (ho : o.op = .call { callee := .builtin .append, args := #[s, x], argTypes := #[t, t] }) (ht : Try.prog.underlying t = some (.slice 2))
    (B : Nat) (v : Value) (xs : List Int) (y : Int) (hy : -9223372036854775808 ≤ y ∧ y < 9223372036854775808) (g c : Nat) (hs : a.eval s = v) (hx : a.eval x = .slice (some ⟨g, 0, none⟩) 1 c) (hown : Own w B v xs) (hc : w.cell? ⟨g, 0, none⟩ = some (.int .i64 y)) (hlen : xs.length + 1 ≤ 16777216) (hB : B ≤ w.heap.size)
    (h : ∀ b c' w', Own w' B (.slice (some ⟨b, 0, none⟩) (xs.length + 1) c') (xs ++ [y]) → w.grownBy w' v.ownBlock → (v.ownBlock = some b ∨ b = w.heap.size) → b < w'.heap.size → wpList Try.prog ops Q rest (a.put o.dst (.slice (some ⟨b, 0, none⟩) (xs.length + 1) c')) w') :
    wpList Try.prog ops Q (o :: rest) a w := by
  obtain ⟨i0, hi, hz0, hz1, hz2⟩ := info_parts Try.info2
  refine wpList_append_lies w hgd s x t ho B 2 i0 (.int .i64 0) 1 8 ht hi hz0 hz1 hz2 rfl (by decide) v _ _ hs hown.1 ⟨g, 0, none⟩ 1 c [.int .i64 y] hx (by simp) ?_ (by simp [Value.oneCell']) (by decide) (by unfold maxLen; omega) (by omega) hB _ rfl ?_
  · intro j u hj
    cases j with
    | zero => simp at hj; subst hj; simpa [Addr.add] using hc
    | succ j => simp at hj
  · intro b c' w' h1 h2 h3 h4
    exact h b c' w' ⟨by simpa using h1, by simpa using hlen, hown.2.2.append (Limbs.one hy.1 hy.2)⟩ h2 h3 h4

theorem Off.ofOwn {w : World} {g b B n c : Nat} {xs : List Int} {vs ve l : Value} (hO : Own w B (.slice (some ⟨b, 0, none⟩) n c) xs) (hB : Box3 w g vs ve l) (h1 : vs.ownBlock ≠ some b) : Off w g b := by
  refine ⟨fun vs' ve' l' h' => by obtain ⟨rfl, _⟩ := hB.uniq h'; exact h1, fun cur fz h => ?_⟩
  rcases hO.1.2 with ⟨e, _⟩ | ⟨g', cap, cur', e, _, hh, _⟩
  · cases e
  · simp at e
    obtain ⟨rfl, _, _⟩ := e
    rw [h] at hh
    simp at hh
theorem Own.keepAt {w w' : World} {B b n c : Nat} {xs : List Int} (hO : Own w B (.slice (some ⟨b, 0, none⟩) n c) xs) (h : w'.heap[b]? = w.heap[b]?) : Own w' B (.slice (some ⟨b, 0, none⟩) n c) xs := by
  obtain ⟨⟨h1, h2⟩, h3⟩ := hO
  refine ⟨⟨h1, ?_⟩, h3⟩
  rcases h2 with h2 | ⟨g', cap, cur, e, hg, hh, r⟩
  · exact .inl h2
  · have e' := e
    simp at e'
    obtain ⟨rfl, _, _⟩ := e'
    exact .inr ⟨_, cap, cur, e, hg, h.trans hh, r⟩
theorem MapAt.but {w w' : World} {g b : Nat} {d : Dt} (h : MapAt w g d) (hg : w.grownBy w' (some b)) (hn : b ≠ g) (ho : Off w g b) : MapAt w' g d := by
  obtain ⟨vs, ve, bM, oS, oE, hne, hfz⟩ := h
  have hn' : some g ≠ some b := fun e => hn (by simpa using e.symm)
  exact ⟨vs, ve, bM.but hg hn', oS.but hg (.inr (ho.1 _ _ _ bM)), oE.but hg (.inr (ho.ne oE)), hne, fun o => (World.frozen?_of_block (hg.block g bM.1 hn')).trans (hfz o)⟩

set_option maxRecDepth 100000 in
set_option maxHeartbeats 2000000 in
theorem runI_any (v : Value) (ops : List Op) (w : World) (hr : RdO w v ops) :
    Calls Try.prog 29 #[v] w fun e w' => ∃ u, e = .returned u ∧ Own w' w.heap.size u (if 5000 < ops.length then [] else outK ops ops.length) ∧ Below w.heap.size w w' := by
  obtain ⟨a, cap, rfl, hlx, hzx, hnx, hcx⟩ := id hr
  by_cases hb : 5000 < ops.length
  · rw [if_pos hb]
    have hb' : (5000 : Int) < (ops.length : Int) := by omega
    go_enter Try.func29, Try.ntmps29
    go_wp2_with fail
    go_ret
    exact ⟨_, rfl, Own.empty _, (Below.refl _ _).alloc (Nat.le_refl _) _⟩
  · rw [if_neg hb]
    have hb' : ¬ ((5000 : Int) < (ops.length : Int)) := by omega
    obtain ⟨i0, hi, hz0, hz1, hz2⟩ := info_parts Try.info2
    go_enter Try.func29, Try.ntmps29
    go_wp2_with fail
    refine (newOrdered_any _).mono ?_
    rintro e w1 ⟨rfl, b, hbb, bM, fM, oS, hB1⟩
    have hM1 : MapAt w1 w.heap.size d0D := ⟨_, _, bM, oS.mono (by omega), OwnG.nil _ _ _ _, .inr (by simp [Value.ownBlock]), fM⟩
    go_wp2_with (at_make; refine wpList_make_own _ rfl _ _ 22 rfl w1.heap.size 2 i0 _ 1 Try.underlying22 hi hz0 hz1 .i64 .i64 _ ops.length rfl rfl (by go_num) (by rw [hz2]; omega) (by unfold maxLen; omega) (by simp) ?_; intro w2 hown hgrow)
    have hB12 : Below w1.heap.size w1 w2 := gb_to hgrow (by intro k h; cases h) (Nat.le_refl _)
    have hM2 := hM1.keep hB12
    have bM2 := bM.keep hB12
    have hz1 := bM.1
    have hO2 : Own w2 w1.heap.size (.slice (some ⟨w1.heap.size, 0, none⟩) 0 ops.length) [] := ⟨hown, by simp, Limbs.nil⟩
    have hV2 : Below w.heap.size w w2 := hB1.trans (hB12.mono hB1.size)
    have hbl := (oS.lt b rfl).2
    have hOff2 : Off w2 w.heap.size w1.heap.size := Off.ofOwn hO2 bM2 (by simp [Value.ownBlock]; omega)
    have hz2 : w1.heap.size < w2.heap.size := (hO2.lt _ rfl).2
    clear hown hgrow hM1 bM fM oS hB1
    go_loopw [4, 17] (fun out i wr => ∃ (k b0 c0 : Nat), k ≤ ops.length ∧ i = .int .i64 k ∧ out = .slice (some ⟨b0, 0, none⟩) k c0 ∧ Own wr w.heap.size (.slice (some ⟨b0, 0, none⟩) k c0) (outK ops k) ∧ MapAt wr w.heap.size (stK ops k) ∧ OkD (stK ops k) ∧ b0 ≠ w.heap.size ∧ b0 < wr.heap.size ∧ Off wr w.heap.size b0 ∧ Below w.heap.size w wr) (fun _ i _ => ops.length - (intOf i).toNat)
    case atStart => exact ⟨0, _, _, Nat.zero_le _, rfl, rfl, by simpa [outK] using hO2.mono (B' := w.heap.size) (by omega), hM2, d0_ok, by omega, hz2, hOff2, hV2⟩
    case round =>
      obtain ⟨k, b0, c0, hk, rfl, rfl, hO, hM, hok, hn0, hb0, hoff, hBr⟩ := hrel
      clear hM2 bM2 hO2 hV2 hOff2 hB12
      by_cases hlt : k < ops.length
      · obtain ⟨b', off, rfl, hb'', hcell⟩ := hcx (by omega)
        obtain ⟨x0, x1, x2, x3⟩ := RdO.at (fun k hk j hj => (hBr.cell (p := ⟨b', _, none⟩) hb'').trans (hcell k hk j hj)) k hlt
        have hEok := hzx ops[k] (List.getElem_mem hlt)
        have hsK := stK_succ ops k hlt
        have hoK := outK_succ ops k hlt
        have heok : ∀ e ∈ (stK ops k).e, shE.ok e := by obtain ⟨_, _, _, _, oE, _⟩ := hM; exact oE.2.2
        have hok' := hok.run heok ops[k] hEok
        have hrg := run_rng hok heok ops[k] hEok
        have HR := fun W r => ranOn_any w.heap.size (stK ops k) ops[k] W r hok hEok
        have hlK := outK_length ops k
        generalize ops[k] = E at *
        generalize hRD : runD (stK ops k) E = RR at *
        obtain ⟨Rd', Ry⟩ := RR
        obtain ⟨Ec, Eh, Ek, Ev⟩ := E
        simp only [Op.val] at HR x0 x1 x2 x3 hsK hoK hok' hrg
        have HsK : Hid _ := hsK
        have HoK : Hid _ := hoK
        clear hsK hoK hRD hcell hcx
        generalize outK ops k = OK at *
        generalize stK ops k = SK at *
        subst hlK
        have hB3 : Below wr.heap.size wr (wr.alloc (.cells #[.int .i64 Ec, .int .u64 Eh, .int .i64 Ek, .int .i64 Ev] 59)) := (Below.refl _ _).alloc (Nat.le_refl _) _
        have hgw : w.heap.size < wr.heap.size := by obtain ⟨_, _, bb, _⟩ := hM; exact bb.1
        have hM3 := hM.keep hB3
        have hF3 : Fr wr _ w.heap.size := Fr.keep hB3 hgw
        obtain ⟨hs3, hoff3⟩ := hF3 b0 hb0 hn0 hoff
        go_wp2_with fail
        refine (HR _ hM3).mono ?_
        rintro e w3 ⟨rfl, hM4, hB4, hF4⟩
        obtain ⟨hs4, hoff4⟩ := hF4 b0 (by simp; omega) hn0 hoff3
        have hO4 := (hO.keepAt hs3).keepAt hs4
        have hV4 : Below w.heap.size w w3 := (hBr.trans (hB3.mono hBr.size)).trans hB4
        have hz4 : wr.heap.size + 1 ≤ w3.heap.size := by have := hB4.size; simpa using this
        have hB5 : Below w3.heap.size w3 (w3.alloc (.cells #[.int .i64 Ry] 2)) := (Below.refl _ _).alloc (Nat.le_refl _) _
        have hM5 := hM4.keep hB5
        obtain ⟨hs5, hoff5⟩ := (Fr.keep (g := w.heap.size) hB5 (by omega)) b0 (by omega) hn0 hoff4
        have hO5 := hO4.keepAt hs5
        have hV5 := hV4.trans (hB5.mono (by omega))
        have hcy : (w3.alloc (.cells #[.int .i64 Ry] 2)).cell? ⟨w3.heap.size, 0, none⟩ = some (.int .i64 Ry) := by rw [World.cell?_alloc_at _ _ _ _ rfl]; rfl
        clear x0 x1 x2 x3
        go_wp2_with (at_builtin; refine wpList_append_intL rfl _ _ 22 rfl Try.underlying22 w.heap.size _ OK Ry hrg w3.heap.size 1 rfl rfl hO5 hcy (by omega) (by simp; omega) ?_; intro b5 c5 w5 hO6 hg6 hb6 hbz6)
        have hb7 : b0 = b5 ∨ b5 = w3.heap.size + 1 := by
          rcases hb6 with h | h
          · exact .inl (Option.some.inj (show some b0 = some b5 from h))
          · exact .inr (by simpa using h)
        clear hb6
        have hM6 := hM5.but hg6 hn0 hoff5
        have hV6 : Below w.heap.size w w5 := hV5.grown hg6 hV5.size (fun k hk => by cases hk; exact (hO5.lt _ rfl).1)
        have hn6 : b5 ≠ w.heap.size := by
          rcases hb7 with h | h
          · omega
          · omega
        have hoff6 : Off w5 w.heap.size b5 := by
          obtain ⟨vs, ve, bM5, oS5, _⟩ := hM5
          have hn' : some w.heap.size ≠ some b0 := fun e => hn0 (by simpa using e.symm)
          refine Off.ofOwn hO6 (bM5.but hg6 hn') (fun e => ?_)
          rcases hb7 with h | h
          · subst h; exact hoff5.1 _ _ _ bM5 e
          · have := (oS5.lt _ e).2; simp at this; omega
        go_roundw
        case rel =>
          refine ⟨OK.length + 1, b5, c5, by omega, by go_num, rfl, ?_, ?_, ?_, hn6, hbz6, hoff6, hV6⟩
          · rw [HoK.out]; exact hO6
          · rw [HsK.out]; exact hM6
          · rw [HsK.out]; exact hok'
        case measure => simp [intOf]; omega
      · obtain rfl : k = ops.length := by omega
        go_wp2_with fail
        go_ret
        exact ⟨_, rfl, hO, hBr⟩
end Go.Proofs.Ytnpjlmnhailipaa
