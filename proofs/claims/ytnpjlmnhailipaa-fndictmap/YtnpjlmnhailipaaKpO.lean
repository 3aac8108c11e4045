import Derived.Test.YtnpjlmnhailipaaKpR
import Derived.Test.YtnpjlmnhailipaaKpM
import Derived.Test.YtnpjlmnhailipaaCpy
import Derived.BigQuiet
import Derived.Deep.RegionHeld3
namespace Go.Proofs.Ytnpjlmnhailipaa
open Go.RowKit Go.Maps
set_option linter.unusedVariables false
set_option linter.unusedSimpArgs false

theorem bigM_any (w : World) (a : Option Addr) (n c : Nat) :
    Calls Try.prog 35 #[.slice a n c] w fun e w' => e = .returned (.bool (decide ((1048576 : Int) < (n : Int)))) ∧ w' = w := by
  go_enter Try.func35, Try.ntmps35
  go_wp2
  go_ret
  exact ⟨by simp, rfl⟩
theorem below_dM {B : Nat} {a w : World} (h : Below B a w) (n : Nat) : Below B a (w.drewN n) := h.trans ⟨rfl, rfl, rfl, Nat.le_refl _, fun _ _ => rfl⟩
theorem RdG.take {α : Type} {S : Sh α} {w : World} {a : Option Addr} {n c : Nat} {xs : List α} (h : RdG S w (.slice a n c) xs) (m : Nat) (hm : m ≤ xs.length) : RdG S w (.slice a m c) (xs.take m) := by
  obtain ⟨a', c', e, hl, hz, hn, hc⟩ := h
  simp only [Value.slice.injEq] at e
  obtain ⟨rfl, _, rfl⟩ := e
  have hlen : (xs.take m).length = m := by simp; omega
  refine ⟨a, c, by rw [hlen], by omega, fun x hx => hz x (List.mem_of_mem_take hx), ⟨by omega, hn.2⟩, fun h0 => ?_⟩
  obtain ⟨b, off, e, hb, hcell⟩ := hc (by omega)
  exact ⟨b, off, e, hb, fun k hk j hj => by rw [List.getElem_take]; exact hcell k (by omega) j hj⟩

theorem RdG.drop {α : Type} {S : Sh α} {w : World} {b off n c : Nat} {xs : List α} (h : RdG S w (.slice (some ⟨b, off, none⟩) n c) xs) (m : Nat) (hm : m ≤ xs.length) : RdG S w (.slice (some ⟨b, off + m * S.n, none⟩) (n - m) (c - m)) (xs.drop m) := by
  obtain ⟨a', c', e, hl, hz, hn, hc⟩ := h
  simp only [Value.slice.injEq] at e
  obtain ⟨rfl, e2, rfl⟩ := e
  refine ⟨_, _, by rw [List.length_drop, e2], by rw [List.length_drop]; omega, fun x hx => hz x (List.mem_of_mem_drop hx), ⟨by rw [List.length_drop]; omega, fun h => by cases h⟩, fun h0 => ?_⟩
  rw [List.length_drop] at h0
  obtain ⟨b', off', e, hb, hcell⟩ := hc (by omega)
  simp only [Option.some.injEq, Addr.mk.injEq, and_true] at e
  obtain ⟨rfl, rfl⟩ := e
  refine ⟨_, _, rfl, hb, fun k hk j hj => ?_⟩
  rw [List.length_drop] at hk
  rw [List.getElem_drop, ← hcell (m + k) (by omega) j hj, Nat.add_mul, Nat.add_assoc off]
theorem RdG.none0 {α : Type} {S : Sh α} {w : World} (ad : Addr) (c : Nat) : RdG S w (.slice (some ad) 0 c) [] := ⟨some ad, c, rfl, by simp, by simp, ⟨Nat.zero_le _, fun h => by cases h⟩, fun h => by simp at h⟩

/-- 'append(xs, ys...)' of rows of structs. -/
theorem wpList_append_rdG {α : Type} {S : Sh α} {T : TypeId} {zv : Value} {by' : Nat} (hinfo : (Try.prog.info? T).map (fun i => (i.zero, i.size, i.bytes)) = some (some zv, S.n, by')) (hzc : zv.cells.size = S.n) (hby : by' ≤ 64)
    {w : World} {ops : Array Oper} {rest : List Oper} {o : Oper} {a : Act} {Q : Exit → Act → World → Prop} (hgd : o.guard = none) (s x : Operand) (t : TypeId)
    (ho : o.op = .call { callee := .builtin .append, args := #[s, x], argTypes := #[t, t] }) (ht : Try.prog.underlying t = some (.slice T)) (B : Nat) (v u : Value) (xs ys : List α) (hs : a.eval s = v) (hx : a.eval x = u)
    (hown : OwnG S T w B v xs) (hr : RdG S w u ys) (hlen : xs.length + ys.length ≤ 16777216) (hB : B ≤ w.heap.size)
    (h : ∀ a' c' w', OwnG S T w' B (.slice a' (xs ++ ys).length c') (xs ++ ys) → w.grownBy w' v.ownBlock → wpList Try.prog ops Q rest (a.put o.dst (.slice a' (xs ++ ys).length c')) w') :
    wpList Try.prog ops Q (o :: rest) a w := by
  have hw : Region.wanted o (yielded ops a.tmps) = true := by simp [Region.wanted, hgd]
  have h1 := step_append_rdG (E := False) (ops := ops) (Q := Q) hinfo hzc hby hgd s x t ho ht B v u xs ys hs hx hown hr hlen hB h
  rw [if_pos hw] at h1
  simp only [wpList]
  rw [if_pos hw]
  exact .inl h1

set_option maxRecDepth 100000 in
set_option maxHeartbeats 2000000 in
theorem law_dictmap (a : Option Addr) (n c : Nat) (bs : List Int) (w : World) (hn : n ≤ 9223372036854775807) (h : n ≤ 1048576 → Src w a n c bs) :
    Calls Try.prog 9 #[.slice a n c] w fun e w' => e = .returned (.bool true) ∧ Below w.heap.size w w' := by
  go_enter Try.func9, Try.ntmps9
  go_wp2_with fail
  refine (bigM_any w a n c).mono ?_
  rintro e w1 ⟨rfl, rfl⟩
  by_cases hb : (1048576 : Int) < (n : Int)
  · rw [decide_eq_true hb]
    go_wp2
    go_ret
    exact ⟨rfl, Below.refl _ _⟩
  rw [decide_eq_false hb]
  have hs := h (by omega)
  clear h hb hn
  go_wp2_with fail
  refine (drawDictRun_any _ a n c bs hs).mono ?_
  rintro e w2 ⟨oa, oc, ops0, rfl, hol, hO, V2⟩
  have R0 := hO.rd
  clear hs
  go_upto_if 17 with fail
  go_cut [3] from 11 (fun v wc => wc = w2 ∧ ∃ (M : Nat) (ops : List Op), v = .slice oa M oc ∧ M = ops.length ∧ M ≤ 3000 ∧ RdO w2 (.slice oa M oc) ops)
  case first =>
    by_cases h3 : ops0.length ≤ 3000
    · have hg : decide ((3000 : Int) < (ops0.length : Int)) = false := by simp; omega
      go_wp2_with fail
      go_meet
      case rel => exact ⟨rfl, _, ops0, rfl, rfl, h3, R0⟩
    · have hg : decide ((3000 : Int) < (ops0.length : Int)) = true := by simp; omega
      have R1 := R0.take 3000 (by omega)
      obtain ⟨x1, x2, x3, x4, x5, x6, x7⟩ := id R0
      simp only [Value.slice.injEq, true_and] at x3
      have hcap : (3000 : Int) ≤ (oc : Int) := by omega
      clear x3 x4 x5 x6 x7
      go_wp2_with fail
      go_meet
      case rel => exact ⟨rfl, 3000, ops0.take 3000, rfl, by simp; omega, by omega, R1⟩
  case rest =>
    obtain ⟨hwc, M, ops, rfl, hM, hM3, R1⟩ := hcut
    have e0 := hwc.symm
    subst e0
    clear R0 hO hol
    have HM : Hid (M = ops.length) := hM
    have hM5 : ops.length ≤ 3000 := by omega
    clear hM
    have V3 : Below w2.heap.size w2 (w2.alloc (.cells #[] 59)) := (Below.refl _ w2).alloc (Nat.le_refl _) _
    have R3 := R1.keep V3
    have O3 := OwnG.empty shO 59 w2 w2.heap.size rfl w2.heap.size (Nat.le_refl _)
    go_wp2_with (at_builtin; refine wpList_append_rdG (S := shO) Try.info59 rfl (by omega) rfl _ _ 48 rfl Try.underlying48 w2.heap.size _ _ [] ops rfl rfl O3 R3 (by simp; omega) V3.size ?_; intro a' c' w' hO' hg')
    have HO1 : OwnG shO 59 w' w2.heap.size (.slice a' ([] ++ ops).length c') ops := hO'
    have B4 : Below w2.heap.size w2 w' := V3.trans (gb_to hg' (fun k hk => by cases hk; exact Nat.le_refl _) V3.size)
    have R4 := R1.keep B4
    have V4 := V2.trans (B4.mono V2.size)
    clear hg' V3 R3 O3 B4
    refine (runI_any _ ops _ HO1.rd).mono ?_
    rintro e w4 ⟨u, rfl, hU, hB4⟩
    rw [if_neg (by omega)] at hU
    have R5 := R4.keep hB4
    have V5 := V4.trans (hB4.mono V4.size)
    have U5 := hU.rd
    have hUl : (outK ops ops.length).length = M := by rw [outK_length]; exact HM.out.symm
    obtain ⟨ua, uc, eu⟩ := hU.form
    rw [hUl] at eu
    subst eu
    have V6 : Below w4.heap.size w4 (w4.alloc (.cells #[] 59)) := (Below.refl _ w4).alloc (Nat.le_refl _) _
    have O6 := OwnG.empty shO 59 w4 w4.heap.size rfl w4.heap.size (Nat.le_refl _)
    have hMi : (M : Int) ≤ 3000 := by omega
    clear hO' HO1 R4 V4 hB4 hU V2 R1 hwc
    have h0ok := d0_ok
    go_wp2_with fail
    go_loopw [5, 6] (fun v i wr => ∃ (k : Nat) (L : List Op), i = .int .i64 k ∧ k ≤ M ∧ L.length ≤ k ∧ OwnO 59 wr w4.heap.size v L ∧ Below w4.heap.size w4 wr ∧ Hid (Sim (stK ops k) L ∧ OkD (stK ops k) ∧ ∀ e ∈ (stK ops k).e, shE.ok e)) (fun _ i _ => M - (intOf i).toNat)
    case atStart => exact ⟨0, [], rfl, Nat.zero_le _, by simp, O6, V6, ⟨Sim.new, h0ok, by simp [stK, d0D]⟩⟩
    case round =>
      obtain ⟨k, L, rfl, hk, hLk, hO, hB, hH⟩ := hrel
      clear O6 V6 h0ok
      by_cases hlt : k < M
      · have hlto : k < ops.length := by rw [← HM.out]; exact hlt
        have hki : (k : Int) < (M : Int) := by omega
        obtain ⟨oa', oc', eo, _, hzx, _, hcx⟩ := R5.keep hB
        simp only [Value.slice.injEq] at eo
        obtain ⟨e1, -, e3⟩ := eo
        subst e1 e3
        obtain ⟨b', off, rfl, hb'', hcell⟩ := hcx (by omega)
        obtain ⟨x0, x1, x2, x3⟩ := RdO.at hcell k hlto
        have hEok := hzx ops[k] (List.getElem_mem hlto)
        obtain ⟨hS, hok, heo⟩ := hH.out
        have hst := hS.step hok heo ops[k] hEok (by rw [hS.live]; omega)
        have hok' := hok.run heo ops[k] hEok
        have heo' := run_eok heo ops[k] hEok
        have hsK := stK_succ ops k hlto
        rw [← hsK] at hst hok' heo'
        have hnl := nextL_len L ops[k]
        obtain ⟨ua', uc', eu, _, _, _, hcu⟩ := U5.keep hB
        simp only [Value.slice.injEq] at eu
        obtain ⟨e1, -, e3⟩ := eu
        subst e1 e3
        obtain ⟨ub, uoff, rfl, hub, hucell⟩ := hcu (by rw [hUl]; omega)
        have hg0 := hucell k (by rw [hUl]; omega)
        rw [outK_get ops _ k hlto hlto] at hg0
        have hubl : ub < w4.heap.size := by
          obtain ⟨_, _, eu, _, _, _, hcu⟩ := U5
          simp only [Value.slice.injEq] at eu
          obtain ⟨e1, -, e3⟩ := eu
          subst e1 e3
          obtain ⟨_, _, e4, h5, _⟩ := hcu (by rw [hUl]; omega)
          simp only [Option.some.injEq, Addr.mk.injEq] at e4
          omega
        generalize ops[k] = E at *
        obtain ⟨Ec, Eh, Ek, Ev⟩ := E
        simp only at x0 x1 x2 x3 hst hsK
        obtain ⟨hst0, hst1, hst2, hst3, hst4, hst5, hst6⟩ := hst
        have HN : Hid (Sim (stK ops (k + 1)) (nextL L ⟨Ec, Eh, Ek, Ev⟩) ∧ OkD (stK ops (k + 1)) ∧ ∀ e ∈ (stK ops (k + 1)).e, shE.ok e) := ⟨hst0, hok', heo'⟩
        generalize (runD (stK ops k) ⟨Ec, Eh, Ek, Ev⟩).2 = Ry at *
        clear hcell hcx hucell hcu hS hok heo hok' heo' hsK hst0 hH hzx
        have Hst1 : Hid (Ec = 1 → Ry = 1) := hst1
        have Hst2 : Hid _ := hst2
        have Hst3 : Hid _ := hst3
        have Hst4 : Hid _ := hst4
        have Hst5 : Hid _ := hst5
        have Hst6 : Hid _ := hst6
        clear hst1 hst2 hst3 hst4 hst5 hst6
        obtain ⟨va, vc, hv⟩ := hO.form
        obtain ⟨LN, hLN⟩ : ∃ LN, L.length = LN := ⟨_, rfl⟩
        have HLN : Hid (L.length = LN) := hLN
        rw [hLN] at hv hLk hnl
        subst hv
        have hA0 : Below wr.heap.size wr (wr.alloc (.cells #[.int .i64 Ec, .int .u64 Eh, .int .i64 Ek, .int .i64 Ev] 59)) := (Below.refl _ _).alloc (Nat.le_refl _) _
        have hOb := hO.keep hA0
        have hgb : (wr.alloc (.cells #[.int .i64 Ec, .int .u64 Eh, .int .i64 Ek, .int .i64 Ev] 59)).cell? ⟨ub, uoff + k, none⟩ = some (.int .i64 Ry) := (hA0.cell (p := ⟨ub, _, none⟩) hub).trans hg0
        have hBb := hB.trans (hA0.mono hB.size)
        have hwl := hB.size
        clear hLN
        go_wp2_with fail
        have z0 : (wr.alloc (.cells #[.int .i64 Ec, .int .u64 Eh, .int .i64 Ek, .int .i64 Ev] 59)).cell? ⟨wr.heap.size, 0, none⟩ = some (.int .i64 Ec) := by rw [World.cell?_alloc_at _ _ _ _ rfl]; rfl
        have z1 : (wr.alloc (.cells #[.int .i64 Ec, .int .u64 Eh, .int .i64 Ek, .int .i64 Ev] 59)).cell? ⟨wr.heap.size, 1, none⟩ = some (.int .u64 Eh) := by rw [World.cell?_alloc_at _ _ _ _ rfl]; rfl
        have z2 : (wr.alloc (.cells #[.int .i64 Ec, .int .u64 Eh, .int .i64 Ek, .int .i64 Ev] 59)).cell? ⟨wr.heap.size, 2, none⟩ = some (.int .i64 Ek) := by rw [World.cell?_alloc_at _ _ _ _ rfl]; rfl
        have z3 : (wr.alloc (.cells #[.int .i64 Ec, .int .u64 Eh, .int .i64 Ek, .int .i64 Ev] 59)).cell? ⟨wr.heap.size, 3, none⟩ = some (.int .i64 Ev) := by rw [World.cell?_alloc_at _ _ _ _ rfl]; rfl
        have hbz : wr.heap.size < (wr.alloc (.cells #[.int .i64 Ec, .int .u64 Eh, .int .i64 Ek, .int .i64 Ev] 59)).heap.size := by simp
        generalize wr.alloc (.cells #[.int .i64 Ec, .int .u64 Eh, .int .i64 Ek, .int .i64 Ev] 59) = wb at *
        clear x0 x1 x2 x3 hg0 hO hA0 hB
        obtain ⟨P0, hP0⟩ : ∃ P0, wr.heap.size = P0 := ⟨_, rfl⟩
        rw [hP0] at z0 z1 z2 z3 hbz hwl
        try rw [hP0]
        clear hP0
        go_loopw [8, 9] (fun at' kk wq => ∃ j : Nat, j ≤ LN ∧ kk = .int .i64 j ∧ at' = .int .i64 (atK L Eh Ek j) ∧ Below wb.heap.size wb wq) (fun _ kk _ => LN - (intOf kk).toNat)
        case atStart => exact ⟨0, Nat.zero_le _, rfl, rfl, Below.refl _ _⟩
        case round =>
          obtain ⟨j, hj, rfl, rfl, hBq⟩ := hrel
          have hOq := hOb.keep hBq
          have z0q := (hBq.cell (p := ⟨P0, 0, none⟩) hbz).trans z0
          have z1q := (hBq.cell (p := ⟨P0, 1, none⟩) hbz).trans z1
          have z2q := (hBq.cell (p := ⟨P0, 2, none⟩) hbz).trans z2
          have z3q := (hBq.cell (p := ⟨P0, 3, none⟩) hbz).trans z3
          have hgq := (hBq.cell (p := ⟨ub, uoff + k, none⟩) (by have := hBb.size; show ub < _; omega)).trans hgb
          have hBw := hBb.trans (hBq.mono hBb.size)
          clear z0 z1 z2 z3 hgb hOb hBb
          by_cases hjl : j < LN
          · have hji : (j : Int) < (LN : Int) := by omega
            have hjL : j < L.length := by rw [HLN.out]; exact hjl
            obtain ⟨e1, e2⟩ | ⟨g, gc, e1, hgB, hgz, hgl⟩ := hOq.shape
            · exact absurd hjL (by rw [e2]; simp)
            simp only [Value.slice.injEq] at e1
            obtain ⟨e1, -, e3⟩ := e1
            subst e1 e3
            have y1 : wr.cell? ⟨g, j * 4 + 1, none⟩ = some (.int .u64 L[j].h) := hOq.cell j hjL 1 (by decide)
            have y2 : wr.cell? ⟨g, j * 4 + 2, none⟩ = some (.int .i64 L[j].k) := hOq.cell j hjL 2 (by decide)
            have hat := atK_succ L Eh Ek j hjL
            generalize L[j].h = Lh at *
            generalize L[j].k = Lk at *
            have Hat : Hid _ := hat
            clear hat
            by_cases c1 : Lh = Eh
            · by_cases c2 : Lk = Ek
              · have d1 : (Lh == Eh) = true := by simp [c1]
                have d2 : (Lk == Ek) = true := by simp [c2]
                have Hc : Hid (Lh = Eh ∧ Lk = Ek) := ⟨c1, c2⟩
                clear c1 c2
                go_wp2_with fail
                go_quiet (fail)
                go_wp2_with fail
                go_roundw
                case rel => exact ⟨j + 1, by omega, by go_num, by rw [Hat.out, if_pos Hc.out], below_dM hBq _⟩
                case measure => simp [intOf]; omega
              · have d1 : (Lh == Eh) = true := by simp [c1]
                have d2 : (Lk == Ek) = false := by simp [c2]
                have Hc : Hid (¬ (Lh = Eh ∧ Lk = Ek)) := (fun h => c2 h.2)
                clear c1 c2
                go_wp2_with fail
                go_quiet (fail)
                go_wp2_with fail
                go_roundw
                case rel => exact ⟨j + 1, by omega, by go_num, by rw [Hat.out, if_neg Hc.out], below_dM hBq _⟩
                case measure => simp [intOf]; omega
            · have d1 : (Lh == Eh) = false := by simp [c1]
              have Hc : Hid (¬ (Lh = Eh ∧ Lk = Ek)) := (fun h => c1 h.1)
              clear c1
              go_wp2_with fail
              go_quiet (fail)
              go_wp2_with fail
              go_roundw
              case rel => exact ⟨j + 1, by omega, by go_num, by rw [Hat.out, if_neg Hc.out], below_dM hBq _⟩
              case measure => simp [intOf]; omega
          · obtain rfl : LN = j := by omega
            have har := atK_range L Eh Ek LN
            have hn0 : nextL L ⟨Ec, Eh, Ek, Ev⟩ = if Ec = 1 then (if 0 ≤ atK L Eh Ek LN then L.set (atK L Eh Ek LN).toNat { L.getD (atK L Eh Ek LN).toNat ⟨0, 0, 0, 0⟩ with v := Ev } else L ++ [⟨Ec, Eh, Ek, Ev⟩]) else if Ec = 3 then (if 0 ≤ atK L Eh Ek LN then L.eraseIdx (atK L Eh Ek LN).toNat else L) else L := by
              unfold nextL
              simp only [HLN.out]
            have Hn0 : Hid _ := hn0
            clear hn0
            rw [HLN.out] at Hst2 Hst3
            generalize atK L Eh Ek LN = A at *
            have hsz := hBw.size
            have hwz : w4.heap.size ≤ wb.heap.size := by omega
            clear hjl hj
            by_cases k1 : Ec = 1
            · subst k1
              obtain rfl := Hst1.out rfl
              by_cases hA : 0 ≤ A
              · obtain ⟨p, rfl⟩ : ∃ p : Nat, A = p := ⟨A.toNat, by omega⟩
                have hpL : p < L.length := by rw [HLN.out]; omega
                have hpi : (p : Int) < (LN : Int) := by omega
                obtain ⟨e1, e2⟩ | ⟨g, gc, e1, hgB, hgz, hgl⟩ := hOq.shape
                · exact absurd hpL (by rw [e2]; simp)
                simp only [Value.slice.injEq] at e1
                obtain ⟨e1, -, e3⟩ := e1
                subst e1 e3
                have y3 : wr.cell? ⟨g, p * 4 + 3, none⟩ = some (.int .i64 L[p].v) := hOq.cell p hpL 3 (by decide)
                have hfr := hOq.frozen (p * 4 + 3)
                have hLo := hOq.2.2 L[p] (List.getElem_mem hpL)
                have hO2 := hOq.put p hpL 3 (by decide) (.int .i64 Ev) { L[p] with v := Ev } ⟨hLo.1, hLo.2.1, hLo.2.2.1, hEok.2.2.2⟩ rfl
                have hg2 : (wr.setCell ⟨g, p * 4 + 3, none⟩ (.int .i64 Ev)).cell? ⟨ub, uoff + k, none⟩ = some (.int .i64 1) := by
                  rw [World.cell?_setCell_far _ _ _ _ (by show g ≠ ub; omega)]; exact hgq
                have hB2 := below_set (o := p * 4 + 3) hBw (show w4.heap.size ≤ wr.heap.size by omega) hgB (.int .i64 Ev)
                go_wp2_with fail
                go_roundw
                case rel => exact ⟨k + 1, L.set p { L[p] with v := Ev }, by go_num, by omega, by rw [List.length_set, HLN.out]; omega, hO2, hB2, by have := HN.out; rw [Hn0.out, if_pos rfl, if_pos hA] at this; simp [List.getD, hpL] at this; exact this⟩
                case measure => simp [intOf]; omega
              · have hAf : ¬ 0 ≤ A := hA
                have hEo : shO.ok ⟨1, Eh, Ek, Ev⟩ := hEok
                go_wp2_with (at_builtin; refine wpList_append_one (S := shO) Try.info59 rfl (by omega) rfl _ _ 48 rfl Try.underlying48 w4.heap.size _ L (⟨1, Eh, Ek, Ev⟩ : Op) hEo wr.heap.size 1 rfl rfl (hOq.alloc _) (op_new _ (⟨1, Eh, Ek, Ev⟩ : Op) _ _ (by simp)) (by have := HLN.out; omega) (by simp; omega) ?_; intro a2 c2 w5 hO5 hg5; have hB5 : Below w4.heap.size w4 w5 := (hBw.alloc hsz _).trans (gb_to hg5 (fun j hj => (hOq.lt j hj).1) (by simp; omega)); have hg6 : w5.cell? ⟨ub, uoff + k, none⟩ = some (.int .i64 1) := ((gb_to (B := w4.heap.size) hg5 (fun j hj => (hOq.lt j hj).1) (by simp; omega)).cell (p := ⟨ub, uoff + k, none⟩) hubl).trans ((((Below.refl _ wr).alloc (Nat.le_refl _) (.cells #[.int .i64 1, .int .u64 Eh, .int .i64 Ek, .int .i64 Ev] 59)).cell (p := ⟨ub, uoff + k, none⟩) (by show ub < _; omega)).trans hgq))
                go_roundw
                case rel => exact ⟨k + 1, L ++ [(⟨1, Eh, Ek, Ev⟩ : Op)], by go_num, by omega, by rw [List.length_append, HLN.out]; simp; omega, by simpa using hO5, hB5, by have := HN.out; rw [Hn0.out, if_pos rfl, if_neg hA] at this; exact this⟩
                case measure => simp [intOf]; omega
            by_cases k2 : Ec = 2
            · subst k2
              have hRy := Hst2.out rfl
              by_cases hA : 0 ≤ A
              · obtain ⟨p, rfl⟩ : ∃ p : Nat, A = p := ⟨A.toNat, by omega⟩
                have hpL : p < L.length := by rw [HLN.out]; omega
                have hpi : (p : Int) < (LN : Int) := by omega
                obtain ⟨e1, e2⟩ | ⟨g, gc, e1, hgB, hgz, hgl⟩ := hOq.shape
                · exact absurd hpL (by rw [e2]; simp)
                simp only [Value.slice.injEq] at e1
                obtain ⟨e1, -, e3⟩ := e1
                subst e1 e3
                have y3 : wr.cell? ⟨g, p * 4 + 3, none⟩ = some (.int .i64 L[p].v) := hOq.cell p hpL 3 (by decide)
                rw [if_pos hA] at hRy
                simp only [Int.toNat_natCast, List.getD, List.getElem?_eq_getElem hpL, Option.getD_some] at hRy
                rw [← hRy] at y3
                clear hRy
                go_wp2_with fail
                go_roundw
                case rel => exact ⟨k + 1, L, by go_num, by omega, by rw [HLN.out]; omega, hOq, hBw, by have := HN.out; rw [Hn0.out, if_neg (by decide), if_neg (by decide)] at this; exact this⟩
                case measure => simp [intOf]; omega
              · rw [if_neg hA] at hRy
                subst hRy
                go_wp2_with fail
                go_roundw
                case rel => exact ⟨k + 1, L, by go_num, by omega, by rw [HLN.out]; omega, hOq, hBw, by have := HN.out; rw [Hn0.out, if_neg (by decide), if_neg (by decide)] at this; exact this⟩
                case measure => simp [intOf]; omega
            by_cases k3 : Ec = 3
            · subst k3
              have hRy := Hst3.out rfl
              by_cases hA : 0 ≤ A
              · obtain ⟨p, rfl⟩ : ∃ p : Nat, A = p := ⟨A.toNat, by omega⟩
                have hpL : p < L.length := by rw [HLN.out]; omega
                have hpi : (p : Int) < (LN : Int) := by omega
                rw [if_pos hA] at hRy
                subst hRy
                obtain ⟨e1, e2⟩ | ⟨g, gc, e1, hgB, hgz, hgl⟩ := hOq.shape
                · exact absurd hpL (by rw [e2]; simp)
                simp only [Value.slice.injEq] at e1
                obtain ⟨e1, -, e3⟩ := e1
                subst e1 e3
                have O0 : OwnG shO 59 (wr.drew.alloc (.cells #[] 59)) wr.heap.size (.slice (some ⟨wr.heap.size, 0, none⟩) 0 0) [] := OwnG.empty shO 59 wr.drew wr.heap.size rfl wr.heap.size (Nat.le_refl _)
                have bA0 : Below wr.heap.size wr (wr.drew.alloc (.cells #[] 59)) := (Below.refl _ wr).drew.alloc (Nat.le_refl _) _
                have RA : RdO (wr.drew.alloc (.cells #[] 59)) (.slice (some ⟨g, 0, none⟩) p vc) (L.take p) := (hOq.rd.take p (by omega)).keep bA0
                have hpc : (p : Int) ≤ (vc : Int) := by have := HLN.out; omega
                have hpj : (p : Int) + 1 ≤ (LN : Int) := by omega
                have hlc : (LN : Int) ≤ (vc : Int) := by have := HLN.out; omega
                have hp0 : (0 : Int) ≤ (p : Int) + 1 := by omega
                have hwp : IntKind.i64.wrap ((p : Int) + 1) = (p : Int) + 1 := by rw [IntKind.wrap]; simp [IntKind.bits, IntKind.signed]; omega
                have hp9 : (0 : Int) ≤ (p : Int) := by omega
                have hp8 : (p : Int) ≤ (p : Int) + 1 := by omega
                have hll : L.length ≤ 3000 := by rw [HLN.out]; omega
                go_upto_region 35 with fail
                have hubz : ub < wr.heap.size := by omega
                by_cases hcp : vc = p + 1
                · subst hcp
                  obtain rfl : LN = p + 1 := by omega
                  have RB : RdO wr (.slice (some ⟨g, 0, none⟩) 0 0) (L.drop (p + 1)) := by
                    rw [List.drop_eq_nil_of_le (by rw [HLN.out]; exact Nat.le_refl _)]
                    exact RdG.none0 _ _
                  go_region_held3 (fun W => True) (go_keep)
                    (first
                      | (refine step_append_rdG (S := shO) Try.info59 rfl (by omega) rfl (.tmp 94) (.tmp 97) 48 rfl Try.underlying48 wr.heap.size _ _ [] (L.take p) rfl rfl O0 RA (by simp; omega) bA0.size ?_; intro aS cS wS oS gS; have VS : Below wr.heap.size wr wS := bA0.trans (gb_to (show World.grownBy _ wS (some wr.heap.size) from gS) (fun k hk => by cases hk; exact Nat.le_refl _) bA0.size))
                      | (refine step_append_rdG (S := shO) Try.info59 rfl (by omega) rfl (.tmp 98) (.tmp 102) 48 rfl Try.underlying48 wr.heap.size _ _ ([] ++ L.take p) (L.drop (p + 1)) rfl rfl oS (RB.keep VS) (by simp; omega) VS.size ?_; intro aT cT wT oT gT; have VT : Below wr.heap.size wr wT := VS.trans (gb_to gT (fun k hk => (oS.lt k hk).1) VS.size); have hgT := (VT.cell (p := ⟨ub, uoff + k, none⟩) hubz).trans hgq))
                  go_wp2_with fail
                  go_roundw
                  case rel => exact ⟨k + 1, L.eraseIdx p, by go_num, by omega, by rw [List.length_eraseIdx, HLN.out]; split <;> omega, by rw [show min p L.length = ([] ++ L.take p ++ L.drop (p + 1)).length from by have := HLN.out; simp; try omega, List.eraseIdx_eq_take_drop_succ]; exact oT.mono hsz, hBw.trans (VT.mono hsz), by have := HN.out; rw [Hn0.out, if_neg (by decide), if_pos rfl, if_pos hA] at this; exact this⟩
                  case measure => simp [intOf]; omega
                · have hcq : ¬ p + 1 = vc := fun h => hcp h.symm
                  have RB := hOq.rd.drop (p + 1) (by omega)
                  simp only [Nat.zero_add, show shO.n = 4 from rfl] at RB
                  go_region_held3 (fun W => True) (go_keep)
                    (first
                      | (refine step_append_rdG (S := shO) Try.info59 rfl (by omega) rfl (.tmp 94) (.tmp 97) 48 rfl Try.underlying48 wr.heap.size _ _ [] (L.take p) rfl rfl O0 RA (by simp; omega) bA0.size ?_; intro aS cS wS oS gS; have VS : Below wr.heap.size wr wS := bA0.trans (gb_to (show World.grownBy _ wS (some wr.heap.size) from gS) (fun k hk => by cases hk; exact Nat.le_refl _) bA0.size))
                      | (refine step_append_rdG (S := shO) Try.info59 rfl (by omega) rfl (.tmp 98) (.tmp 102) 48 rfl Try.underlying48 wr.heap.size _ _ ([] ++ L.take p) (L.drop (p + 1)) rfl rfl oS (RB.keep VS) (by simp; omega) VS.size ?_; intro aT cT wT oT gT; have VT : Below wr.heap.size wr wT := VS.trans (gb_to gT (fun k hk => (oS.lt k hk).1) VS.size); have hgT := (VT.cell (p := ⟨ub, uoff + k, none⟩) hubz).trans hgq))
                  go_wp2_with fail
                  go_roundw
                  case rel => exact ⟨k + 1, L.eraseIdx p, by go_num, by omega, by rw [List.length_eraseIdx, HLN.out]; split <;> omega, by rw [show min p L.length + (L.length - (p + 1)) = ([] ++ L.take p ++ L.drop (p + 1)).length from by have := HLN.out; simp; try omega, List.eraseIdx_eq_take_drop_succ]; exact oT.mono hsz, hBw.trans (VT.mono hsz), by have := HN.out; rw [Hn0.out, if_neg (by decide), if_pos rfl, if_pos hA] at this; exact this⟩
                  case measure => simp [intOf]; omega
              · rw [if_neg hA] at hRy
                subst hRy
                go_wp2_with fail
                go_roundw
                case rel => exact ⟨k + 1, L, by go_num, by omega, by rw [HLN.out]; omega, hOq, hBw, by have := HN.out; rw [Hn0.out, if_neg (by decide), if_pos rfl, if_neg hA] at this; exact this⟩
                case measure => simp [intOf]; omega
            have f1 : (Ec == 1) = false := by simp [k1]
            have f2 : (Ec == 2) = false := by simp [k2]
            have f3 : (Ec == 3) = false := by simp [k3]
            have Hk : Hid (Ec ≠ 1 ∧ Ec ≠ 2 ∧ Ec ≠ 3) := ⟨k1, k2, k3⟩
            clear k1 k2 k3
            by_cases k4 : Ec = 4
            · subst k4
              have hRy := Hst4.out rfl
              have hRn : ¬ Ry < 1 := by omega
              go_wp2_with fail
              go_roundw
              case rel => exact ⟨k + 1, L, by go_num, by omega, by rw [HLN.out]; omega, hOq, hBw, by have := HN.out; rw [Hn0.out, if_neg (by decide), if_neg (by decide)] at this; exact this⟩
              case measure => simp [intOf]; omega
            by_cases k5 : Ec = 5
            · subst k5
              have hRy := Hst5.out rfl
              have hRn : ¬ Ry < 8 := by omega
              go_wp2_with fail
              go_roundw
              case rel => exact ⟨k + 1, L, by go_num, by omega, by rw [HLN.out]; omega, hOq, hBw, by have := HN.out; rw [Hn0.out, if_neg (by decide), if_neg (by decide)] at this; exact this⟩
              case measure => simp [intOf]; omega
            · have f4 : (Ec == 4) = false := by simp [k4]
              have f5 : (Ec == 5) = false := by simp [k5]
              obtain rfl := Hst6.out Hk.out.1 Hk.out.2.1 Hk.out.2.2 k4 k5
              clear k4 k5
              go_wp2_with fail
              go_roundw
              case rel => exact ⟨k + 1, L, by go_num, by omega, by rw [HLN.out]; omega, hOq, hBw, by have := HN.out; rw [Hn0.out, if_neg Hk.out.1, if_neg Hk.out.2.2] at this; exact this⟩
              case measure => simp [intOf]; omega
      · obtain rfl : M = k := by omega
        go_wp2_with fail
        go_ret
        exact ⟨rfl, V5.trans (hB.mono V5.size)⟩
end Go.Proofs.Ytnpjlmnhailipaa
