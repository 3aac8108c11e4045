import Derived.Test.YtnpjlmnhailipaaLyL
namespace Go.Proofs.Ytnpjlmnhailipaa
open Go.RowKit Go.Maps
set_option linter.unusedVariables false
set_option linter.unusedSimpArgs false

theorem Try.info63 : (Try.prog.info? 63).map (fun i => (i.zero, i.size, i.bytes)) = some (some (.agg #[.int .u64 0, .int .i64 0, .int .i64 0, .bool false]), 4, 32) := by kernel_rfl
theorem Try.info97 : (Try.prog.info? 97).map (fun i => (i.zero, i.size, i.bytes)) = some (some (.agg #[.int .u64 0, .int .i64 0, .int .i64 0, .bool false]), 4, 32) := by kernel_rfl

theorem en_new (w : World) (e : En) (T : TypeId) (g : Nat) (hg : g = w.heap.size) : ∀ j, j < shE.n → (w.alloc (.cells #[.int .u64 e.h, .int .i64 e.k, .int .i64 e.v, .bool e.g] T)).cell? ⟨g, j, none⟩ = (shE.cs e)[j]? := by
  intro j _; rw [World.cell?_alloc_at _ _ _ _ hg]; simp [shE, En.cs]
/-- 'append(xs, e)' for one element of several cells. -/
theorem wpList_append_one {α : Type} {S : Sh α} {T : TypeId} {zv : Value} {by' : Nat} (hinfo : (Try.prog.info? T).map (fun i => (i.zero, i.size, i.bytes)) = some (some zv, S.n, by')) (hzc : zv.cells.size = S.n) (hby : by' ≤ 64)
    {w : World} {ops : Array Oper} {rest : List Oper} {o : Oper} {a : Act} {Q : Exit → Act → World → Prop} (hgd : o.guard = none) (s x : Operand) (t : TypeId)
    (ho : o.op = .call { callee := .builtin .append, args := #[s, x], argTypes := #[t, t] }) (ht : Try.prog.underlying t = some (.slice T)) (B : Nat) (v : Value) (xs : List α) (e : α) (he : S.ok e) (g c : Nat) (hs : a.eval s = v) (hx : a.eval x = .slice (some ⟨g, 0, none⟩) 1 c)
    (hown : OwnG S T w B v xs) (hc : ∀ j, j < S.n → w.cell? ⟨g, j, none⟩ = (S.cs e)[j]?) (hlen : xs.length + 1 ≤ 16777216) (hB : B ≤ w.heap.size)
    (h : ∀ a' c' w', OwnG S T w' B (.slice a' (xs ++ [e]).length c') (xs ++ [e]) → w.grownBy w' v.ownBlock → wpList Try.prog ops Q rest (a.put o.dst (.slice a' (xs ++ [e]).length c')) w') :
    wpList Try.prog ops Q (o :: rest) a w := by
  obtain ⟨i0, hi, hz0, hz1, hz2⟩ := info_parts hinfo
  refine wpList_append_own w hgd s x t ho B T i0 zv S.n by' ht hi hz0 hz1 hz2 hzc S.pos v _ _ hs hown.1 ⟨g, 0, none⟩ 1 c (S.cs e) hx (by rw [S.len]; omega) ?_ (fun u hu => S.one e u hu) (by unfold maxLen; omega) ?_ hB ?_
  · intro j u hj
    have hj' : j < S.n := by
      rcases Nat.lt_or_ge j S.n with h | h
      · exact h
      · rw [List.getElem?_eq_none (by rw [S.len]; exact h)] at hj; cases hj
    have e' : (⟨g, 0, none⟩ : Addr).add j = ⟨g, j, none⟩ := by unfold Addr.add; split <;> simp_all
    rw [e', hc j hj', hj]
  · have : (xs.length + 1) * by' ≤ (xs.length + 1) * 64 := Nat.mul_le_mul_left _ hby
    omega
  · intro v' w' h1 h2 _
    have hO : OwnG S T w' B v' (xs ++ [e]) := ⟨by simpa using h1, by simpa using hlen, fun y hy => by
      rcases List.mem_append.1 hy with h | h
      · exact hown.2.2 y h
      · simp at h; subst h; exact he⟩
    obtain ⟨a', c', rfl⟩ := hO.form
    exact h a' c' w' hO h2

set_option maxRecDepth 100000 in
theorem newOrdered_any (w : World) : Calls Try.prog 41 #[] w fun e w' => e = .returned (.pointer (some ⟨w.heap.size, 0, none⟩)) ∧
    ∃ b, w.heap.size < b ∧ Box3 w' w.heap.size (.slice (some ⟨b, 0, none⟩) 8 8) (.slice none 0 0) (.int .i64 0) ∧ (∀ o, w'.frozen? ⟨w.heap.size, o, none⟩ = false) ∧ Own w' b (.slice (some ⟨b, 0, none⟩) 8 8) (tabOf 8 []) ∧ Below w.heap.size w w' := by
  have bx := Box3.new w (.slice none 0 0) (.slice none 0 0) (.int .i64 0) 93
  have HL := lay_any w.heap.size 8 _ _ _ [] _ ⟨3, by omega, rfl⟩ (by simp) bx (fun o => World.frozen?_alloc_at _ _ _ _ rfl) (OwnG.nil shE 0 _ 0).rd (fun a l c h => by cases h)
  go_enter Try.func41, Try.ntmps41
  go_wp2_with (go_at_call 67; refine HL.mono ?_; rintro e w2 ⟨rfl, b, hb, hbx, hfz, hO, hg⟩)
  go_ret
  refine ⟨rfl, b, by simp at hb; omega, hbx, hfz, hO, ?_⟩
  exact ((Below.refl _ w).alloc (Nat.le_refl _) _).grown hg (by simp) (fun k hk => by cases hk; exact Nat.le_refl _)

set_option maxRecDepth 100000 in
set_option maxHeartbeats 1000000 in
theorem dictOf_any (g : Nat) (vs ve : Value) (l : Int) (es : List En) (w : World) (hB : Box3 w g vs ve (.int .i64 l)) (hS : ∃ a n c, vs = .slice a n c) (hE : RdE w ve es) (hlen : es.length ≤ 65536) :
    Calls Try.prog 40 #[.pointer (some ⟨g, 0, none⟩)] w fun e w' => ∃ ve', e = .returned (dv vs ve' l) ∧ OwnE 63 w' w.heap.size ve' es ∧ Below w.heap.size w w' := by
  obtain ⟨i0, hi, hz0, hz1, hz2⟩ := info_parts Try.info63
  obtain ⟨a, cap, rfl, hlx, hzx, hnx, hcx⟩ := id hE
  obtain ⟨sa, sn, sc, rfl⟩ := hS
  obtain ⟨hg, k0, k1, k2⟩ := id hB
  go_enter Try.func40, Try.ntmps40
  go_wp2_with (at_make; refine wpList_make_own _ rfl _ _ 23 rfl w.heap.size 63 i0 _ 4 Try.underlying23 hi hz0 hz1 .i64 .i64 _ es.length rfl rfl (by go_num) (by rw [hz2]; omega) (by unfold maxLen; omega) (by simp) ?_; intro w1 hown hgrow; have bW := (Below.three (w := w) (.slice none 0 0) (.slice none 0 0) (.int .i64 0) 25); have hB1 := bW.grown hgrow (by simp) (by intro k h; cases h); have hx1 := hB.keep hB1; obtain ⟨-, m0, m1, m2⟩ := id hx1)
  have hR1 := (Box3.new w (.slice none 0 0) (.slice none 0 0) (.int .i64 0) 25).keep (gb_to hgrow (by intro k h; cases h) (Nat.le_refl _))
  have hF1 : ∀ o, w1.frozen? ⟨w.heap.size, o, none⟩ = false := fun o => by
    rw [World.frozen?_of_block (hgrow.block w.heap.size (by simp) (by simp))]; exact World.frozen?_alloc_at _ _ _ _ rfl
  have hO1 : OwnE 63 w1 (w.heap.size + 1) (.slice (some ⟨w.heap.size + 1, 0, none⟩) 0 es.length) [] := by
    have h2 := hown.2
    simp only [World.size_alloc] at h2
    refine ⟨⟨by simp, ?_⟩, by simp, by simp⟩
    rcases h2 with ⟨e, _⟩ | ⟨g', cap', cur, e, hb, r⟩
    · cases e
    · simp only [Value.slice.injEq, Option.some.injEq, Addr.mk.injEq, and_true, true_and] at e
      obtain ⟨rfl, rfl⟩ := e
      exact .inr ⟨_, _, cur, rfl, Nat.le_refl _, r⟩
  clear hown hgrow m0 m1 m2
  go_loopw [3, 17] (fun v i wr => ∃ k : Nat, k ≤ es.length ∧ i = .int .i64 k ∧ OwnE 63 wr (w.heap.size + 1) v (es.take k) ∧ Box3 wr w.heap.size (.slice none 0 0) (.slice none 0 0) (.int .i64 0) ∧ (∀ o, wr.frozen? ⟨w.heap.size, o, none⟩ = false) ∧ Below w.heap.size w wr) (fun _ i _ => es.length - (intOf i).toNat)
  case atStart => exact ⟨0, Nat.zero_le _, rfl, by simpa using hO1, hR1, hF1, hB1⟩
  case round =>
    obtain ⟨k, hk, rfl, hO, hR, hF, hBr⟩ := hrel
    clear hO1 hR1 hF1 hB1 hx1
    by_cases hlt : k < es.length
    · obtain ⟨b, off, rfl, hb, hcell⟩ := hcx (by omega)
      obtain ⟨d0, d1, d2, d3⟩ := RdE.at (fun k hk j hj => (hBr.cell (p := ⟨b, _, none⟩) hb).trans (hcell k hk j hj)) k hlt
      have hok := hzx es[k] (List.getElem_mem hlt)
      have htk := List.take_succ_eq_append_getElem hlt
      generalize es[k] = E at *
      obtain ⟨Eh, Ek, Ev, Eg⟩ := E
      obtain ⟨va, vc, hv⟩ := hO.form
      have hlk : (es.take k).length = k := by simp; omega
      rw [hlk] at hv
      subst hv
      generalize es.take k = XS at *
      simp only at d0 d1 d2 d3
      have hlo := hO.lt
      have hsz := hR.1
      clear hcell hcx
      go_wp2_with (at_builtin; refine wpList_append_one (S := shE) Try.info63 rfl (by omega) rfl _ _ 23 rfl Try.underlying23 (w.heap.size + 1) _ XS ⟨Eh, Ek, Ev, Eg⟩ hok (wr.heap.size + 1) 1 rfl rfl ((hO.alloc _).alloc _) (en_new _ ⟨Eh, Ek, Ev, Eg⟩ _ _ (by simp)) (by omega) (by simp; omega) ?_; intro a' c' w' hO' hg')
      have hga := gb_trans (gb_trans (World.grownBy_alloc wr (.cells #[.int .u64 Eh, .int .i64 Ek, .int .i64 Ev, .bool Eg] 97) (Value.slice va k vc).ownBlock) (World.grownBy_alloc _ (.cells #[.int .u64 Eh, .int .i64 Ek, .int .i64 Ev, .bool Eg] 63) _)) hg'
      have hRne : some w.heap.size ≠ (Value.slice va k vc).ownBlock := fun e => by have := hlo _ e.symm; omega
      go_roundw
      case rel =>
        refine ⟨k + 1, by omega, by go_num, ?_, hR.but hga hRne, fun o => ?_, hBr.grown hga hBr.size (fun j hj => by have := hlo j hj; omega)⟩
        · rw [htk]; rw [show (XS ++ [(⟨Eh, Ek, Ev, Eg⟩ : En)]).length = k + 1 by simp [hlk]] at hO'; exact hO'
        · rw [World.frozen?_of_block (hga.block w.heap.size hsz hRne)]; exact hF o
      case measure => simp [intOf]; omega
    · obtain rfl : k = es.length := by omega
      rw [List.take_length] at hO
      obtain ⟨hsz, n0, n1, n2⟩ := id hR
      obtain ⟨-, m0, m1, m2⟩ := hB.keep hBr
      have f0 := hF 0
      have f1 := hF 1
      have f2 := hF 2
      obtain ⟨va, vc, hv⟩ := hO.form
      subst hv
      clear hcx
      have q0 := hR.p0 (.slice sa sn sc)
      have q1 := q0.p1 (.slice va es.length vc)
      have q2 := q1.p2 (.int .i64 l)
      go_wp2
      go_region
      all_goals
        go_wp2
        refine bodyPost_ret (v := dv (.slice sa sn sc) (.slice va es.length vc) l) (by simp [results, Try.results40, go_sem, dv, q0.2.1, q1.2.2.1, q2.2.2.2]) rfl ⟨_, rfl, ?_, ?_⟩
        · exact (((hO.setBelow (by show w.heap.size < _; omega) _).setBelow (by show w.heap.size < _; omega) _).setBelow (by show w.heap.size < _; omega) _).drew.mono (Nat.le_succ _)
        · have hz := hBr.size
          exact (below_set (below_set (below_set hBr hz (Nat.le_refl _) _) (by simpa [World.setCell] using hz) (Nat.le_refl _) _) (by simpa [World.setCell] using hz) (Nat.le_refl _) _).drew

theorem tab8 : tabOf 8 [] = List.replicate 8 (-1) := rfl

set_option maxRecDepth 100000 in
theorem newI_any (w : World) : Calls Try.prog 12 #[] w fun e w' => ∃ v, e = .returned v ∧ OwnD w' w.heap.size v ⟨tabOf 8 [], [], 0⟩ ∧ Below w.heap.size w w' := by
  go_enter Try.func12, Try.ntmps12
  go_wp2_with (go_at_call 41; refine (newOrdered_any _).mono ?_; rintro e w2 ⟨rfl, b, hb, hbx, hfz, hO, hB2⟩; have hR2 := (OwnG.nil shE 0 w2 0).rd) 
  refine (dictOf_any _ _ _ 0 [] w2 (by simpa using hbx) ⟨_, _, _, rfl⟩ hR2 (by simp)).mono ?_
  rintro e w3 ⟨ve', rfl, hOE, hB3⟩
  have hW2 : Below w.heap.size w w2 := ((Below.refl _ w).alloc (Nat.le_refl _) _).trans (hB2.mono (by simp))
  have hW3 := hW2.trans (hB3.mono hW2.size)
  have hbl := (hO.lt b rfl).2
  have hlo := hOE.lt
  have hOw : OwnD w3 w.heap.size (dv (.slice (some ⟨b, 0, none⟩) 8 8) ve' 0) ⟨tabOf 8 [], [], 0⟩ :=
    ⟨_, _, rfl, (hO.keep hB3).mono (by simp at hb; omega), hOE.mono hW2.size, .inr (fun e => by have := hlo b e.symm; omega)⟩
  have hz3 := hW3.size
  obtain ⟨va, vc, hv⟩ := hOE.form
  subst hv
  have hR3 := ((Box3.new w (.slice none 0 0) (.slice none 0 0) (.int .i64 0) 25).keep hB2).keep hB3
  have hF3 : ∀ o, w3.frozen? ⟨w.heap.size, o, none⟩ = false := fun o => by
    rw [hB3.frozen (p := ⟨w.heap.size, o, none⟩) (by have := hB2.size; simp at this; show w.heap.size < _; omega)]
    exact frozen_new2 hB2 o
  obtain ⟨-, n0, n1, n2⟩ := id hR3
  have f0 := hF3 0
  have f1 := hF3 1
  have f2 := hF3 2
  have q0 := hR3.p0 (.slice (some ⟨b, 0, none⟩) 8 8)
  have q1 := q0.p1 (.slice va 0 vc)
  have q2 := q1.p2 (.int .i64 0)
  simp only [dv, List.length_nil] at hOw ⊢
  have hbg : w.heap.size < b := by simp at hb; omega
  obtain ⟨vs', ve'', e1, o1, o2, o3⟩ := hOw
  simp only [dv, Value.agg.injEq] at e1
  simp at e1
  obtain ⟨rfl, rfl⟩ := e1
  have hb2 : b < w2.heap.size := hbl
  clear hO hOE hbx hfz hR2
  have lo1 : ∀ k, (Value.slice va 0 vc).ownBlock = some k → w.heap.size < k := fun k hk => by have := hlo k hk; have := hB2.size; simp at this; omega
  go_wp2
  refine bodyPost_ret (v := .agg #[.slice (some ⟨b, 0, none⟩) 8 8, .slice va 0 vc, .int .i64 0]) (by simp [results, Try.results12, go_sem, q0.2.1, q1.2.2.1, q2.2.2.2]) rfl ⟨_, rfl, ⟨_, _, rfl, ?_, ?_, o3⟩, ?_⟩
  · exact ((o1.but (gb_set _ _ _ _) (.inr (by simp [Value.ownBlock]; omega))).but (gb_set _ _ _ _) (.inr (by simp [Value.ownBlock]; omega))).but (gb_set _ _ _ _) (.inr (by simp [Value.ownBlock]; omega))
  · have hne : (Value.slice va 0 vc).ownBlock ≠ some w.heap.size := fun e => by have := lo1 _ e; omega
    exact ((o2.but (gb_set _ _ _ _) (.inr hne)).but (gb_set _ _ _ _) (.inr hne)).but (gb_set _ _ _ _) (.inr hne)
  · exact below_set (below_set (below_set hW3 hz3 (Nat.le_refl _) _) (by simpa [World.setCell] using hz3) (Nat.le_refl _) _) (by simpa [World.setCell] using hz3) (Nat.le_refl _) _

theorem rdE_empty (W : World) (ad : Addr) (c : Nat) : RdE W (.slice (some ad) 0 c) [] := ⟨some ad, c, rfl, by simp, by simp, ⟨Nat.zero_le _, fun h => by cases h⟩, fun h => by simp at h⟩

set_option maxRecDepth 100000 in
theorem newS_any (w : World) : Calls Try.prog 11 #[] w fun e w' => ∃ v, e = .returned v ∧ RdD w' v ⟨tabOf 8 [], [], 0⟩ ∧ Below w.heap.size w w' := by
  have HT := fun v W h => l7Table_any v [] 3 W h (by omega) (by simp)
  simp only [show (2 ^ 3 : Nat) = 8 from rfl] at HT
  rw [show ((8 : Nat) : Int) = 8 from rfl] at HT
  go_enter Try.func11, Try.ntmps11
  go_wp2_with (go_at_call 39; refine (HT _ _ (rdE_empty _ _ _)).mono ?_; rintro e w2 ⟨ta, tc, rfl, hO, hB2⟩; have hR2 := ((Box3.new w (.slice none 0 0) (.slice none 0 0) (.int .i64 0) 25).alloc (Obj.cells #[] 63)).keep hB2; have hF2 : ∀ o, w2.frozen? ⟨w.heap.size, o, none⟩ = false := (fun o => by rw [hB2.frozen (p := ⟨w.heap.size, o, none⟩) (by simp; omega), World.frozen?_alloc_past _ _ _ (by simp)]; exact World.frozen?_alloc_at _ _ _ _ rfl); have hW2 : Below w.heap.size w w2 := (((Below.refl _ w).alloc (Nat.le_refl _) _).alloc (by simp) _).trans (hB2.mono (by simp; omega)); obtain ⟨-, n0, n1, n2⟩ := id hR2; have f0 := hF2 0; have f1 := hF2 1; have f2 := hF2 2; have hgl := hR2.1)
  have q0 := hR2.p0 (.slice ta 8 tc)
  have q1 := q0.p1 (.slice (some ⟨w2.heap.size, 0, none⟩) 0 0)
  have q2 := q1.p2 (.int .i64 0)
  have hz2 := hW2.size
  have hlo := hO.lt
  have q3 := q2.alloc (Obj.cells #[] 63)
  refine bodyPost_ret (v := dv (.slice ta 8 tc) (.slice (some ⟨w2.heap.size, 0, none⟩) 0 0) 0) (by
    simp [results, Try.results11, go_sem, dv, q3.2.1, q3.2.2.1, q3.2.2.2]) rfl ⟨_, rfl, ⟨_, _, rfl, ?_, rdE_empty _ _ _⟩, ?_⟩
  · have hne : (Value.slice ta 8 tc).ownBlock ≠ some w.heap.size := fun e => by have := hlo _ e; simp at this; omega
    exact ((((hO.but (gb_set _ _ _ _) (.inr hne)).but (gb_set _ _ _ _) (.inr hne)).but (gb_set _ _ _ _) (.inr hne)).alloc _).rd
  · refine Below.alloc (below_set (below_set (below_set hW2 hz2 (Nat.le_refl _) _) (by simpa [World.setCell] using hz2) (Nat.le_refl _) _) (by simpa [World.setCell] using hz2) (Nat.le_refl _) _) (by simpa [World.setCell] using hz2) _

theorem RdD.form {w : World} {v : Value} {d : Dt} (h : RdD w v d) : ∃ a1 n1 c1 a2 n2 c2, v = .agg #[.slice a1 n1 c1, .slice a2 n2 c2, .int .i64 d.l] := by
  obtain ⟨vs, ve, rfl, ⟨a, c, rfl, _⟩, ⟨a', c', rfl, _⟩⟩ := h; exact ⟨_, _, _, _, _, _, rfl⟩
/-- What is owned stands apart from older blocks. -/
theorem OwnD.away {w : World} {B : Nat} {a1 a2 : Option Addr} {n1 c1 n2 c2 : Nat} {l : Int} {d : Dt} (h : OwnD w B (.agg #[.slice a1 n1 c1, .slice a2 n2 c2, .int .i64 l]) d) : ∀ g, g < B → ∀ vs ve l', (Value.agg #[.slice a1 n1 c1, .slice a2 n2 c2, .int .i64 l]) = dv vs ve l' → vs.ownBlock ≠ some g ∧ ve.ownBlock ≠ some g := by
  intro g hg vs ve l' e
  obtain ⟨us, ue, e', h1, h2, _⟩ := h
  have e2 := e.symm.trans e'
  simp [dv] at e2
  obtain ⟨rfl, rfl, _⟩ := e2
  exact ⟨fun h => by have := h1.lt _ h; omega, fun h => by have := h2.lt _ h; omega⟩
theorem RdD.keepB {w w' : World} {v : Value} {d : Dt} (h : RdD w v d) {n : Nat} (hn : ∀ g, g < n → w'.heap[g]? = w.heap[g]?) (hv : ∀ vs ve l, v = dv vs ve l → (∀ a m c, vs = .slice (some a) m c → a.block < n) ∧ ∀ a m c, ve = .slice (some a) m c → a.block < n) (hs : w.heap.size ≤ w'.heap.size) : RdD w' v d := by
  obtain ⟨vs, ve, rfl, h1, h2⟩ := h
  obtain ⟨b1, b2⟩ := hv _ _ _ rfl
  refine ⟨vs, ve, rfl, ?_, ?_⟩
  · obtain ⟨a, cap, rfl, hl, hz, hn0, hc⟩ := h1
    refine ⟨a, cap, rfl, hl, hz, hn0, fun h0 => ?_⟩
    obtain ⟨b, off, rfl, hb, hcell⟩ := hc h0
    exact ⟨b, off, rfl, by omega, fun k hk => (World.cell?_of_block (a := ⟨b, off + k, none⟩) (hn b (b1 _ _ _ rfl))).trans (hcell k hk)⟩
  · obtain ⟨a, cap, rfl, hl, hz, hn0, hc⟩ := h2
    refine ⟨a, cap, rfl, hl, hz, hn0, fun h0 => ?_⟩
    obtain ⟨b, off, rfl, hb, hcell⟩ := hc h0
    exact ⟨b, off, rfl, by omega, fun k hk j hj => (World.cell?_of_block (a := ⟨b, _, none⟩) (hn b (b2 _ _ _ rfl))).trans (hcell k hk j hj)⟩
theorem Box3.keepB {w w' : World} {b : Nat} {x y z : Value} (h : Box3 w b x y z) (hb : w'.heap[b]? = w.heap[b]?) (hs : w.heap.size ≤ w'.heap.size) : Box3 w' b x y z :=
  ⟨Nat.lt_of_lt_of_le h.1 hs, (World.cell?_of_block (a := ⟨b, 0, none⟩) hb).trans h.2.1, (World.cell?_of_block (a := ⟨b, 1, none⟩) hb).trans h.2.2.1, (World.cell?_of_block (a := ⟨b, 2, none⟩) hb).trans h.2.2.2⟩
theorem RdD.lt {w : World} {v : Value} {d : Dt} (h : RdD w v d) (h1 : 0 < d.s.length) : ∀ vs ve l, v = dv vs ve l → ∀ a m c, vs = .slice (some a) m c → a.block < w.heap.size := by
  intro vs ve l e a m c ea
  obtain ⟨us, ue, e', ⟨a', c', e1, _, _, _, hc⟩, _⟩ := h
  have e2 := e.symm.trans e'
  simp [dv] at e2
  obtain ⟨rfl, _, _⟩ := e2
  obtain ⟨b, off, rfl, hb, _⟩ := hc h1
  rw [ea] at e1
  simp at e1
  obtain ⟨rfl, _⟩ := e1
  exact hb
end Go.Proofs.Ytnpjlmnhailipaa
