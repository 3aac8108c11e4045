import Derived.Test.YtjnalkeopehlbaaGmD
namespace Go.Proofs.Ytjnalkeopehlbaa
open Go.RowKit Go.Maps
set_option linter.unusedVariables false
set_option linter.unusedSimpArgs false

theorem cnt_rt (S : Gs) (g : Nat → Nat) (y : Nat) : cnt { S with rt := g } y + S.rt y = cnt S y + g y := by
  show g y + sm S.n (fun k => if S.al (k + 1) then tmo (S.hl (k + 1)) y else 0) + S.rt y = S.rt y + sm S.n (fun k => if S.al (k + 1) then tmo (S.hl (k + 1)) y else 0) + g y
  omega
theorem cnt_freeO (S : Gs) (x y : Nat) (hx : In S.n x) (ha : S.al x = true) : cnt (freeO S x) y + tmo (S.hl x) y = cnt S y := by
  have h := sm_upd (fun k => if S.al (k + 1) then tmo (S.hl (k + 1)) y else 0) (fun k => if upd S.al x false (k + 1) then tmo (S.hl (k + 1)) y else 0) (x - 1) S.n (by have := hx.1; have := hx.2; omega) (fun k hk => by
    show (if upd S.al x false (k + 1) then tmo (S.hl (k + 1)) y else 0) = _
    rw [upd_ne _ _ (by have := hx.1; omega)])
  have e : x - 1 + 1 = x := by have := hx.1; omega
  simp only [e, ha, upd_same, if_true] at h
  show S.rt y + sm S.n (fun k => if upd S.al x false (k + 1) then tmo (S.hl (k + 1)) y else 0) + tmo (S.hl x) y = S.rt y + sm S.n (fun k => if S.al (k + 1) then tmo (S.hl (k + 1)) y else 0)
  simp at h
  omega
theorem Gi.rooted {S : Gs} {f : Nat → Tc} {AL : List Nat} (h : Gi S f AL) (x : Nat) (hx : In S.n x) (r : Nat) (c : Nat) (hc : c + S.rt x = cnt S x + r) : Gi { S with rt := upd S.rt x r } (upd f x { f x with rt := r, ct := c }) AL := by
  have key : ∀ y, In S.n y → (upd f x { f x with rt := r, ct := c } y).rt = upd S.rt x r y ∧ (upd f x { f x with rt := r, ct := c } y).ct = cnt { S with rt := upd S.rt x r } y ∧ (upd f x { f x with rt := r, ct := c } y).wk = (f y).wk ∧ (upd f x { f x with rt := r, ct := c } y).fn = (f y).fn ∧ (upd f x { f x with rt := r, ct := c } y).rn = (f y).rn ∧ (upd f x { f x with rt := r, ct := c } y).ord = (f y).ord ∧ (upd f x { f x with rt := r, ct := c } y).mp = (f y).mp := by
    intro y hy
    have hcr := cnt_rt S (upd S.rt x r) y
    by_cases e : y = x
    · subst e
      rw [upd_same] at hcr ⊢
      rw [upd_same]
      exact ⟨rfl, by show c = _; omega, rfl, rfl, rfl, rfl, rfl⟩
    · rw [upd_ne _ _ e] at hcr ⊢
      rw [upd_ne _ _ e]
      exact ⟨h.rt y hy, by rw [h.ct y hy]; omega, rfl, rfl, rfl, rfl, rfl⟩
  exact ⟨fun y hy => (key y hy).1, fun y hy => (key y hy).2.1, fun y hy => (key y hy).2.2.1.trans (h.wk y hy), fun y hy => (key y hy).2.2.2.1.trans (h.fn y hy), fun y hy => (key y hy).2.2.2.2.1.trans (h.rn y hy), fun y hy => (key y hy).2.2.2.2.2.1.trans (h.od y hy), fun y hy => (key y hy).2.2.2.2.2.2.trans (h.mp y hy), h.al⟩
theorem Gi.ran {S : Gs} {f : Nat → Tc} {AL : List Nat} (h : Gi S f AL) (x : Nat) (hx : In S.n x) (b : Bool) : Gi { S with rn := upd S.rn x b } (upd f x { f x with rn := b }) AL := by
  have key : ∀ y, (upd f x { f x with rn := b } y).rn = upd (fun y => (f y).rn) x b y ∧ (upd f x { f x with rn := b } y).rt = (f y).rt ∧ (upd f x { f x with rn := b } y).ct = (f y).ct ∧ (upd f x { f x with rn := b } y).wk = (f y).wk ∧ (upd f x { f x with rn := b } y).fn = (f y).fn ∧ (upd f x { f x with rn := b } y).ord = (f y).ord ∧ (upd f x { f x with rn := b } y).mp = (f y).mp := by
    intro y
    by_cases e : y = x
    · subst e; rw [upd_same, upd_same]; exact ⟨rfl, rfl, rfl, rfl, rfl, rfl, rfl⟩
    · rw [upd_ne _ _ e, upd_ne _ _ e]; exact ⟨rfl, rfl, rfl, rfl, rfl, rfl, rfl⟩
  refine ⟨fun y hy => (key y).2.1.trans (h.rt y hy), fun y hy => (key y).2.2.1.trans (h.ct y hy), fun y hy => (key y).2.2.2.1.trans (h.wk y hy), fun y hy => (key y).2.2.2.2.1.trans (h.fn y hy), fun y hy => ?_, fun y hy => (key y).2.2.2.2.2.1.trans (h.od y hy), fun y hy => (key y).2.2.2.2.2.2.trans (h.mp y hy), h.al⟩
  rw [(key y).1]
  show _ = upd S.rn x b y
  by_cases e : y = x
  · subst e; rw [upd_same, upd_same]
  · rw [upd_ne _ _ e, upd_ne _ _ e]; exact h.rn y hy
theorem Gi.evs {S : Gs} {f : Nat → Tc} {AL : List Nat} (h : Gi S f AL) (ev : List (Nat × Nat)) : Gi { S with ev := ev } f AL := ⟨h.rt, h.ct, h.wk, h.fn, h.rn, h.od, h.mp, h.al⟩
/-- The rows stay where they are. -/
def Sw (f f' : Nat → Tc) : Prop := ∀ y, (f' y).row = (f y).row
/-- One of them dies. -/
theorem Gi.freed {S : Gs} {f : Nat → Tc} {AL : List Nat} (h : Gi S f AL) (x : Nat) (hx : In S.n x) (ha : S.al x = true) (hnd : AL.Nodup) : Gi (freeO S x) (ucf f (f x).mp []) (AL.erase x) := by
  refine ⟨h.rt, fun y hy => ?_, h.wk, h.fn, h.rn, h.od, h.mp, fun y => ?_⟩
  · have h1 := cnt_freeO S x y hx ha
    show (f y).ct - (tmo (f x).mp y - tmo [] y) = _
    rw [h.ct y hy, h.mp x hx, tmo_nil]
    omega
  · rw [hnd.mem_erase_iff, h.al y]
    show _ ↔ upd S.al x false y = true
    by_cases e : y = x
    · subst e; rw [upd_same]; simp
    · rw [upd_ne _ _ e]; simp [e]
set_option maxRecDepth 100000 in
theorem clearWeaksI_any (B hb am x : Nat) (ew : Value) (tb : Nat → Nat) (f : Nat → Tc) (AL : List Nat) (S : Gs) (w : World) (h : GI w B hb am ew tb f AL S) (hE : S.ev.length ≤ 100000) (hn : S.n ≤ 10000) (hx : In S.n x) :
    Calls Try.prog 60 #[.pointer (some ⟨hb, 0, none⟩), .pointer (some ⟨tb x, 0, none⟩)] w fun e w' => e = .returned (.tuple #[]) ∧ ∃ ew', GI w' B hb am ew' tb f AL (weakS S x) ∧ Fr (PH hb am S.n ew tb f) w (PH hb am S.n ew' tb f) w' := by
  have c3 : w.cell? ⟨tb x, 3, none⟩ = some (.int .i64 (S.wk x : Nat)) := by rw [← h.gi.wk x hx]; exact cell_obj (h.th.tg.obj x hx) rfl
  have hT := tellI_any B hb am S.n 2 x ew tb f AL S.ev w h.th hE (by omega) hx (by omega)
  have H : Hid (GI w B hb am ew tb f AL S) := h
  obtain ⟨WS, hWS⟩ : ∃ WS, weakS S x = WS := ⟨_, rfl⟩
  have HWS : Hid (weakS S x = WS) := hWS
  rw [hWS]
  clear h hWS
  by_cases e : 0 < S.wk x
  · have HE : Hid (weakS S x = { S with ev := S.ev ++ [(2, x)] }) := by show _ = _; unfold weakS wkE; rw [if_pos e]
    have e0 : (0 : Int) < ((S.wk x : Nat) : Int) := by omega
    go_enter Try.func60, Try.ntmps60
    go_wp2_with fail
    refine hT.mono ?_
    rintro e w1 ⟨rfl, ew1, h1, hF1⟩
    clear hT
    go_wp2
    go_end0
    exact ⟨rfl, ew1, by rw [← HWS.out, HE.out]; exact ⟨h1, H.out.gi.evs _⟩, hF1⟩
  · have HE : Hid (weakS S x = S) := by show _ = _; unfold weakS wkE; rw [if_neg e, List.append_nil]
    have e0 : S.wk x = 0 := by omega
    rw [e0] at c3
    go_enter Try.func60, Try.ntmps60
    go_wp2
    go_end0
    exact ⟨rfl, ew, by rw [← HWS.out, HE.out]; exact H.out, Fr.refl _ _⟩
set_option maxRecDepth 100000 in
set_option maxHeartbeats 1000000 in
theorem finalizeI_any (B hb am x K : Nat) (ew : Value) (tb : Nat → Nat) (f : Nat → Tc) (AL : List Nat) (S : Gs) (w : World) (h : GI w B hb am ew tb f AL S) (hI : Iv K S) (hE : S.ev.length ≤ 100000) (hK : K ≤ 2500) (hx : In S.n x) :
    Calls Try.prog 59 #[.pointer (some ⟨hb, 0, none⟩), .pointer (some ⟨tb x, 0, none⟩)] w fun e w' => e = .returned (.tuple #[]) ∧ ∃ ew' f', GI w' B hb am ew' tb f' AL (finS S x) ∧ Fr (PH hb am S.n ew tb f) w (PH hb am S.n ew' tb f') w' ∧ Sw f f' := by
  have hn := hI.n
  have hcb := hI.cnt x
  have hcb2 : cnt S x ≤ 100000000 := by have : S.n * K ≤ 2500 * 2500 := Nat.mul_le_mul (by omega) (by omega); omega
  have hrb : S.rt x ≤ 2501 := by have := hI.rt x; split at this <;> omega
  have ho := h.th.tg.obj x hx
  have c5 : w.cell? ⟨tb x, 5, none⟩ = some (.bool (S.rn x)) := by rw [← h.gi.rn x hx]; exact cell_obj ho rfl
  have c4 : w.cell? ⟨tb x, 4, none⟩ = some (.int .i64 (S.fn x : Nat)) := by rw [← h.gi.fn x hx]; exact cell_obj ho rfl
  have f5 : w.frozen? ⟨tb x, 5, none⟩ = false := frozen_obj ho
  have H : Hid (GI w B hb am ew tb f AL S) := h
  obtain ⟨FS, hFS⟩ : ∃ FS, finS S x = FS := ⟨_, rfl⟩
  have HFS : Hid (finS S x = FS) := hFS
  rw [hFS]
  clear hFS ho
  cases hrn : S.rn x with
  | true =>
    have HF : Hid (finS S x = S) := by show _ = _; unfold finS; rw [if_pos (.inr hrn)]
    rw [hrn] at c5
    clear h
    go_enter Try.func59, Try.ntmps59
    go_wp2
    refine bodyPost_ret (results_none rfl _ _ _) rfl ?_
    exact ⟨rfl, ew, f, by rw [← HFS.out, HF.out]; exact H.out, Fr.refl _ _, fun _ => rfl⟩
  | false =>
    rw [hrn] at c5
    by_cases hf0 : S.fn x = 0
    · have HF : Hid (finS S x = S) := by show _ = _; unfold finS; rw [if_pos (.inl hf0)]
      rw [hf0] at c4
      clear h
      go_enter Try.func59, Try.ntmps59
      go_wp2
      refine bodyPost_ret (results_none rfl _ _ _) rfl ?_
      exact ⟨rfl, ew, f, by rw [← HFS.out, HF.out]; exact H.out, Fr.refl _ _, fun _ => rfl⟩
    · have hne : ¬ (S.fn x = 0 ∨ S.rn x = true) := by rw [hrn]; simp [hf0]
      have e5 : (((S.fn x : Nat) : Int) == 0) = false := by rw [beq_eq_false_iff_ne]; omega
      obtain ⟨t1, q1⟩ := h.th.tg.cell1 hx 5 (.bool true) { f x with rn := true } rfl rfl rfl rfl rfl
      obtain ⟨t2, q2⟩ := h.th.things t1 q1 (fun y => by
        by_cases e : y = x
        · subst e; rw [upd_same]
        · rw [upd_ne _ _ e])
      have g2 := h.gi.ran x hx true
      have hTel := tellI_any B hb am S.n 1 x ew tb _ AL S.ev _ t2 hE (by omega) hx (by omega)
      rw [show ((1 : Nat) : Int) = 1 from rfl] at hTel
      have G2 : Hid (Gi { S with rn := upd S.rn x true } (upd f x { f x with rn := true }) AL) := g2
      have Q2 : Hid (Fr (PH hb am S.n ew tb f) w (PH hb am S.n ew tb (upd f x { f x with rn := true })) (w.setCell ⟨tb x, 5, none⟩ (.bool true))) := q2
      clear h t1 q1 t2 q2 g2
      go_enter Try.func59, Try.ntmps59
      go_wp2_with fail
      refine hTel.mono ?_
      rintro e W3 ⟨rfl, ew3, h3, q3⟩
      have c4' : W3.cell? ⟨tb x, 4, none⟩ = some (.int .i64 (S.fn x : Nat)) := by rw [← H.out.gi.fn x hx]; have := cell_obj (o := 4) (v := .int .i64 ((f x).fn : Nat)) (h3.tg.obj x hx) (by rw [upd_same]; rfl); exact this
      have Q3 : Hid (Fr (PH hb am S.n ew tb f) w (PH hb am S.n ew3 tb (upd f x { f x with rn := true })) W3) := Q2.out.trans q3
      have H3 : Hid (TH W3 B hb am S.n ew3 tb (upd f x { f x with rn := true }) AL (S.ev ++ [(1, x)])) := h3
      by_cases hf2 : S.fn x = 2
      · have HF : Hid (finS S x = { S with rn := upd S.rn x true, rt := upd S.rt x (S.rt x + 1), ev := S.ev ++ [(1, x)] }) := by show _ = _; unfold finS; rw [if_neg hne, if_pos hf2]
        rw [hf2] at c4'
        have hR := root_any (tb x) x _ W3 (h3.tg.obj x hx) (by rw [upd_same]; show (f x).rt ≤ _; rw [H.out.gi.rt x hx]; omega) (by rw [upd_same]; show (f x).ct ≤ _; rw [H.out.gi.ct x hx]; omega)
        clear hTel h3 q3
        go_wp2_with fail
        refine hR.mono ?_
        rintro e W4 ⟨rfl, rfl⟩
        clear hR
        go_wp2
        go_end0
        rw [upd_same]
        obtain ⟨t4, q4⟩ := H3.out.tg.rooted hx ((f x).rt + 1) ((f x).ct + 1)
        obtain ⟨t5, q5⟩ := H3.out.things t4 q4 (fun y => by
          by_cases e : y = x
          · subst e; rw [upd_same]
          · rw [upd_ne _ _ e])
        have g5 := G2.out.rooted x hx ((f x).rt + 1) ((f x).ct + 1) (by
          show _ + S.rt x = cnt S x + _
          rw [H.out.gi.rt x hx, H.out.gi.ct x hx]; omega)
        rw [upd_same] at t5 q5 g5
        refine ⟨rfl, ew3, _, ?_, Q3.out.trans q5, fun y => by
          by_cases e : y = x
          · subst e; rw [upd_same]
          · rw [upd_ne _ _ e, upd_ne _ _ e]⟩
        rw [← HFS.out, HF.out]
        refine ⟨t5, ?_⟩
        have g6 := g5.evs (S.ev ++ [(1, x)])
        rw [H.out.gi.rt x hx] at g6 ⊢
        exact g6
      · have HF : Hid (finS S x = { S with rn := upd S.rn x true, ev := S.ev ++ [(1, x)] }) := by show _ = _; unfold finS; rw [if_neg hne, if_neg hf2]
        have e2 : (((S.fn x : Nat) : Int) == 2) = false := by rw [beq_eq_false_iff_ne]; omega
        clear hTel h3 q3
        go_wp2
        go_end0
        exact ⟨rfl, ew3, _, by rw [← HFS.out, HF.out]; exact ⟨H3.out, G2.out.evs _⟩, Q3.out, fun y => by
          by_cases e : y = x
          · subst e; rw [upd_same]
          · rw [upd_ne _ _ e]⟩
theorem erase_map {AL : List Nat} {x j : Nat} (hnd : AL.Nodup) (hj : AL[j]? = some x) (g : Nat → Value × Value) : (AL.map g).eraseIdx j = (AL.erase x).map g := by
  rw [← ChangeMaps.map_eraseIdx]
  congr 1
  induction AL generalizing j with
  | nil => simp at hj
  | cons y r ih =>
    rw [List.nodup_cons] at hnd
    cases j with
    | zero =>
      simp at hj
      subst hj
      simp
    | succ j =>
      simp at hj
      have hne : y ≠ x := fun e => hnd.1 (e ▸ List.mem_of_getElem? hj)
      rw [List.eraseIdx_cons_succ, ih hnd.2 hj, List.erase_cons_tail (by simpa using hne)]
/-- Where a number stands among those alive. -/
theorem TH.aliveAt {w : World} {B hb am n : Nat} {ew : Value} {tb : Nat → Nat} {f : Nat → Tc} {AL : List Nat} {ev : List (Nat × Nat)} (h : TH w B hb am n ew tb f AL ev) (hn : n ≤ 100000) : (∀ p ∈ AL.map (fun x => ((.int .i64 (x : Nat), pk (tb x)) : Value × Value)), gI p.1) ∧ ((AL.map (fun x => ((.int .i64 (x : Nat), pk (tb x)) : Value × Value))).map (·.1)).Nodup := by
  constructor
  · intro p hp
    obtain ⟨x, hx, rfl⟩ := List.mem_map.1 hp
    have := (h.alok x hx).2
    exact ⟨_, rfl, wf_i64 (by omega) (by omega)⟩
  · rw [List.map_map]
    refine List.pairwise_map.2 (h.nd.imp (fun {x y} hne e => hne ?_))
    have : (x : Int) = (y : Int) := by simpa using e
    omega
theorem step_delete_run {w : World} {ops : Array Oper} {o : Oper} {a : Act} {K : Act → World → Prop} {Q : Exit → Act → World → Prop} {E : Prop} (hgd : o.guard = none) (m x : Operand) (t k : TypeId) (hop : o.op = Op.call { callee := Callee.builtin Builtin.delete, args := #[m, x], argTypes := #[t, k] })
    (mm key : Value) (hm : a.eval m = mm) (hx : a.eval x = key) (w' : World) (hrun : ∀ ty, (Builtin.delete_ #[t, k] ty #[mm, key]).run Try.prog w = .ok (.tuple #[]) w') (h : K (a.put o.dst (.tuple #[])) w') :
    if Region.wanted o (yielded ops a.tmps) = true then Oper.wp Try.prog o a w K Q else E := by
  have hw : Region.wanted o (yielded ops a.tmps) = true := by simp [Region.wanted, hgd]
  rw [if_pos hw]
  unfold Oper.wp
  simp [execOp, hop, resolve, invoke, builtin, hm, hx, hrun, Result.andThen]
  exact h
set_option maxRecDepth 100000 in
set_option maxHeartbeats 1000000 in
theorem freeI_any (B hb am x K : Nat) (ew : Value) (tb : Nat → Nat) (f : Nat → Tc) (AL : List Nat) (S : Gs) (w : World) (h : GI w B hb am ew tb f AL S) (hI : Iv K S) (hE : S.ev.length ≤ 100000) (hK : K ≤ 2500) (hx : In S.n x) (ha : S.al x = true) (hB : B ≤ w.heap.size) :
    Calls Try.prog 61 #[.pointer (some ⟨hb, 0, none⟩), .pointer (some ⟨tb x, 0, none⟩)] w fun e w' => e = .returned (.tuple #[]) ∧ ∃ ew' f' AL', GI w' B hb am ew' tb f' AL' (freeO S x) ∧ Fr (PH hb am S.n ew tb f) w (PH hb am S.n ew' tb f') w' ∧ Sw f f' := by
  have hn := hI.n
  have hTel := tellI_any B hb am S.n 3 x ew tb f AL S.ev w h.th hE (by omega) hx (by omega)
  rw [show ((3 : Nat) : Int) = 3 from rfl] at hTel
  have HG : Hid (Gi S f AL) := h.gi
  have hxn := hx.2
  clear h
  go_enter Try.func61, Try.ntmps61
  go_wp2_with fail
  refine hTel.mono ?_
  rintro e W1 ⟨rfl, ew1, h1, q1⟩
  clear hTel
  have Q1 : Hid (Fr (PH hb am S.n ew tb f) w (PH hb am S.n ew1 tb f) W1) := q1
  obtain ⟨b0, b1, b2, bf⟩ := h1.boxc
  have cx : W1.cell? ⟨tb x, 0, none⟩ = some (.int .i64 (x : Nat)) := cell_obj (h1.tg.obj x hx) rfl
  obtain ⟨hg1, hd1⟩ := h1.aliveAt (by omega)
  have hxa : x ∈ AL := (HG.out.al x).2 ha
  obtain ⟨j, hj⟩ := List.getElem?_of_mem hxa
  have hj2 : (AL.map (fun x => ((.int .i64 (x : Nat), pk (tb x)) : Value × Value)))[j]? = some (.int .i64 (x : Nat), pk (tb x)) := by rw [List.getElem?_map, hj]; rfl
  have al : Below W1.heap.size W1 W1.drew := (Below.refl _ _).drew
  have hA := h1.keep al
  obtain ⟨W2, hdel, hM2, hgr, hs2⟩ := hA.alive.del Try.underlying67 (fndI W1.drew x (wf_i64 (by omega) (by omega))) hg1 hd1 hj2
  rw [erase_map h1.nd hj] at hM2
  obtain ⟨h2, q2⟩ := hA.lives (AL.erase x) hM2 hgr (fun y hy => h1.alok y (List.mem_of_mem_erase hy)) (h1.nd.erase _)
  have k1 : W2.cell? ⟨hb, 0, none⟩ = some (.map (some am)) := h2.boxc.1
  have k2 : W2.cell? ⟨tb x, 0, none⟩ = some (.int .i64 (x : Nat)) := cell_obj (h2.tg.obj x hx) rfl
  have hBW : B ≤ W2.heap.size := by have := q1.kp.size; rw [hs2]; show B ≤ W1.heap.size; omega
  have hcle : ∀ y, In S.n y → tmo (f x).mp y ≤ (f y).ct := fun y hy => by
    have := cnt_freeO S x y hx ha
    rw [HG.out.mp x hx, HG.out.ct y hy]; omega
  have hcb2 : ∀ y, In S.n y → (f y).ct ≤ 1000000000 := fun y hy => by
    have h5 := hI.cnt y
    rw [HG.out.ct y hy]
    have : S.n * K ≤ 2500 * 2500 := Nat.mul_le_mul (by omega) (by omega)
    omega
  have hU := uncount_any B S.n x tb f W2 h2.tg hx hcle hcb2 (fun p hp => by rw [HG.out.mp x hx] at hp; have := (hI.hl x p hp).2.2.2; omega) hBW
  have Q2 : Hid (Fr (PH hb am S.n ew tb f) w (PH hb am S.n ew1 tb f) W2) := (Q1.out.trans (Fr.below al)).trans q2
  have H2 : Hid (TH W2 B hb am S.n ew1 tb f (AL.erase x) (S.ev ++ [(3, x)])) := h2
  have HND : Hid AL.Nodup := h1.nd
  clear h1 q1 hA al hg1 hd1 hxa hj hj2 hM2 hgr hs2 h2 q2 hcle hcb2
  go_wp2_with fail
  go_region_held3 (fun W => W.cell? ⟨hb, 0, none⟩ = some (.map (some am)) ∧ W.cell? ⟨tb x, 0, none⟩ = some (.int .i64 (x : Nat))) (go_keep) (first | (refine step_delete_run rfl (.tmp 10) (.tmp 14) _ _ rfl (.map (some am)) (.int .i64 (x : Nat)) (by simp [Act.eval, Act.put]) (by simp [Act.eval, Act.put]) W2 hdel ?_))
  go_wp2_with fail
  refine hU.mono ?_
  rintro e W3 ⟨rfl, t3, q3⟩
  clear hU
  go_wp2
  go_end0
  obtain ⟨t4, q4⟩ := H2.out.things t3 q3 (fun y => rfl)
  exact ⟨rfl, ew1, _, _, ⟨t4, HG.out.freed x hx ha HND.out⟩, Q2.out.trans q4, fun y => rfl⟩
end Go.Proofs.Ytjnalkeopehlbaa
