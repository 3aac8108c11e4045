import Derived.Test.YtfbibbjiomfncaaFtN
namespace Go.Proofs.Ytfbibbjiomfncaa
open Go.RowKit Go.Maps
set_option linter.unusedVariables false
set_option linter.unusedSimpArgs false

theorem own_apart {α : Type} {S : Sh α} {T : TypeId} {w : World} {B B' g n c : Nat} {v : Value} {xs : List α} {zs : List Int} (h : OwnG S T w B (.slice (some ⟨g, 0, none⟩) n c) xs) (h' : Own w B' v zs) (hT : T ≠ 2) : v.ownBlock ≠ some g := by
  intro ho
  rcases h'.shape with ⟨e1, _⟩ | ⟨g1, c1, e1, _⟩
  · rw [e1] at ho; cases ho
  · rw [e1] at ho h'
    simp only [Value.ownBlock, Option.some.injEq] at ho
    obtain ⟨cur, hh, _⟩ := h'.raw
    obtain ⟨⟨_, h2⟩, _⟩ := h
    rcases h2 with ⟨e2, _⟩ | ⟨g2, cap2, cur2, e2, _, hh2, _⟩
    · cases e2
    · simp only [Value.slice.injEq, Option.some.injEq, Addr.mk.injEq, and_true] at e2
      rw [← e2.1, ← ho, hh] at hh2
      simp only [Option.some.injEq, Obj.cells.injEq] at hh2
      exact hT hh2.2.1.symm
/-- A row of rows that is ours, the rows in it too, each by itself. -/
structure LO (w : World) (B g n cap : Nat) (sls : List Sl) (Ls : List (List Int)) : Prop where
  out : OwnG shL 51 w B (.slice (some ⟨g, 0, none⟩) n cap) sls
  len : sls.length = Ls.length
  row : ∀ k (h : k < sls.length) (h' : k < Ls.length), Own w B sls[k].val Ls[k]
  apart : ∀ j k (hj : j < sls.length) (hk : k < sls.length), j < k → sls[j].val.ownBlock = none ∨ sls[j].val.ownBlock ≠ sls[k].val.ownBlock
theorem LO.ln {w : World} {B g n cap : Nat} {sls : List Sl} {Ls : List (List Int)} (h : LO w B g n cap sls Ls) : LLn w B g n cap Ls :=
  ⟨sls, h.out, h.len, fun k hk hk' => ⟨(h.row k hk hk').rd, fun _ b off m c e => by
    have ho := h.row k hk hk'
    have hb : sls[k].val.ownBlock = some b := by rw [e]; rfl
    exact ⟨(ho.lt b hb).2, fun e2 => own_apart h.out ho (by decide) (by rw [hb, e2])⟩⟩⟩
theorem LO.keep {w w' : World} {B g n cap : Nat} {sls : List Sl} {Ls : List (List Int)} (h : LO w B g n cap sls Ls) (hb : Below w.heap.size w w') : LO w' B g n cap sls Ls :=
  ⟨h.out.keep hb, h.len, fun k hk hk' => (h.row k hk hk').keep hb, h.apart⟩
theorem LO.made {w : World} {B g cap : Nat} (h : w.ownsRow B 51 1 (.slice (some ⟨g, 0, none⟩) 0 cap) 0 []) : LO w B g 0 cap [] [] :=
  ⟨⟨h, by simp, by simp⟩, rfl, fun k hk => by simp at hk, fun j k hj => by simp at hj⟩
theorem LO.n {w : World} {B g n cap : Nat} {sls : List Sl} {Ls : List (List Int)} (h : LO w B g n cap sls Ls) : n = Ls.length := by
  have := h.out.len (g := g) (cap := cap); rw [this, h.len]
/-- 'append(lines, line)' where all is ours; the line is younger than all others. -/
theorem wpList_append_LO {w : World} {ops : Array Oper} {rest : List Oper} {o : Oper} {a : Act} {Q : Exit → Act → World → Prop} (hgd : o.guard = none) (s x : Operand) (t : TypeId)
    (ho : o.op = .call { callee := .builtin .append, args := #[s, x], argTypes := #[t, t] }) (ht : Try.prog.underlying t = some (.slice 51))
    (B g n cap : Nat) (sls : List Sl) (Ls : List (List Int)) (hs : a.eval s = .slice (some ⟨g, 0, none⟩) n cap) (hL : LO w B g n cap sls Ls) (xb xc : Nat) (hx : a.eval x = .slice (some ⟨xb, 0, none⟩) 1 xc) (sa : Option Addr) (sn sc : Nat) (l : List Int)
    (hc : w.cell? ⟨xb, 0, none⟩ = some (.slice sa sn sc)) (hr : Own w B (.slice sa sn sc) l) (hy : ∀ k (h : k < sls.length), sls[k].val.ownBlock = none ∨ sls[k].val.ownBlock ≠ (Value.slice sa sn sc).ownBlock) (hlen : n ≤ 1000) (hB : B ≤ w.heap.size)
    (h : ∀ g' cap' w', LO w' B g' (n + 1) cap' (sls ++ [⟨sa, sn, sc⟩]) (Ls ++ [l]) → w.grownBy w' (some g) → (g' = g ∨ g' = w.heap.size) → wpList Try.prog ops Q rest (a.put o.dst (.slice (some ⟨g', 0, none⟩) (n + 1) cap')) w') :
    wpList Try.prog ops Q (o :: rest) a w := by
  obtain ⟨hO, hl, hR, hA⟩ := hL
  have hn := hO.len (g := g) (cap := cap)
  subst hn
  obtain ⟨i0, hi, hz0, hz1, hz2⟩ := info_parts Try.info51
  refine wpList_append_lies w hgd s x t ho B 51 i0 (.slice none 0 0) 1 24 ht hi hz0 hz1 hz2 rfl (by decide) (.slice (some ⟨g, 0, none⟩) sls.length cap) sls.length _ hs hO.1 ⟨xb, 0, none⟩ 1 xc [.slice sa sn sc] hx (by simp) ?_ (by simp [Value.oneCell']) (by decide) (by unfold maxLen; omega) (by omega) hB _ rfl ?_
  · intro j u hj
    cases j with
    | zero => simp at hj; subst hj; simpa [Addr.add] using hc
    | succ j => simp at hj
  · intro g' c' w' h1 h2 h3 h4
    have hgr : w.grownBy w' (some g) := h2
    have hg' : g' = g ∨ g' = w.heap.size := h3.imp (fun e => by simpa [Value.ownBlock] using e.symm) id
    have hkeep : ∀ (v : Value) (zs : List Int), Own w B v zs → Own w' B v zs := fun v zs hv => hv.but hgr (by
      right; exact own_apart hO hv (by decide))
    have hfin := h g' c' w' ⟨⟨by simpa [shL, Sl.val] using h1, by simp; omega, fun y hy => trivial⟩, by simp [hl], fun k hk hk' => ?_, fun j k hj hk hjk => ?_⟩ hgr hg'
    · exact hfin
    · rw [List.getElem_append, List.getElem_append]
      split
      · rename_i hk1
        rw [dif_pos (by omega)]
        exact hkeep _ _ (hR k hk1 (by omega))
      · rename_i hk1
        rw [dif_neg (by omega)]
        simp only [List.getElem_singleton]
        exact hkeep _ _ hr
    · have hj1 : j < sls.length := by simp at hj hk; omega
      rw [List.getElem_append, dif_pos hj1, List.getElem_append]
      split
      · rename_i hk1
        exact hA j k hj1 hk1 hjk
      · simp only [List.getElem_singleton]
        exact hy j hj1

set_option maxRecDepth 100000 in
set_option maxHeartbeats 2000000 in
theorem linesO_any (v : Value) (cs : List Cl) (w : World) (hr : RdC w v cs) (hok : OkCs cs) :
    Calls Try.prog 45 #[v] w fun e w' => ∃ g cap sls, e = .returned (.slice (some ⟨g, 0, none⟩) cs.length cap) ∧ LO w' w.heap.size g cs.length cap sls (lnsC cs cs.length) ∧ Below w.heap.size w w' := by
  obtain ⟨i0, hi0, hz0, hz1, hz2⟩ := info_parts Try.info51
  obtain ⟨ps, ⟨a, cap, rfl, hl, hz, hn0, hc⟩, hpl, hK⟩ := hr
  obtain ⟨N, hN⟩ : ∃ N, cs.length = N := ⟨_, rfl⟩
  have HN : Hid (cs.length = N) := hN
  have HP : Hid (ps.length = N) := by rw [hpl]; exact hN
  have hN2 : N ≤ 200 := by rw [← hN]; exact hok.1
  rw [hpl, hN] at hl ⊢
  try rw [hN]
  have HO : Hid (OkCs cs) := hok
  clear hN hpl hok
  go_enter Try.func45, Try.ntmps45
  go_wp2_with (at_make; refine wpList_make_own _ rfl _ _ 29 rfl w.heap.size 51 i0 _ 1 Try.underlying29 hi0 hz0 hz1 .i64 .i64 _ N rfl rfl (by go_num) (by rw [hz2]; omega) (by unfold maxLen; omega) (by simp) ?_; intro w1 hown hgrow; have hB1 := (Below.refl w.heap.size w).grown hgrow (Nat.le_refl _) (by intro k h; cases h))
  have hL1 : LO w1 w.heap.size w.heap.size 0 N [] [] := LO.made hown
  clear hown hgrow
  go_loopw [3, 11] (fun v i wr => ∃ (k g c : Nat) (sls : List Sl), k ≤ N ∧ i = .int .i64 k ∧ v = .slice (some ⟨g, 0, none⟩) k c ∧ LO wr w.heap.size g k c sls (lnsC cs k) ∧ Below w.heap.size w wr) (fun _ i _ => N - (intOf i).toNat)
  case atStart => exact ⟨0, _, _, _, Nat.zero_le _, rfl, rfl, by simpa [lnsC] using hL1, hB1⟩
  case round =>
    obtain ⟨k, g, oc, sls, hk, rfl, rfl, hL, hB⟩ := hrel
    clear hL1 hB1
    generalize wr = W1 at *
    have hgz := LL.size hL.ln
    have hz1' := hB.size
    by_cases hlt : k < N
    · have hlti : (k : Int) < (N : Int) := by omega
      have hkc : k < cs.length := by rw [HN.out]; exact hlt
      have hkp : k < ps.length := by rw [HP.out]; exact hlt
      obtain ⟨b, off, rfl, hb, hcell⟩ := hc (by omega)
      obtain ⟨d0, d1⟩ := RdP.at (fun k hk j hj => (hB.cell (p := ⟨b, _, none⟩) hb).trans (hcell k hk j hj)) k hkp
      have hKk := (hK k hkp hkc).1.keep hB
      obtain ⟨aa, ac, ea⟩ := (hK k hkp hkc).2.form
      have hbs := HO.out.2 k hkc
      have Hlk : Hid _ := lns_succ cs k hkc
      have hlo := fun j h => lns_ok HO.out k (by omega) j h
      have hll := lns_len cs k
      generalize ps[k].s1 = sv at *
      generalize ps[k].s2 = sv2 at *
      generalize cs[k].a.length = AN at ea
      subst ea
      generalize hsv2 : (Value.slice aa AN ac) = sv2 at d1
      subst hsv2
      generalize cs[k].b = bs at *
      generalize lnsC cs k = prev at *
      have HLo : Hid _ := hlo
      have HLl : Hid _ := hll
      have hbx := ((Below.refl _ W1).alloc (Nat.le_refl _) (.cells #[sv, .slice aa AN ac] 54) : Below W1.heap.size W1 (W1.alloc (.cells #[sv, .slice aa AN ac] 54)))
      have hL2 := hL.keep hbx
      have hK2 := hKk.keep hbx
      have hB2 := hB.trans (hbx.mono hz1')
      obtain ⟨sa, sc, es⟩ := hKk.form
      subst es
      clear hcell hK hc hlo hll
      go_wp2_with fail
      refine (lineI_any k _ bs _ prev _ hK2 (LLn.rl hL2.ln) HLl.out (by omega) hbs.1.1 hbs.1.len HLo.out).mono ?_
      rintro e w3 ⟨u, rfl, hO3, hB3⟩
      obtain ⟨ua, uc, eu⟩ := hO3.form
      subst eu
      generalize lineC k bs prev = LC at *
      have hL3 := (hL2.keep hB3).keep ((Below.refl _ w3).alloc (Nat.le_refl _) (.cells #[.slice ua LC.length uc] 51))
      have hz3 := hB3.size
      have hX3 : Own (w3.alloc (.cells #[.slice ua LC.length uc] 51)) w.heap.size (.slice ua LC.length uc) LC := (hO3.mono (by simp; omega)).alloc _
      have hY3 : ∀ k (h : k < sls.length), sls[k].val.ownBlock = none ∨ sls[k].val.ownBlock ≠ (Value.slice ua LC.length uc).ownBlock := fun j hj => by
        cases hob : sls[j].val.ownBlock with
        | none => exact .inl rfl
        | some q =>
          right
          have h1 := ((hL2.row j hj (by rw [← hL2.len]; exact hj)).lt q hob).2
          intro e2
          have h2 := (hO3.lt q e2.symm).1
          omega
      have hC3 : (w3.alloc (.cells #[.slice ua LC.length uc] 51)).cell? ⟨w3.heap.size, 0, none⟩ = some (.slice ua LC.length uc) := by rw [World.cell?_alloc_at _ _ _ _ rfl]; rfl
      simp at hz3
      go_wp2_with (at_builtin; refine wpList_append_LO rfl _ _ 29 rfl Try.underlying29 w.heap.size g k oc sls _ rfl hL3 w3.heap.size 1 rfl ua LC.length uc LC hC3 hX3 hY3 (by omega) (by simp; omega) ?_; intro g4 c4 w4 hL4 hg4 hw4)
      have hB4 : Below w.heap.size w w4 := ((hB2.trans (hB3.mono hB2.size)).alloc (by omega) _).trans (gb_to hg4 (fun j hj => (by cases hj; exact hgz.1)) (by simp; omega))
      rw [← Hlk.out] at hL4
      go_roundw
      case rel => exact ⟨k + 1, g4, c4, _, by omega, by go_num, rfl, hL4, hB4⟩
      case measure => simp [intOf]; omega
    · obtain rfl : N = k := by omega
      have hlti : ¬ (N : Int) < (N : Int) := by omega
      go_wp2
      go_ret
      first | exact ⟨_, _, _, rfl, hL, hB⟩ | exact ⟨_, _, rfl, ⟨_, hL⟩, hB⟩
end Go.Proofs.Ytfbibbjiomfncaa
