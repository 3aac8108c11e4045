import Derived.Test.YtjnalkeopehlbaaGcY
import Derived.Deep.RegionHeld3
import Derived.Deep.RegionHeldLaw
namespace Go.Proofs.Ytjnalkeopehlbaa
open Go.RowKit Go.Maps
set_option linter.unusedVariables false
set_option linter.unusedSimpArgs false

/-- All blocks of the state. -/
def PFh (sb : Nat) (ov ew : Value) (S : Gs) (hs ts : Nat → Sl) (b : Nat) : Prop := PF sb ov ew b ∨ ∃ x, S.al x = true ∧ ((hs x).val.ownBlock = some b ∨ (ts x).val.ownBlock = some b)
/-- What one operation does to the memory. -/
structure Ts (sb : Nat) (w : World) (ov ew : Value) (S : Gs) (hs ts : Nat → Sl) (w' : World) (ov' ew' : Value) (S' : Gs) (hs' ts' : Nat → Sl) : Prop where
  kp : Kp (PFh sb ov ew S hs ts) w w'
  nw : ∀ b, PFh sb ov' ew' S' hs' ts' b → PFh sb ov ew S hs ts b ∨ w.heap.size ≤ b
theorem Tr.ts {sb : Nat} {ov ew ew' : Value} {w w' : World} {S S' : Gs} {hs ts hs' ts' : Nat → Sl} (h : Tr sb ov w ew w' ew') (hr : ∀ x, S'.al x = true → S.al x = true ∧ hs' x = hs x ∧ ts' x = ts x) : Ts sb w ov ew S hs ts w' ov ew' S' hs' ts' := by
  refine ⟨h.kp.mono (fun b _ hp => .inl hp), fun b hb => ?_⟩
  rcases hb with hb | ⟨x, hx, hb⟩
  · rcases hb with h1 | h1 | h1
    · exact .inl (.inl (.inl h1))
    · exact .inl (.inl (.inr (.inl h1)))
    · rcases h.nw b h1 with h2 | h2
      · exact .inl (.inl (.inr (.inr h2)))
      · exact .inr h2
  · obtain ⟨a, e1, e2⟩ := hr x hx
    rw [e1, e2] at hb
    exact .inl (.inr ⟨x, a, hb⟩)
theorem Ts.trans {sb : Nat} {w w' w'' : World} {ov ew ov' ew' ov'' ew'' : Value} {S S' S'' : Gs} {hs ts hs' ts' hs'' ts'' : Nat → Sl} (h : Ts sb w ov ew S hs ts w' ov' ew' S' hs' ts') (k : Ts sb w' ov' ew' S' hs' ts' w'' ov'' ew'' S'' hs'' ts'') : Ts sb w ov ew S hs ts w'' ov'' ew'' S'' hs'' ts'' :=
  ⟨h.kp.trans k.kp (fun x hx hq => (h.nw x hq).resolve_right (by omega)), fun b hb => by
    rcases k.nw b hb with h1 | h1
    · exact h.nw b h1
    · exact .inr (Nat.le_trans h.kp.size h1)⟩
theorem NoSh.symm {u v : Value} (h : NoSh u v) : NoSh v u := by
  rcases h with h | h
  · by_cases e : v.ownBlock = none
    · exact .inl e
    · exact .inr (by rw [h]; exact e)
  · exact .inr (fun e => h e.symm)
section
variable {w w' : World} {B sb : Nat} {ov ew : Value} {S : Gs} {hs ts : Nat → Sl}
theorem SS.rebuild (h : SS w B sb ov ew S hs ts) (x : Nat) (hx : S.al x = true) (L' : List (Nat × Nat)) (h' t' : Sl)
    (kp : Kp (fun b => ov.ownBlock = some b ∨ (hs x).val.ownBlock = some b ∨ (ts x).val.ownBlock = some b) w w')
    (ho : OwnG shX 80 w' B ov (txs S (upd hs x h') (upd ts x t'))) (hh : Own w' B h'.val (ksL L')) (ht : Own w' B t'.val (vsL L'))
    (nh : ∀ b, h'.val.ownBlock = some b → (hs x).val.ownBlock = some b ∨ w.heap.size ≤ b) (nt : ∀ b, t'.val.ownBlock = some b → (ts x).val.ownBlock = some b ∨ w.heap.size ≤ b) (ap : NoSh h'.val t'.val) :
    SS w' B sb ov ew { S with hl := upd S.hl x L' } (upd hs x h') (upd ts x t') ∧ Ts sb w ov ew S hs ts w' ov ew { S with hl := upd S.hl x L' } (upd hs x h') (upd ts x t') := by
  obtain ⟨c, hc⟩ := h.box
  have hsame : ∀ {v : Value} {xs : List Int} (o : Own w B v xs), NoSh v (hs x).val → NoSh v (ts x).val → Own w' B v xs := fun {v xs} o h1 h2 => o.same (fun g e => kp.block g (o.lt g e).2 (by
    rintro (e2 | e2 | e2)
    · exact h.pf_int o e (.inr (.inl e2))
    · rcases h1 with h3 | h3
      · rw [e] at h3; cases h3
      · exact h3 (by rw [e, e2])
    · rcases h2 with h3 | h3
      · rw [e] at h3; cases h3
      · exact h3 (by rw [e, e2])))
  have nsh : ∀ {v : Value} {xs : List Int} (o : Own w B v xs), NoSh v (hs x).val → NoSh v h'.val := fun {v xs} o h1 => by
    by_cases e : v.ownBlock = none
    · exact .inl e
    · obtain ⟨g, hg⟩ : ∃ g, v.ownBlock = some g := Option.ne_none_iff_exists'.1 e
      refine .inr (fun e2 => ?_)
      rcases nh g (by rw [← e2]; exact hg) with h3 | h3
      · rcases h1 with h4 | h4
        · exact e h4
        · exact h4 (by rw [hg, h3])
      · have := (o.lt g hg).2; omega
  have nst : ∀ {v : Value} {xs : List Int} (o : Own w B v xs), NoSh v (ts x).val → NoSh v t'.val := fun {v xs} o h1 => by
    by_cases e : v.ownBlock = none
    · exact .inl e
    · obtain ⟨g, hg⟩ : ∃ g, v.ownBlock = some g := Option.ne_none_iff_exists'.1 e
      refine .inr (fun e2 => ?_)
      rcases nt g (by rw [← e2]; exact hg) with h3 | h3
      · rcases h1 with h4 | h4
        · exact e h4
        · exact h4 (by rw [hg, h3])
      · have := (o.lt g hg).2; omega
  refine ⟨⟨⟨c, ?_⟩, h.low, ?_, ?_, fun y hy => ?_, fun y hy => ?_, fun y z hy hz e => ?_, fun y z hy hz e => ?_, fun y z hy hz => ?_⟩, ⟨?_, fun b hb => ?_⟩⟩
  · refine (kp.block sb h.lt ?_).trans hc
    rintro (e | e | e)
    · exact h.out_sb e
    · exact h.pf_int (h.hr x hx) e (.inl rfl)
    · exact h.pf_int (h.tr x hx) e (.inl rfl)
  · exact ho
  · refine h.ev.same (fun g e => kp.block g (h.ev.lt g e).2 ?_)
    rintro (e2 | e2 | e2)
    · exact h.ev_out g e2 e
    · exact h.pf_int (h.hr x hx) e2 (.inr (.inr e))
    · exact h.pf_int (h.tr x hx) e2 (.inr (.inr e))
  · by_cases e : y = x
    · subst e
      simp only [upd_same]
      exact hh
    · simp only [upd_ne _ _ e]
      exact hsame (h.hr y hy) (h.ah y x hy hx e) (h.aht y x hy hx)
  · by_cases e : y = x
    · subst e
      simp only [upd_same]
      exact ht
    · simp only [upd_ne _ _ e]
      exact hsame (h.tr y hy) (h.aht x y hx hy).symm (h.at' y x hy hx e)
  · by_cases e1 : y = x
    · subst e1
      rw [upd_same, upd_ne _ _ (fun e2 => e e2.symm)]
      exact (nsh (h.hr z hz) (h.ah z y hz hx (fun e2 => e e2.symm))).symm
    · rw [upd_ne _ _ e1]
      by_cases e2 : z = x
      · subst e2
        rw [upd_same]
        exact nsh (h.hr y hy) (h.ah y z hy hx e)
      · rw [upd_ne _ _ e2]; exact h.ah y z hy hz e
  · by_cases e1 : y = x
    · subst e1
      rw [upd_same, upd_ne _ _ (fun e2 => e e2.symm)]
      exact (nst (h.tr z hz) (h.at' z y hz hx (fun e2 => e e2.symm))).symm
    · rw [upd_ne _ _ e1]
      by_cases e2 : z = x
      · subst e2
        rw [upd_same]
        exact nst (h.tr y hy) (h.at' y z hy hx e)
      · rw [upd_ne _ _ e2]; exact h.at' y z hy hz e
  · by_cases e1 : y = x
    · subst e1
      rw [upd_same]
      by_cases e2 : z = y
      · subst e2; rw [upd_same]; exact ap
      · rw [upd_ne _ _ e2]
        exact (nsh (h.tr z hz) (h.aht y z hx hz).symm).symm
    · rw [upd_ne _ _ e1]
      by_cases e2 : z = x
      · subst e2
        rw [upd_same]
        exact nst (h.hr y hy) (h.aht y z hy hx)
      · rw [upd_ne _ _ e2]; exact h.aht y z hy hz
  · refine kp.mono (fun b _ hp => ?_)
    rcases hp with e | e | e
    · exact .inl (.inr (.inl e))
    · exact .inr ⟨x, hx, .inl e⟩
    · exact .inr ⟨x, hx, .inr e⟩
  · rcases hb with hb | ⟨y, hy, hb⟩
    · exact .inl (.inl hb)
    · by_cases e : y = x
      · subst e
        rw [upd_same, upd_same] at hb
        rcases hb with e2 | e2
        · rcases nh b e2 with h3 | h3
          · exact .inl (.inr ⟨y, hx, .inl h3⟩)
          · exact .inr h3
        · rcases nt b e2 with h3 | h3
          · exact .inl (.inr ⟨y, hx, .inr h3⟩)
          · exact .inr h3
      · rw [upd_ne _ _ e, upd_ne _ _ e] at hb
        exact .inl (.inr ⟨y, hy, hb⟩)
end
theorem inc_at : ∀ (L : List (Nat × Nat)) (b k : Nat) (h : k < L.length), L[k].1 = b → (∀ q (hq : q < L.length), q < k → L[q].1 ≠ b) → incL L b = L.set k (b, L[k].2 + 1)
  | [], _, _, h, _, _ => by simp at h
  | p :: r, b, 0, h, e, _ => by
    have e1 : p.1 = b := e
    rw [incL, if_pos e1, List.set_cons_zero, e1]; rfl
  | p :: r, b, k + 1, h, e, hn => by
    have h0 : p.1 ≠ b := hn 0 (by simp) (by omega)
    rw [incL, if_neg h0, List.set_cons_succ]
    congr 1
    exact inc_at r b k (by simpa using h) e (fun q hq hk => hn (q + 1) (by simp; omega) (by omega))
theorem inc_none : ∀ (L : List (Nat × Nat)) (b : Nat), (∀ q (hq : q < L.length), L[q].1 ≠ b) → incL L b = L ++ [(b, 1)]
  | [], _, _ => rfl
  | p :: r, b, hn => by
    have h0 : p.1 ≠ b := hn 0 (by simp)
    rw [incL, if_neg h0, inc_none r b (fun q hq => hn (q + 1) (by simp; omega))]; rfl
theorem dec_at : ∀ (L : List (Nat × Nat)) (b k : Nat) (h : k < L.length), L[k].1 = b → (∀ q (hq : q < L.length), q < k → L[q].1 ≠ b) → decL L b = if L[k].2 = 1 then L.take k ++ L.drop (k + 1) else L.set k (b, L[k].2 - 1)
  | [], _, _, h, _, _ => by simp at h
  | p :: r, b, 0, h, e, _ => by
    have e1 : p.1 = b := e
    rw [decL, if_pos e1]
    show (if p.2 = 1 then r else (p.1, p.2 - 1) :: r) = if p.2 = 1 then [] ++ r else (b, p.2 - 1) :: r
    rw [e1]; rfl
  | p :: r, b, k + 1, h, e, hn => by
    have h0 : p.1 ≠ b := hn 0 (by simp) (by omega)
    have ih := dec_at r b k (by simpa using h) e (fun q hq hk => hn (q + 1) (by simp; omega) (by omega))
    rw [decL, if_neg h0, ih]
    have hk : k < r.length := by simpa using h
    have eg : (p :: r)[k + 1] = r[k] := rfl
    rw [eg]
    by_cases h1 : r[k].2 = 1
    · rw [if_pos h1, if_pos h1]; rfl
    · rw [if_neg h1, if_neg h1]; rfl
theorem ks_set (L : List (Nat × Nat)) (k v : Nat) (h : k < L.length) : ksL (L.set k (L[k].1, v)) = ksL L ∧ vsL (L.set k (L[k].1, v)) = (vsL L).set k (v : Int) := by
  unfold ksL vsL
  constructor
  · rw [List.map_set]
    apply List.ext_getElem
    · simp
    · intro i h1 h2
      by_cases e : k = i
      · subst e; simp
      · rw [List.getElem_set_ne e]
  · rw [List.map_set]
theorem mem_keys {L : List (Nat × Nat)} {b : Nat} : b ∈ L.map (·.1) ↔ ∃ k, ∃ h : k < L.length, L[k].1 = b := by
  rw [List.mem_map]
  constructor
  · rintro ⟨p, hp, e⟩
    obtain ⟨k, h, rfl⟩ := List.getElem_of_mem hp
    exact ⟨k, h, e⟩
  · rintro ⟨k, h, e⟩
    exact ⟨L[k], List.getElem_mem h, e⟩
end Go.Proofs.Ytjnalkeopehlbaa
