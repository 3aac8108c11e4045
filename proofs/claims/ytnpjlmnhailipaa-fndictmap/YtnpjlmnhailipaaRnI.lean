import Derived.Test.YtnpjlmnhailipaaDlF
namespace Go.Proofs.Ytnpjlmnhailipaa
open Go.RowKit Go.Maps
set_option linter.unusedVariables false
set_option linter.unusedSimpArgs false

/-- The exponent of the new size: the least from 3 on with more than three times the live entries. -/
def NM (l m : Nat) : Prop := 3 ≤ m ∧ 3 * l < 2 ^ m ∧ ∀ i, 3 ≤ i → i < m → 2 ^ i ≤ 3 * l
theorem NM.ex (l : Nat) (hl : l ≤ 43690) : ∃ m, m ≤ 17 ∧ NM l m := by
  obtain ⟨m, hm, ⟨h3, h1⟩, h2⟩ := least (P := fun m => 3 ≤ m ∧ 3 * l < 2 ^ m) 17 ⟨by decide, by omega⟩
  exact ⟨m, hm, h3, h1, fun i hi hlt => by
    have := h2 i hlt
    simp only [not_and, Nat.not_lt] at this
    exact this hi⟩
theorem NM.uniq {l m m' : Nat} (h : NM l m) (h' : NM l m') : m = m' := by
  rcases Nat.lt_trichotomy m m' with hl | hl | hl
  · have := h'.2.2 m h.1 hl; have := h.2.1; omega
  · exact hl
  · have := h.2.2 m' h'.1 hl; have := h'.2.1; omega
open Classical in
noncomputable def nsm (l : Nat) : Nat := if h : ∃ m, NM l m then Classical.choose h else 0
theorem nsm_eq {l m : Nat} (h : NM l m) : nsm l = m := by
  have hex : ∃ m, NM l m := ⟨m, h⟩
  unfold nsm
  rw [dif_pos hex]
  exact (Classical.choose_spec hex).uniq h

def liv (es : List En) : List En := es.filter fun e => !e.g
theorem liv_len (es : List En) : (liv es).length = livN es := by unfold liv livN; rw [List.countP_eq_length_filter]
noncomputable def rnD (d : Dt) : Dt × Bool := if 16 < nsm (livN d.e) then (d, false) else (⟨tabOf (2 ^ nsm (livN d.e)) (liv d.e), liv d.e, d.l⟩, true)

set_option maxRecDepth 100000 in
set_option maxHeartbeats 1000000 in
theorem renew_anyF (g : Nat) (d : Dt) (w : World) (hM : MapAt w g d) (hlv : d.l = livN d.e) (hlen : livN d.e ≤ 43690) :
    Calls Try.prog 78 #[.pointer (some ⟨g, 0, none⟩)] w fun e w' => e = .returned (.bool (rnD d).2) ∧ MapAt w' g (rnD d).1 ∧ Below g w w' ∧ Fr w w' g := by
  obtain ⟨M, hM17, hNM⟩ := NM.ex (livN d.e) hlen
  generalize hZ : rnD d = Z
  simp only [rnD, nsm_eq hNM] at hZ
  obtain ⟨ds, de, dl⟩ := d
  simp only at hlv hlen hNM hZ
  subst hlv
  obtain ⟨vs, ve, bM, oS, oE, hne, hfz⟩ := id hM
  simp only at bM oS oE
  have hll := liv_len de
  generalize hLn : livN de = l at *
  obtain ⟨hg, k0, k1, k2⟩ := id bM
  have HZ : Hid _ := hZ
  go_enter Try.func78, Try.ntmps78
  go_wp2_with fail
  go_loopw [3] (fun s wr => ∃ j : Nat, 3 ≤ j ∧ j ≤ M ∧ s = .int .i64 (2 ^ j : Nat) ∧ wr = w) (fun s _ => 131073 - (intOf s).toNat)
  case atStart => exact ⟨3, by omega, hNM.1, rfl, rfl⟩
  case round =>
    obtain ⟨j, h3, hjM, rfl, rfl⟩ := hrel
    have hj17 : 2 ^ j ≤ 131072 := by have := Nat.pow_le_pow_right (n := 2) (by decide) (Nat.le_trans hjM hM17); simpa using this
    rcases Nat.lt_or_ge j M with hlt | hge
    · have hle := hNM.2.2 j h3 hlt
      have hs := Nat.pow_succ 2 j
      have hp2 := Nat.two_pow_pos j
      generalize hK : 2 ^ j = K at *
      have hKl : (K : Int) ≤ 3 * (l : Int) := by omega
      go_wp2
      go_roundw
      case rel => exact ⟨j + 1, by omega, by omega, by rw [hs]; go_num, by trivial⟩
      case measure => simp [intOf]; omega
    · obtain rfl : j = M := by omega
      have hgt := hNM.2.1
      by_cases h16 : 16 < j
      · obtain rfl : j = 17 := by omega
        have hZ := HZ.out
        rw [if_pos (by decide)] at hZ
        subst hZ
        clear HZ
        have hgt' : ¬ ((131072 : Int) ≤ 3 * (l : Int)) := by omega
        go_wp2
        go_ret
        exact ⟨rfl, hM, Below.refl _ _, Fr.keep (Below.refl _ _) hg⟩
      · have hZ := HZ.out
        rw [if_neg h16] at hZ
        subst hZ
        clear HZ
        have hle := sz_le (show j ≤ 16 by omega)
        have hex : ∃ m, m ≤ 16 ∧ 2 ^ j = 2 ^ m := ⟨j, by omega, rfl⟩
        have HL := fun g vs ve vl es W a1 a2 a3 a4 a5 => lay_any g (2 ^ j) vs ve vl es W hex a1 a2 a3 a4 a5
        have hpos := Nat.two_pow_pos j
        generalize hK : 2 ^ j = K at *
        have hgt' : ¬ ((K : Int) ≤ 3 * (l : Int)) := by omega
        have hle' : ¬ ((65536 : Int) < (K : Int)) := by omega
        have q1 := hfz 1
        have hHK : Hid (2 ^ j = K) := hK
        have hHL : Hid (livN de = l) := hLn
        clear hK hLn hNM hZ
        go_wp2_with fail
        refine (deleteF_any (g + 1) ve de _ oE).mono ?_
        rintro e w1 ⟨ve1, rfl, oE1, hob, hg1⟩
        have hgn : some g ≠ ve.ownBlock := fun e => by have := oE.lt g e.symm; omega
        have bM1 := bM.but hg1 hgn
        have oS1 := oS.but hg1 hne
        have f1 : ∀ o, w1.frozen? ⟨g, o, none⟩ = false := fun o => (World.frozen?_of_block (hg1.block g hg hgn)).trans (hfz o)
        obtain ⟨a1, c1, rfl⟩ := oE1.form
        clear k0 k1 k2
        obtain ⟨hgs1, k0, k1, k2⟩ := id bM1
        have q1 := f1 1
        go_wp2_with fail
        have bM2 := bM1.p1 (.slice a1 (List.filter (fun e => !e.g) de).length c1)
        have f2 : ∀ o, (w1.setCell ⟨g, 1, none⟩ (.slice a1 (List.filter (fun e => !e.g) de).length c1)).frozen? ⟨g, o, none⟩ = false := fun o => (World.frozen?_setCell _ _ _ _).trans (f1 o)
        have oE2 := oE1.setBelow (a := ⟨g, 1, none⟩) (by show g < g + 1; omega) (.slice a1 (List.filter (fun e => !e.g) de).length c1)
        have hB2 : Below g wr (w1.setCell ⟨g, 1, none⟩ (.slice a1 (List.filter (fun e => !e.g) de).length c1)) := below_set (((Below.refl g wr).grown hg1 (by omega) (fun k hk => by have := oE.lt k hk; omega))) (by omega) (Nat.le_refl _) _
        have hlt1 := oE1.lt
        have hFr : ∀ x, x < wr.heap.size → x ≠ g → ve.ownBlock ≠ some x → (w1.setCell ⟨g, 1, none⟩ (.slice a1 (List.filter (fun e => !e.g) de).length c1)).heap[x]? = wr.heap[x]? := fun x hx hn h2 => by
          rw [(gb_set _ g 1 _).block x (Nat.lt_of_lt_of_le hx hg1.size) (fun e => hn (by simpa using e)), hg1.block x hx (fun e => h2 e.symm)]
        have hzF : wr.heap.size ≤ (w1.setCell ⟨g, 1, none⟩ (.slice a1 (List.filter (fun e => !e.g) de).length c1)).heap.size := by have := hg1.size; simpa [World.setCell] using this
        have hobX : (Value.slice a1 (List.filter (fun e => !e.g) de).length c1).ownBlock = ve.ownBlock := hob
        have hll' : (List.filter (fun e => !e.g) de).length = l := hll
        generalize (w1.setCell ⟨g, 1, none⟩ (.slice a1 (List.filter (fun e => !e.g) de).length c1)) = W2 at *
        refine (HL g _ _ _ (List.filter (fun e => !e.g) de) _ (by omega) bM2 f2 oE2.rd (fun a l' c' e hbl => by
          simp only [Value.slice.injEq] at e
          have := hlt1 a.block (by simp [Value.ownBlock, e.1])
          omega)).mono ?_
        rintro e w3 ⟨rfl, b, hb, bM3, f3, oS3, hg3⟩
        have hgz := bM2.1
        have oE3 := oE2.but hg3 (.inr (fun e => by have := hlt1 g e; omega))
        go_wp2
        go_ret
        refine ⟨rfl, ⟨_, _, bM3, ?_, oE3, ?_, f3⟩, hB2.trans ((Below.refl g W2).grown hg3 (by omega) (fun k hk => by cases hk; exact Nat.le_refl _)), fun x hx hn ho => ?_⟩
        · have := oS3.mono (B' := g + 1) (by omega)
          show Own w3 (g + 1) _ (tabOf (2 ^ j) (liv de))
          rw [hHK.out]; exact this
        · right
          intro e
          have h1 := oE2.lt b e.symm
          omega
        · have n1 := ho.1 _ _ _ bM
          have n2 := ho.ne oE
          refine Off.of bM3 (fun e => ?_) ho ?_
          · simp [Value.ownBlock] at e; omega
          · rw [hg3.block x (by omega) (fun e => hn (by simpa using e)), hFr x hx hn n2]
theorem renew_any (g : Nat) (d : Dt) (w : World) (hM : MapAt w g d) (hlv : d.l = livN d.e) (hlen : livN d.e ≤ 43690) :
    Calls Try.prog 78 #[.pointer (some ⟨g, 0, none⟩)] w fun e w' => e = .returned (.bool (rnD d).2) ∧ MapAt w' g (rnD d).1 ∧ Below g w w' :=
  (renew_anyF g d w hM hlv hlen).mono fun _ _ ⟨a, b, c, _⟩ => ⟨a, b, c⟩
end Go.Proofs.Ytnpjlmnhailipaa
