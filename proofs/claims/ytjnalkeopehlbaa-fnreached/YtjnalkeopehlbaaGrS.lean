import Derived.Test.YtjnalkeopehlbaaGrP
import Derived.Test.YtjnalkeopehlbaaGrD
import Derived.Deep.LoopGhost
import Derived.Deep.Cut
import Derived.Deep.RegionHeld3
import Derived.Deep.RegionHeldLaw
namespace Go.Proofs.Ytjnalkeopehlbaa
open Go.RowKit Go.Maps
set_option linter.unusedVariables false
set_option linter.unusedSimpArgs false

theorem ansR_bad {n : Int} {hs : List Gp} {rs : List Int} (h : ¬ OkR n hs rs) : ansR n hs rs = [] := by unfold ansR; rw [if_neg h]
theorem OkE.step {n : Int} {hs : List Gp} {k : Nat} (h : OkE n (hs.take k)) (hk : k < hs.length) (h1 : 1 ≤ hs[k].a ∧ hs[k].a ≤ n ∧ 1 ≤ hs[k].b ∧ hs[k].b ≤ n) : OkE n (hs.take (k + 1)) := by
  intro e he
  rw [List.take_succ_eq_append_getElem hk, List.mem_append, List.mem_singleton] at he
  rcases he with he | he
  · exact h e he
  · rw [he]; exact h1
theorem OkT.step {n : Int} {rs : List Int} {k : Nat} (h : OkT n (rs.take k)) (hk : k < rs.length) (h1 : 1 ≤ rs[k] ∧ rs[k] ≤ n) : OkT n (rs.take (k + 1)) := by
  intro e he
  rcases take_mem hk he with he | he
  · exact h e he
  · rw [he]; exact h1
set_option maxRecDepth 100000 in
set_option maxHeartbeats 1500000 in
theorem reachS_any (n : Int) (v u : Value) (hs : List Gp) (rs : List Int) (w : World) (hx : RdGo w v hs) (hy : Rd w u rs) (hhl : hs.length ≤ 1048576) (hrl : rs.length ≤ 1048576) :
    Calls Try.prog 8 #[.int .i64 n, v, u] w fun e w' => ∃ a c, e = .returned (.slice a (ansR n hs rs).length c) ∧ Own w' w.heap.size (.slice a (ansR n hs rs).length c) (ansR n hs rs) ∧ Below w.heap.size w w' := by
  obtain ⟨a, cap, rfl, hl, hz, hn0, hc⟩ := id hx
  obtain ⟨a', cap', rfl, hl', hz', hn0', hc'⟩ := id hy
  have bO : Below w.heap.size w (w.alloc (.cells #[] 2)) := (Below.refl _ _).alloc (Nat.le_refl _) _
  have oO := Own.empty w
  have hbad : ¬ OkR n hs rs → ∀ w', Below (w.alloc (.cells #[] 2)).heap.size (w.alloc (.cells #[] 2)) w' → ∃ a c, Ending.returned (.slice (some ⟨w.heap.size, 0, none⟩) 0 0) = .returned (.slice a (ansR n hs rs).length c) ∧ Own w' w.heap.size (.slice a (ansR n hs rs).length c) (ansR n hs rs) ∧ Below w.heap.size w w' := by
    intro h w' hb
    rw [ansR_bad h]
    exact ⟨_, _, rfl, oO.keep hb, bO.trans (hb.mono bO.size)⟩
  have HB : Hid _ := hbad
  clear hbad
  by_cases h0 : n < 0
  · go_enter Try.func8, Try.ntmps8
    go_wp2
    go_ret
    exact HB.out (fun h => by have := h.1; omega) _ (Below.refl _ _)
  by_cases h1 : 2000 < n
  · go_enter Try.func8, Try.ntmps8
    go_wp2
    go_ret
    exact HB.out (fun h => by have := h.2.1; omega) _ (Below.refl _ _)
  obtain ⟨N, rfl⟩ : ∃ N : Nat, n = N := ⟨n.toNat, by omega⟩
  have hN : N ≤ 2000 := by omega
  clear h0 h1
  have h0 : ¬ (N : Int) < 0 := by omega
  have h1 : ¬ (2000 : Int) < (N : Int) := by omega
  obtain ⟨HL, hHL⟩ : ∃ HL, hs.length = HL := ⟨_, rfl⟩
  obtain ⟨RL, hRL⟩ : ∃ RL, rs.length = RL := ⟨_, rfl⟩
  have HHL : Hid (hs.length = HL) := hHL
  have HRL : Hid (rs.length = RL) := hRL
  rw [hHL] at hhl
  rw [hRL] at hrl
  rw [hHL, hRL]
  have HC : Hid _ := hc
  have HC' : Hid _ := hc'
  have HZ : Hid _ := hz
  have HZ' : Hid _ := hz'
  have HO : Hid _ := oO
  clear hHL hRL hc hc' hz hz' hl hl' hn0 hn0' hx hy oO
  go_enter Try.func8, Try.ntmps8
  go_wp2_with fail
  generalize hw1 : w.alloc (.cells #[] 2) = w1 at *
  clear hw1
  go_loopw [8] (fun i wr => ∃ k : Nat, k ≤ HL ∧ i = .int .i64 k ∧ OkE N (hs.take k) ∧ wr = w1) (fun i _ => HL - (intOf i).toNat)
  case atStart => exact ⟨0, Nat.zero_le _, rfl, by simp [OkE], rfl⟩
  case round =>
    obtain ⟨k, hk, rfl, hE, rfl⟩ := hrel
    by_cases hlt : k < HL
    · have hkl : k < hs.length := by rw [HHL.out]; exact hlt
      obtain ⟨b, off, rfl, hb, hcell⟩ := HC.out (by omega)
      obtain ⟨d0, d1, d2⟩ := RdGo.at (fun k hk j hj => (bO.cell (p := ⟨b, _, none⟩) hb).trans (hcell k hk j hj)) k hkl
      have hok := HZ.out hs[k] (List.getElem_mem hkl)
      have hst := fun h => hE.step hkl h
      have HST : Hid _ := hst
      have hnb : ¬ (1 ≤ hs[k].a ∧ hs[k].a ≤ N ∧ 1 ≤ hs[k].b ∧ hs[k].b ≤ N) → ¬ OkR N hs rs := fun h1 h2 => h1 (h2.2.2.1 hs[k] (List.getElem_mem hkl))
      have HNB : Hid _ := hnb
      obtain ⟨ha, hbb⟩ := hok.2
      generalize hs[k].c = C at *
      generalize hs[k].a = A at *
      generalize hs[k].b = B at *
      clear hcell hst hnb hok hE
      have hlti : (k : Int) < (HL : Int) := by omega
      by_cases g1 : A < 1
      · go_wp2
        go_ret
        exact HB.out (HNB.out (by omega)) _ (Below.refl _ _)
      · by_cases g2 : (N : Int) < A
        · go_wp2
          go_ret
          exact HB.out (HNB.out (by omega)) _ (Below.refl _ _)
        · by_cases g3 : B < 1
          · go_wp2
            go_ret
            exact HB.out (HNB.out (by omega)) _ (Below.refl _ _)
          · by_cases g4 : (N : Int) < B
            · go_wp2
              go_ret
              exact HB.out (HNB.out (by omega)) _ (Below.refl _ _)
            · go_wp2
              go_roundw
              case rel => exact ⟨k + 1, by omega, by go_num, HST.out (by omega), by first | rfl | trivial⟩
              case measure => simp [intOf]; omega
    · obtain rfl : HL = k := by omega
      have HE : Hid (OkE N hs) := by
        show OkE N hs
        rw [← HHL.out, List.take_length] at hE
        exact hE
      clear hE hk
      generalize wr = W1 at *
      obtain ⟨i0, hi0, hz0, hz1, hz2⟩ := info_parts Try.info4
      go_wp2_with (at_make; refine wpList_make_full _ rfl _ _ 51 rfl W1.heap.size 4 i0 _ 1 Try.underlying51 hi0 hz0 hz1 .i64 .i64 _ _ N rfl rfl rfl rfl (by rw [hz2]; omega) (by unfold maxLen; omega) (Nat.le_refl _) ?_; intro w2 hown hgrow)
      have oS : OwnG shB 4 w2 W1.heap.size (.slice (some ⟨W1.heap.size, 0, none⟩) N N) (List.replicate N false) := OwnG.made1 false rfl rfl trivial rfl (by omega) hown
      have b2 : Below W1.heap.size W1 w2 := (Below.refl _ _).grown hgrow (Nat.le_refl _) (by intro k h; cases h)
      have oT := Own.empty w2
      have b3 : Below w2.heap.size w2 (w2.alloc (.cells #[] 2)) := (Below.refl _ _).alloc (Nat.le_refl _) _
      have oS3 := oS.keep b3
      have b13 := b2.trans (b3.mono b2.size)
      have hs2 : W1.heap.size < w2.heap.size := (oS.lt _ rfl).2
      clear hown hgrow oS b2 i0 hi0 hz0 hz1 hz2
      generalize w2.alloc (.cells #[] 2) = w3 at *
      have HT : Hid _ := oT
      have HS3 : Hid _ := oS3
      clear oT oS3 b3
      go_loopw [11] (fun i wq => ∃ k : Nat, k ≤ RL ∧ i = .int .i64 k ∧ OkT N (rs.take k) ∧ wq = w3) (fun i _ => RL - (intOf i).toNat)
      case atStart => exact ⟨0, Nat.zero_le _, rfl, by simp [OkT], rfl⟩
      case round =>
        obtain ⟨k2, hk, rfl, hE, rfl⟩ := hrel
        by_cases hlt : k2 < RL
        · have hkl : k2 < rs.length := by rw [HRL.out]; exact hlt
          obtain ⟨b, off, rfl, hb, hcell⟩ := HC'.out (by omega)
          have d0 := (b13.cell (p := ⟨b, off + k2, none⟩) (by have := bO.size; show b < _; omega)).trans ((bO.cell (p := ⟨b, off + k2, none⟩) hb).trans (hcell k2 hkl))
          have hge : rs.getD k2 0 = rs[k2] := by simp [List.getD, hkl]
          rw [hge] at d0
          have hok := HZ'.out rs[k2] (List.getElem_mem hkl)
          have hst := fun h => hE.step hkl h
          have HST : Hid _ := hst
          have hnb : ¬ (1 ≤ rs[k2] ∧ rs[k2] ≤ N) → ¬ OkR N hs rs := fun h1 h2 => h1 (h2.2.2.2 rs[k2] (List.getElem_mem hkl))
          have HNB : Hid _ := hnb
          generalize rs[k2] = A at *
          clear hcell hst hnb hE hge
          have hlti : (k2 : Int) < (RL : Int) := by omega
          by_cases g1 : A < 1
          · go_wp2
            go_ret
            exact HB.out (HNB.out (by omega)) _ b13
          · by_cases g2 : (N : Int) < A
            · go_wp2
              go_ret
              exact HB.out (HNB.out (by omega)) _ b13
            · go_wp2
              go_roundw
              case rel => exact ⟨k2 + 1, by omega, by go_num, HST.out (by omega), by first | rfl | trivial⟩
              case measure => simp [intOf]; omega
        · obtain rfl : RL = k2 := by omega
          have HTT : Hid (OkT N rs) := by
            show OkT N rs
            rw [← HRL.out, List.take_length] at hE
            exact hE
          clear hE hk
          have HOK : Hid (OkR N hs rs) := ⟨by omega, by omega, HE.out, HTT.out⟩
          generalize wr = W3 at *
          have hRI := RI.start N hs rs
          have HRI : Hid _ := hRI
          clear hRI
          obtain ⟨sb, hsb⟩ : ∃ sb, W1.heap.size = sb := ⟨_, rfl⟩
          obtain ⟨tb0, htb⟩ : ∃ tb, w2.heap.size = tb := ⟨_, rfl⟩
          rw [hsb] at HS3 hs2 b13
          rw [htb] at HT hs2
          rw [hsb, htb]
          have b13' : Below sb W1 W3 := b13
          clear htb w2
          go_wp2_with fail
          go_loopw [10, 12] (fun q i wq => ∃ (k tb tc : Nat) (sn : List Bool) (ts : List Int), k ≤ RL ∧ i = .int .i64 k ∧ q = .slice (some ⟨tb, 0, none⟩) ts.length tc ∧ Own wq tb0 (.slice (some ⟨tb, 0, none⟩) ts.length tc) ts ∧ OwnG shB 4 wq sb (.slice (some ⟨sb, 0, none⟩) N N) sn ∧ RI N hs rs k sn ts ∧ ts.length ≤ k ∧ Below sb W1 wq) (fun _ i _ => RL - (intOf i).toNat)
          case atStart => exact ⟨0, _, _, _, [], Nat.zero_le _, rfl, rfl, HT.out, HS3.out, HRI.out, Nat.le_refl _, b13'⟩
          case round =>
            obtain ⟨k3, tb, tc, sn, ts, hk, rfl, rfl, oT, oS, hR, hts, bQ⟩ := hrel
            clear HRI HT HS3 b13 b13'
            generalize wr = Q1 at *
            by_cases hlt : k3 < RL
            · have hkl : k3 < rs.length := by rw [HRL.out]; exact hlt
              obtain ⟨b, off, rfl, hb, hcell⟩ := HC'.out (by omega)
              have hbs : b < sb := by rw [← hsb]; have := bO.size; omega
              have hb1 : b < W1.heap.size := by rw [hsb]; exact hbs
              have bQ' : ∀ W, Below sb W1 W → W.cell? ⟨b, off + k3, none⟩ = some (.int .i64 (rs.getD k3 0)) := fun W hW => (hW.cell (p := ⟨b, off + k3, none⟩) hbs).trans ((bO.cell (p := ⟨b, off + k3, none⟩) hb).trans (hcell k3 hkl))
              have hge : rs.getD k3 0 = rs[k3] := by simp [List.getD, hkl]
              rw [hge] at bQ'
              obtain ⟨ok1, ok2⟩ := HTT.out rs[k3] (List.getElem_mem hkl)
              have hsame := fun h => hR.same hkl h
              have hmore := hR.more hkl ok1 ok2
              have HSame : Hid _ := hsame
              have HMore : Hid _ := hmore
              obtain ⟨j, hj⟩ : ∃ j : Nat, rs[k3] = (j : Int) + 1 := ⟨(rs[k3] - 1).toNat, by omega⟩
              have hsl := hR.len
              have hjN : j < N := by omega
              have hjl : j < sn.length := by omega
              have d0 := bQ' _ bQ
              have cS := oS.cell j hjl 0 (by decide)
              have fS := oS.frozen j
              have cS2 : Q1.cell? ⟨sb, j, none⟩ = some (.bool sn[j]) := by
                have : j * shB.n + 0 = j := by show j * 1 + 0 = j; omega
                rw [this] at cS
                exact cS
              have hSn : Sn sn ((j : Int) + 1) ↔ sn[j] = true := by
                unfold Sn
                rw [show ((j : Int) + 1 - 1).toNat = j by omega]
                simp [List.getD, hjl]
                omega
              rw [hj] at bQ' d0 HSame HMore
              clear hcell hsame hmore hge hR cS hj
              obtain ⟨A, hA⟩ : ∃ A : Int, (j : Int) + 1 = A := ⟨_, rfl⟩
              rw [hA] at bQ' d0
              have hA1 : A - 1 = (j : Int) := by omega
              have HA : Hid ((j : Int) + 1 = A) := hA
              clear hA
              have hlti : (k3 : Int) < (RL : Int) := by omega
              have hji : (j : Int) < (N : Int) := by omega
              have a1 : 1 ≤ A := by omega
              have a2 : A ≤ 2000 := by omega
              cases hbv : sn[j]
              · rw [hbv] at cS2
                have hgrw := gb_set Q1 sb j (.bool true)
                have bQ2 : Below sb W1 (Q1.setCell ⟨sb, j, none⟩ (.bool true)) := bQ.setCell (Nat.le_refl _) _
                have oS2 := oS.put j hjl 0 (by decide) (.bool true) true trivial (by rfl)
                have oT2 := oT.setBelow (a := ⟨sb, j, none⟩) (show sb < tb0 by omega) (.bool true)
                have hput : j * shB.n + 0 = j := by show j * 1 + 0 = j; omega
                rw [hput] at oS2
                have d2 := bQ' _ bQ2
                clear HSame hSn hput
                go_upto_region 21 with fail
                generalize Q1.setCell ⟨sb, j, none⟩ (.bool true) = Q2 at *
                clear d0 cS2 fS oS oT bQ hgrw bQ'
                have tl := (oT2.lt tb rfl)
                have al : Below Q2.heap.size Q2 (Q2.alloc (.cells #[.int .i64 A] 2)) := (Below.refl _ _).alloc (Nat.le_refl _) _
                have oS3 := oS2.keep al
                have oT3 := oT2.keep al
                have bQ3 := bQ2.trans (al.mono (by rw [← hsb]; exact bQ2.size))
                have cA : (Q2.alloc (.cells #[.int .i64 A] 2)).cell? ⟨Q2.heap.size, 0, none⟩ = some (.int .i64 A) := by rw [World.cell?_alloc_at _ _ _ _ rfl]; rfl
                have hsz := bQ3.size
                go_wp2_with (at_builtin; refine wpList_append_intL rfl (.tmp 111) (.tmp 116) 23 rfl Try.underlying23 tb0 _ ts A (by omega) Q2.heap.size 1 rfl rfl oT3 cA (by omega) (by have := oT3.lt tb rfl; omega) ?_; intro tb' tc' w' oT4 hg4 hl4 hz4)
                have hM := HMore.out
                rw [show ((j : Int) + 1 - 1).toNat = j by omega, HA.out] at hM
                have oS4 := oS3.but hg4 (.inr (by show some sb ≠ some tb; intro e; have h2 := tl.1; have e2 : sb = tb := Option.some.inj e; omega))
                have b4 := gb_to (B := sb) hg4 (by intro k h; have h2 := tl.1; have e : tb = k := Option.some.inj h; omega) (by have h2 := al.size; have h3 := bQ2.size; omega)
                have bQ4 := bQ3.trans b4
                clear HMore
                go_roundw
                case rel => exact ⟨k3 + 1, tb', tc', sn.set j true, ts ++ [A], by omega, by go_num, by simp, by simpa using oT4, oS4, hM, by simp; omega, bQ4⟩
                case measure => simp [intOf]; omega
              · rw [hbv] at cS2
                have hS1 := HSame.out (hSn.2 hbv)
                clear HMore HSame hSn
                go_wp2
                go_roundw
                case rel => exact ⟨k3 + 1, tb, tc, sn, ts, by omega, by go_num, rfl, oT, oS, hS1, by omega, bQ⟩
                case measure => simp [intOf]; omega
            · obtain rfl : RL = k3 := by omega
              have hDI : DI N hs rs sn ts fun _ => False := by
                rw [← HRL.out] at hR
                exact hR.di
              have HDI : Hid _ := hDI
              have hsnl := hR.len
              clear hDI hR hk
              obtain ⟨i0, hi0, hz0, hz1, hz2⟩ := info_parts Try.info23
              obtain ⟨nb, hnb⟩ : ∃ nb, Q1.heap.size = nb := ⟨_, rfl⟩
              go_wp2_with (at_make; refine wpList_make_full _ rfl _ _ 52 rfl Q1.heap.size 23 i0 _ 1 Try.underlying52 hi0 hz0 hz1 .i64 .i64 _ _ N rfl rfl rfl rfl (by rw [hz2]; omega) (by unfold maxLen; omega) (Nat.le_refl _) ?_; intro Q2 hown hgrow)
              have b12 : Below Q1.heap.size Q1 Q2 := (Below.refl _ _).grown hgrow (Nat.le_refl _) (by intro k h; cases h)
              rw [hnb] at hown b12
              try rw [hnb]
              have nx := NX.made (by omega) hown
              have tl := oT.lt tb rfl
              have sl := oS.lt sb rfl
              clear hown hgrow i0 hi0 hz0 hz1 hz2
              go_loopw [14] (fun i wq => ∃ (k : Nat) (sls : List Sl), k ≤ HL ∧ i = .int .i64 k ∧ NX wq nb N sls (fun j => adj (hs.take k) j) ∧ Below nb Q1 wq) (fun i _ => HL - (intOf i).toNat)
              case atStart => exact ⟨0, _, Nat.zero_le _, rfl, by simpa [adj] using nx, b12⟩
              case round =>
                obtain ⟨k4, sls, hk, rfl, nX, bN⟩ := hrel
                clear nx b12
                generalize wr = Q3 at *
                by_cases hlt : k4 < HL
                · have hkl : k4 < hs.length := by rw [HHL.out]; exact hlt
                  obtain ⟨b, off, rfl, hb, hcell⟩ := HC.out (by omega)
                  have hbs : b < sb := by rw [← hsb]; have := bO.size; omega
                  have hbn : b < nb := by omega
                  have hQ : ∀ W, Below nb Q1 W → ∀ o v, W1.cell? ⟨b, o, none⟩ = some v → W.cell? ⟨b, o, none⟩ = some v := fun W hW o v h => (hW.cell (p := ⟨b, o, none⟩) hbn).trans ((bQ.cell (p := ⟨b, o, none⟩) hbs).trans h)
                  obtain ⟨-, d1, d2⟩ := RdGo.at (fun k hk j hj => (bO.cell (p := ⟨b, _, none⟩) hb).trans (hcell k hk j hj)) k4 hkl
                  have hok := HE.out hs[k4] (List.getElem_mem hkl)
                  have hadj := fun i => adj_snoc hs k4 hkl i
                  have HAdj : Hid _ := hadj
                  have hal := adj_len (hs.take k4)
                  have hal2 : ∀ i, (adj (hs.take k4) i).length ≤ 1048576 := fun i => by
                    have h1 := hal i
                    rw [List.length_take] at h1
                    omega
                  have hsl := nX.len
                  generalize hs[k4].a = A at *
                  generalize hs[k4].b = B at *
                  obtain ⟨hok1, hok2, hok3, hok4⟩ := hok
                  clear hcell hadj hal
                  obtain ⟨j, hj⟩ : ∃ j : Nat, A = (j : Int) + 1 := ⟨(A - 1).toNat, by omega⟩
                  have hjN : j < N := by omega
                  have hjl : j < sls.length := by omega
                  have hA1 : A - 1 = (j : Int) := by omega
                  have wA1 : IntKind.i64.wrap (A - 1) = (j : Int) := by rw [hA1, IntKind.wrap_i64]; omega
                  have wJ : IntKind.i64.wrap (j : Int) = (j : Int) := by rw [IntKind.wrap_i64]; omega
                  have hlti : (k4 : Int) < (HL : Int) := by omega
                  have hji : (j : Int) < (N : Int) := by omega
                  have HJ : Hid (A = (j : Int) + 1) := hj
                  have D : Below Q3.heap.size Q3 Q3.drew := (Below.refl _ _).drew
                  have nX2 := nX.keep D
                  have bN2 : Below nb Q1 Q3.drew := bN.drew
                  have e1 := hQ _ bN2 _ _ d1
                  have e2 := hQ _ bN2 _ _ d2
                  have cN := nX2.cell j hjl
                  have hrow := nX2.row j hjl
                  obtain ⟨sa, sc, hsv⟩ := hrow.form
                  have HSV : Hid (sls[j].val = _) := hsv
                  rw [hsv] at cN hrow
                  have hlJ := hal2 j
                  have hnz : nb < Q3.drew.heap.size := (nX2.out.lt nb rfl).2
                  have hbz : b < Q3.drew.heap.size := by omega
                  have fN := nX2.out.frozen j
                  have rlt := hrow.lt
                  generalize hLJ : adj (hs.take k4) j = LJ at *
                  have HAJ : Hid (adj (hs.take k4) j = LJ) := hLJ
                  clear hLJ
                  generalize hLN : LJ.length = LN at *
                  clear hj hal2 d1 d2 hok1 hok2
                  have al : Below Q3.drew.heap.size Q3.drew (Q3.drew.alloc (.cells #[.int .i64 B] 2)) := (Below.refl _ _).alloc (Nat.le_refl _) _
                  have nX4 := nX2.keep al
                  have hrow4 := hrow.keep al
                  have cN4 := (al.cell (p := ⟨nb, j, none⟩) hnz).trans cN
                  have cB4 : (Q3.drew.alloc (.cells #[.int .i64 B] 2)).cell? ⟨Q3.drew.heap.size, 0, none⟩ = some (.int .i64 B) := by rw [World.cell?_alloc_at _ _ _ _ rfl]; rfl
                  have e14 := (al.cell (p := ⟨b, off + k4 * 3 + 1, none⟩) hbz).trans e1
                  have e24 := (al.cell (p := ⟨b, off + k4 * 3 + 2, none⟩) hbz).trans e2
                  have bN4 : Below nb Q1 (Q3.drew.alloc (.cells #[.int .i64 B] 2)) := bN2.trans (al.mono (by omega))
                  have hz4 : nb + 1 ≤ (Q3.drew.alloc (.cells #[.int .i64 B] 2)).heap.size := by have h1 := al.size; omega
                  have hBr : -9223372036854775808 ≤ B ∧ B < 9223372036854775808 := by omega
                  have fin : ∀ (b' c' : Nat) (w' : World), Own w' (nb + 1) (.slice (some ⟨b', 0, none⟩) (LN + 1) c') (LJ ++ [B]) → (Q3.drew.alloc (.cells #[.int .i64 B] 2)).grownBy w' (Value.slice sa LN sc).ownBlock → ((Value.slice sa LN sc).ownBlock = some b' ∨ b' = (Q3.drew.alloc (.cells #[.int .i64 B] 2)).heap.size) → (∃ sls', NX (w'.setCell ⟨nb, j, none⟩ (.slice (some ⟨b', 0, none⟩) (LN + 1) c')) nb N sls' (fun i => adj (hs.take (k4 + 1)) i)) ∧ Below nb Q1 (w'.setCell ⟨nb, j, none⟩ (.slice (some ⟨b', 0, none⟩) (LN + 1) c')) ∧ w'.cell? ⟨b, off + k4 * 3 + 1, none⟩ = some (.int .i64 A) ∧ w'.cell? ⟨b, off + k4 * 3 + 2, none⟩ = some (.int .i64 B) ∧ w'.cell? ⟨nb, j, none⟩ = some (.slice sa LN sc) ∧ w'.frozen? ⟨nb, j, none⟩ = false := by
                    intro b' c' w' h1 h2 h3
                    have rb : some b ≠ (Value.slice sa LN sc).ownBlock := fun e => by have h4 := rlt b (by rw [← HSV.out] at e ⊢; exact e.symm); omega
                    have rn : some nb ≠ (Value.slice sa LN sc).ownBlock := fun e => by have h4 := rlt nb (by rw [← HSV.out] at e ⊢; exact e.symm); omega
                    have hm := nX4.more j hjl b' (LN + 1) c' B (by rw [HAJ.out]; exact h1) (by rw [HSV.out]; exact h2) (by rw [HSV.out]; exact h3)
                    refine ⟨⟨sls.set j ⟨some ⟨b', 0, none⟩, LN + 1, c'⟩, ?_⟩, ?_, h2.cell e14 rb, h2.cell e24 rb, h2.cell cN4 rn, ?_⟩
                    · refine cast (congrArg (NX _ nb N _) (funext fun i => ?_)) hm
                      rw [HAdj.out i]
                      by_cases ei : i = j
                      · subst ei; rw [if_pos rfl, if_pos HJ.out]
                      · rw [if_neg ei, if_neg (fun e => ei (by have h4 := HJ.out; omega))]
                    · refine (bN4.trans (gb_to h2 (fun q hq => ?_) (by omega))).setCell (Nat.le_refl _) _
                      have h4 := rlt q (by rw [← HSV.out] at hq ⊢; exact hq)
                      omega
                    · exact (World.frozen?_of_block (h2.block nb (by omega) rn)).trans ((World.frozen?_of_block (al.block nb hnz)).trans fN)
                  have FIN : Hid _ := fin
                  clear fin
                  have hne1 : ¬ nb = Q3.heap.size := by have h1 : nb < Q3.heap.size := hnz; omega
                  have hne2 : ¬ Q3.heap.size = nb := by omega
                  have hne3 : ¬ b = Q3.heap.size := by have h1 : b < Q3.heap.size := hbz; omega
                  have hne4 : ¬ Q3.heap.size = b := by omega
                  have hne5 : ¬ b = nb := by omega
                  have hne6 : ¬ nb = b := by omega
                  have cN0 : Q3.cell? ⟨nb, j, none⟩ = some (.slice sa LN sc) := cN
                  have cN5 : (Q3.alloc (.cells #[.int .i64 B] 2)).cell? ⟨nb, j, none⟩ = some (.slice sa LN sc) := cN4
                  go_upto_region 26 with fail
                  refine wp_region_held_drew (S := (fun W => W.cell? ⟨b, off + k4 * 3 + 1, none⟩ = some (.int .i64 A) ∧ W.cell? ⟨b, off + k4 * 3 + 2, none⟩ = some (.int .i64 B))) (by kernel_rfl) ?_ (fun hHeld => ?_)
                  · (try dsimp only); exact ⟨e1, e2⟩
                  refine' wpAnyH_take (i := 0) (oi := _) (v := _) ?hia0 (by kernel_rfl) (by kernel_rfl) (by kernel_rfl) ?hqa0 (Or.inl ⟨?hga0, ?hya0⟩) (by assumption) ?resta0
                  case hia0 => (rw [List.getElem?_toArray]; exact rfl)
                  case hga0 => rfl
                  case hya0 => (intro w hSw; (try dsimp only at hSw); go_simp; try with_reducible rfl)
                  case hqa0 => exact fun _ _ _ h => h
                  try simp only [Act.put, List.setIfInBounds_toArray, List.set_cons_zero, List.set_cons_succ]
                  refine' wpAnyH_take (i := 1) (oi := _) (v := _) ?hia1 (by kernel_rfl) (by kernel_rfl) (by kernel_rfl) ?hqa1 (Or.inl ⟨?hga1, ?hya1⟩) (by assumption) ?resta1
                  case hia1 => (rw [List.getElem?_toArray]; exact rfl)
                  case hga1 => rfl
                  case hya1 => (intro w hSw; (try dsimp only at hSw); go_simp; try with_reducible rfl)
                  case hqa1 => exact fun _ _ _ h => h
                  try simp only [Act.put, List.setIfInBounds_toArray, List.set_cons_zero, List.set_cons_succ]
                  refine' wpAnyH_take (i := 2) (oi := _) (v := _) ?hia2 (by kernel_rfl) (by kernel_rfl) (by kernel_rfl) ?hqa2 (Or.inl ⟨?hga2, ?hya2⟩) (by assumption) ?resta2
                  case hia2 => (rw [List.getElem?_toArray]; exact rfl)
                  case hga2 => rfl
                  case hya2 => (intro w hSw; (try dsimp only at hSw); go_simp; try with_reducible rfl)
                  case hqa2 => exact fun _ _ _ h => h
                  try simp only [Act.put, List.setIfInBounds_toArray, List.set_cons_zero, List.set_cons_succ]
                  refine' wpAnyH_take (i := 3) (oi := _) (v := _) ?hia3 (by kernel_rfl) (by kernel_rfl) (by kernel_rfl) ?hqa3 (Or.inl ⟨?hga3, ?hya3⟩) (by assumption) ?resta3
                  case hia3 => (rw [List.getElem?_toArray]; exact rfl)
                  case hga3 => rfl
                  case hya3 => (intro w hSw; (try dsimp only at hSw); go_simp; try with_reducible rfl)
                  case hqa3 => exact fun _ _ _ h => h
                  try simp only [Act.put, List.setIfInBounds_toArray, List.set_cons_zero, List.set_cons_succ]
                  refine' wpAnyH_take (i := 4) (oi := _) (v := _) ?hia4 (by kernel_rfl) (by kernel_rfl) (by kernel_rfl) ?hqa4 (Or.inl ⟨?hga4, ?hya4⟩) (by assumption) ?resta4
                  case hia4 => (rw [List.getElem?_toArray]; exact rfl)
                  case hga4 => rfl
                  case hya4 => (intro w hSw; (try dsimp only at hSw); go_simp; try with_reducible rfl)
                  case hqa4 => exact fun _ _ _ h => h
                  try simp only [Act.put, List.setIfInBounds_toArray, List.set_cons_zero, List.set_cons_succ]
                  refine' wpAnyH_take (i := 5) (oi := _) (v := _) ?hia5 (by kernel_rfl) (by kernel_rfl) (by kernel_rfl) ?hqa5 (Or.inl ⟨?hga5, ?hya5⟩) (by assumption) ?resta5
                  case hia5 => (rw [List.getElem?_toArray]; exact rfl)
                  case hga5 => rfl
                  case hya5 => (intro w hSw; (try dsimp only at hSw); go_simp; try with_reducible rfl)
                  case hqa5 => exact fun _ _ _ h => h
                  try simp only [Act.put, List.setIfInBounds_toArray, List.set_cons_zero, List.set_cons_succ]
                  refine' wpAnyH_take (i := 6) (oi := _) (v := _) ?hia6 (by kernel_rfl) (by kernel_rfl) (by kernel_rfl) ?hqa6 (Or.inl ⟨?hga6, ?hya6⟩) (by assumption) ?resta6
                  case hia6 => (rw [List.getElem?_toArray]; exact rfl)
                  case hga6 => rfl
                  case hya6 => (intro w hSw; (try dsimp only at hSw); go_simp; try with_reducible rfl)
                  case hqa6 => exact fun _ _ _ h => h
                  try simp only [Act.put, List.setIfInBounds_toArray, List.set_cons_zero, List.set_cons_succ]
                  refine' wpAnyH_take (i := 7) (oi := _) (v := _) ?hia7 (by kernel_rfl) (by kernel_rfl) (by kernel_rfl) ?hqa7 (Or.inl ⟨?hga7, ?hya7⟩) (by assumption) ?resta7
                  case hia7 => (rw [List.getElem?_toArray]; exact rfl)
                  case hga7 => rfl
                  case hya7 => (intro w hSw; (try dsimp only at hSw); go_simp; try with_reducible rfl)
                  case hqa7 => exact fun _ _ _ h => h
                  try simp only [Act.put, List.setIfInBounds_toArray, List.set_cons_zero, List.set_cons_succ]
                  refine' wpAnyH_take (i := 8) (oi := _) (v := _) ?hia8 (by kernel_rfl) (by kernel_rfl) (by kernel_rfl) ?hqa8 (Or.inl ⟨?hga8, ?hya8⟩) (by assumption) ?resta8
                  case hia8 => (rw [List.getElem?_toArray]; exact rfl)
                  case hga8 => rfl
                  case hya8 => (intro w hSw; (try dsimp only at hSw); go_simp; try with_reducible rfl)
                  case hqa8 => exact fun _ _ _ h => h
                  try simp only [Act.put, List.setIfInBounds_toArray, List.set_cons_zero, List.set_cons_succ]
                  refine' wpAnyH_take (i := 9) (oi := _) (v := _) ?hia9 (by kernel_rfl) (by kernel_rfl) (by kernel_rfl) ?hqa9 (Or.inl ⟨?hga9, ?hya9⟩) (by assumption) ?resta9
                  case hia9 => (rw [List.getElem?_toArray]; exact rfl)
                  case hga9 => rfl
                  case hya9 => (intro w hSw; (try dsimp only at hSw); go_simp; try with_reducible rfl)
                  case hqa9 => exact fun _ _ _ h => h
                  try simp only [Act.put, List.setIfInBounds_toArray, List.set_cons_zero, List.set_cons_succ]
                  refine' wpAnyH_take (i := 10) (oi := _) (v := _) ?hia10 (by kernel_rfl) (by kernel_rfl) (by kernel_rfl) ?hqa10 (Or.inl ⟨?hga10, ?hya10⟩) (by assumption) ?resta10
                  case hia10 => (rw [List.getElem?_toArray]; exact rfl)
                  case hga10 => rfl
                  case hya10 => (intro w hSw; (try dsimp only at hSw); go_simp; try with_reducible rfl)
                  case hqa10 => exact fun _ _ _ h => h
                  try simp only [Act.put, List.setIfInBounds_toArray, List.set_cons_zero, List.set_cons_succ]
                  refine' wpAnyH_take (i := 11) (oi := _) (v := _) ?hia11 (by kernel_rfl) (by kernel_rfl) (by kernel_rfl) ?hqa11 (Or.inl ⟨?hga11, ?hya11⟩) (by assumption) ?resta11
                  case hia11 => (rw [List.getElem?_toArray]; exact rfl)
                  case hga11 => rfl
                  case hya11 => (intro w hSw; (try dsimp only at hSw); go_simp; try with_reducible rfl)
                  case hqa11 => exact fun _ _ _ h => h
                  try simp only [Act.put, List.setIfInBounds_toArray, List.set_cons_zero, List.set_cons_succ]
                  refine' wpAnyH_take (i := 12) (oi := _) (v := _) ?hia12 (by kernel_rfl) (by kernel_rfl) (by kernel_rfl) ?hqa12 (Or.inl ⟨?hga12, ?hya12⟩) (by assumption) ?resta12
                  case hia12 => (rw [List.getElem?_toArray]; exact rfl)
                  case hga12 => rfl
                  case hya12 => (intro w hSw; (try dsimp only at hSw); go_simp; try with_reducible rfl)
                  case hqa12 => exact fun _ _ _ h => h
                  try simp only [Act.put, List.setIfInBounds_toArray, List.set_cons_zero, List.set_cons_succ]
                  refine' wpAnyH_take (i := 13) (oi := _) (v := _) ?hia13 (by kernel_rfl) (by kernel_rfl) (by kernel_rfl) ?hqa13 (Or.inl ⟨?hga13, ?hya13⟩) (by assumption) ?resta13
                  case hia13 => (rw [List.getElem?_toArray]; exact rfl)
                  case hga13 => rfl
                  case hya13 => (intro w hSw; (try dsimp only at hSw); go_simp; try with_reducible rfl)
                  case hqa13 => exact fun _ _ _ h => h
                  try simp only [Act.put, List.setIfInBounds_toArray, List.set_cons_zero, List.set_cons_succ]
                  refine' wpAnyH_take (i := 14) (oi := _) (v := _) ?hia14 (by kernel_rfl) (by kernel_rfl) (by kernel_rfl) ?hqa14 (Or.inl ⟨?hga14, ?hya14⟩) (by assumption) ?resta14
                  case hia14 => (rw [List.getElem?_toArray]; exact rfl)
                  case hga14 => rfl
                  case hya14 => (intro w hSw; (try dsimp only at hSw); go_simp; try with_reducible rfl)
                  case hqa14 => exact fun _ _ _ h => h
                  try simp only [Act.put, List.setIfInBounds_toArray, List.set_cons_zero, List.set_cons_succ]
                  refine' wpAnyH_take (i := 16) (oi := _) (v := _) ?hia16 (by kernel_rfl) (by kernel_rfl) (by kernel_rfl) ?hqa16 (Or.inl ⟨?hga16, ?hya16⟩) (by assumption) ?resta16
                  case hia16 => (rw [List.getElem?_toArray]; exact rfl)
                  case hga16 => rfl
                  case hya16 => (intro w hSw; (try dsimp only at hSw); go_simp; try with_reducible rfl)
                  case hqa16 => exact fun _ _ _ h => h
                  try simp only [Act.put, List.setIfInBounds_toArray, List.set_cons_zero, List.set_cons_succ]
                  refine' wpAnyH_take (i := 17) (oi := _) (v := _) ?hia17 (by kernel_rfl) (by kernel_rfl) (by kernel_rfl) ?hqa17 (Or.inl ⟨?hga17, ?hya17⟩) (by assumption) ?resta17
                  case hia17 => (rw [List.getElem?_toArray]; exact rfl)
                  case hga17 => rfl
                  case hya17 => (intro w hSw; (try dsimp only at hSw); go_simp; try with_reducible rfl)
                  case hqa17 => exact fun _ _ _ h => h
                  try simp only [Act.put, List.setIfInBounds_toArray, List.set_cons_zero, List.set_cons_succ]
                  refine' wpAnyH_take (i := 18) (oi := _) (v := _) ?hia18 (by kernel_rfl) (by kernel_rfl) (by kernel_rfl) ?hqa18 (Or.inl ⟨?hga18, ?hya18⟩) (by assumption) ?resta18
                  case hia18 => (rw [List.getElem?_toArray]; exact rfl)
                  case hga18 => rfl
                  case hya18 => (intro w hSw; (try dsimp only at hSw); go_simp; try with_reducible rfl)
                  case hqa18 => exact fun _ _ _ h => h
                  try simp only [Act.put, List.setIfInBounds_toArray, List.set_cons_zero, List.set_cons_succ]
                  refine' wpAnyH_take (i := 19) (oi := _) (v := _) ?hia19 (by kernel_rfl) (by kernel_rfl) (by kernel_rfl) ?hqa19 (Or.inl ⟨?hga19, ?hya19⟩) (by assumption) ?resta19
                  case hia19 => (rw [List.getElem?_toArray]; exact rfl)
                  case hga19 => rfl
                  case hya19 => (intro w hSw; (try dsimp only at hSw); go_simp; try with_reducible rfl)
                  case hqa19 => exact fun _ _ _ h => h
                  try simp only [Act.put, List.setIfInBounds_toArray, List.set_cons_zero, List.set_cons_succ]
                  refine' wpAnyH_take (i := 20) (oi := _) (v := _) ?hia20 (by kernel_rfl) (by kernel_rfl) (by kernel_rfl) ?hqa20 (Or.inl ⟨?hga20, ?hya20⟩) (by assumption) ?resta20
                  case hia20 => (rw [List.getElem?_toArray]; exact rfl)
                  case hga20 => rfl
                  case hya20 => (intro w hSw; (try dsimp only at hSw); go_simp; try with_reducible rfl)
                  case hqa20 => exact fun _ _ _ h => h
                  try simp only [Act.put, List.setIfInBounds_toArray, List.set_cons_zero, List.set_cons_succ]
                  refine wpAnyH_ready (rs := [15, 21]) (by kernel_rfl) (by simp) ?_
                  refine AllReadyH.cons rfl (fun K hK => ?_) (AllReadyH.cons rfl (fun K hK => ?_) AllReadyH.nil)
                  · (go_simp)
                    refine hK.out _ _ ?_ (fun hHeld => ?_)
                    · ((try dsimp only); exact ⟨e1, e2⟩)
                    clear hK K
                    refine wpAnyH_ready (rs := [21]) (by kernel_rfl) (by simp) ?_
                    refine AllReadyH.cons rfl (fun K hK => ?_) AllReadyH.nil
                    (go_simp)
                    refine hK.out _ _ ?_ (fun hHeld => ?_)
                    · ((try dsimp only); exact ⟨e14, e24⟩)
                    clear hK K
                    refine wpAnyH_ready (rs := [22]) (by kernel_rfl) (by simp) ?_
                    refine AllReadyH.cons rfl (fun K hK => ?_) AllReadyH.nil
                    refine step_append_intL rfl (.tmp 141) (.tmp 147) 23 rfl Try.underlying23 (nb + 1) (.slice sa LN sc) LJ B hBr Q3.drew.heap.size 1 (by simp [Act.eval, Act.put]) (by simp [Act.eval, Act.put]) hrow4 cB4 (by omega) hz4 ?_
                    intro b' c' w' hO' hg' hl' hz'
                    rw [hLN] at hO'
                    obtain ⟨⟨sls', nX'⟩, bN', s1, s2, s3, s4⟩ := FIN.out b' c' w' hO' hg' hl'
                    try rw [hLN]
                    refine hK.out _ _ ?_ (fun hHeld => ?_)
                    · ((try dsimp only); exact ⟨s1, s2⟩)
                    clear hK K
                    refine wpAnyH_ready (rs := [23]) (by kernel_rfl) (by simp) ?_
                    refine AllReadyH.cons rfl (fun K hK => ?_) AllReadyH.nil
                    (go_simp)
                    refine hK.out _ _ ?_ (fun hHeld => ?_)
                    · ((try dsimp only); exact ⟨s1, s2⟩)
                    clear hK K
                    refine wpAnyH_ready (rs := [24]) (by kernel_rfl) (by simp) ?_
                    refine AllReadyH.cons rfl (fun K hK => ?_) AllReadyH.nil
                    (go_simp)
                    refine hK.out _ _ ?_ (fun hHeld => ?_)
                    · ((try dsimp only); go_keep)
                    clear hK K
                    refine wpAnyH_done (by kernel_rfl) ?_ _
                    go_wp2
                    go_roundw
                    case rel => exact ⟨k4 + 1, sls', by omega, by go_num, nX', bN'⟩
                    case measure => simp [intOf]; omega
                  · (go_simp)
                    refine hK.out _ _ ?_ (fun hHeld => ?_)
                    · ((try dsimp only); exact ⟨e14, e24⟩)
                    clear hK K
                    refine wpAnyH_ready (rs := [15]) (by kernel_rfl) (by simp) ?_
                    refine AllReadyH.cons rfl (fun K hK => ?_) AllReadyH.nil
                    (go_simp)
                    refine hK.out _ _ ?_ (fun hHeld => ?_)
                    · ((try dsimp only); exact ⟨e14, e24⟩)
                    clear hK K
                    refine wpAnyH_ready (rs := [22]) (by kernel_rfl) (by simp) ?_
                    refine AllReadyH.cons rfl (fun K hK => ?_) AllReadyH.nil
                    refine step_append_intL rfl (.tmp 141) (.tmp 147) 23 rfl Try.underlying23 (nb + 1) (.slice sa LN sc) LJ B hBr Q3.drew.heap.size 1 (by simp [Act.eval, Act.put]) (by simp [Act.eval, Act.put]) hrow4 cB4 (by omega) hz4 ?_
                    intro b' c' w' hO' hg' hl' hz'
                    rw [hLN] at hO'
                    obtain ⟨⟨sls', nX'⟩, bN', s1, s2, s3, s4⟩ := FIN.out b' c' w' hO' hg' hl'
                    try rw [hLN]
                    refine hK.out _ _ ?_ (fun hHeld => ?_)
                    · ((try dsimp only); exact ⟨s1, s2⟩)
                    clear hK K
                    refine wpAnyH_ready (rs := [23]) (by kernel_rfl) (by simp) ?_
                    refine AllReadyH.cons rfl (fun K hK => ?_) AllReadyH.nil
                    (go_simp)
                    refine hK.out _ _ ?_ (fun hHeld => ?_)
                    · ((try dsimp only); exact ⟨s1, s2⟩)
                    clear hK K
                    refine wpAnyH_ready (rs := [24]) (by kernel_rfl) (by simp) ?_
                    refine AllReadyH.cons rfl (fun K hK => ?_) AllReadyH.nil
                    (go_simp)
                    refine hK.out _ _ ?_ (fun hHeld => ?_)
                    · ((try dsimp only); go_keep)
                    clear hK K
                    refine wpAnyH_done (by kernel_rfl) ?_ _
                    go_wp2
                    go_roundw
                    case rel => exact ⟨k4 + 1, sls', by omega, by go_num, nX', bN'⟩
                    case measure => simp [intOf]; omega
                · obtain rfl : HL = k4 := by omega
                  have hall : ∀ i, adj (hs.take HL) i = adj hs i := fun i => by rw [← HHL.out, List.take_length]
                  have nX' : NX Q3 nb N sls (fun i => adj hs i) := by
                    have e : (fun j => adj (hs.take HL) j) = fun i => adj hs i := funext hall
                    rw [← e]; exact nX
                  have HNX : Hid _ := nX'
                  clear hall nX nX' hk
                  obtain ⟨M4, hM4⟩ : ∃ M, Q3.heap.size = M := ⟨_, rfl⟩
                  have hnM : nb < M4 := by rw [← hM4]; exact (HNX.out.out.lt nb rfl).2
                  have oT3 : Own Q3 tb0 (.slice (some ⟨tb, 0, none⟩) ts.length tc) ts := oT.keep (by rw [hnb]; exact bN)
                  have oS3 := oS.keep (by rw [hnb]; exact bN)
                  have bW3 : Below sb W1 Q3 := bQ.trans (bN.mono (by omega))
                  have hD0 : DSt N sb tb0 nb M4 Q3 W1 (.slice (some ⟨tb, 0, none⟩) ts.length tc) Q3 sn ts := ⟨tb, tc, rfl, oT3, oS3, .inl (by omega), fun _ _ _ => rfl, by omega, bW3⟩
                  have hlf : lft sn ts ≤ 2 * N + RL := by
                    unfold lft
                    have h1 := List.count_le_length (a := false) (l := sn)
                    omega
                  have HD0 : Hid (DSt N sb tb0 nb M4 Q3 W1 (.slice (some ⟨tb, 0, none⟩) ts.length tc) Q3 sn ts) := hD0
                  obtain ⟨L0, hL0⟩ : ∃ L0, lft sn ts = L0 := ⟨_, rfl⟩
                  rw [hL0] at hlf
                  have HL0 : Hid (lft sn ts = L0) := hL0
                  clear oT oS oT3 oS3 bW3 bN bQ hD0 hL0
                  have hsbnb : sb < nb := by omega
                  go_wp2_with fail
                  go_loopg [10] L0 (fun gg q wq => ∃ (sn : List Bool) (ts : List Int), lft sn ts ≤ gg ∧ gg ≤ L0 ∧ DSt N sb tb0 nb M4 Q3 W1 q wq sn ts ∧ DI N hs rs sn ts (fun _ => False))
                  case atStart => exact ⟨sn, ts, by rw [HL0.out]; exact Nat.le_refl _, Nat.le_refl _, HD0.out, HDI.out⟩
                  case round =>
                    obtain ⟨sn5, ts5, hlg, hgL, hD5, hI5⟩ := hrel
                    clear HD0 HDI HL0
                    generalize wr = R1 at *
                    obtain ⟨tb5, tc5, rfl, oT5, oS5, ht5, hw5, hM5, hb5⟩ := id hD5
                    have HD5 : Hid (DSt N sb tb0 nb M4 Q3 W1 (.slice (some ⟨tb5, 0, none⟩) ts5.length tc5) R1 sn5 ts5) := hD5
                    have HI5 : Hid _ := hI5
                    have HW5 : Hid _ := hw5
                    clear hD5 hI5 hw5
                    rcases List.eq_nil_or_concat ts5 with e5 | ⟨ts', x, e5⟩
                    · subst e5
                      have hfin := out_ans HOK.out HI5.out.fin
                      have HFin : Hid (outK sn5 N = ansR N hs rs) := hfin
                      have hsnl5 := HI5.out.len
                      have oO5 := (show Own W1 w.heap.size (.slice (some ⟨w.heap.size, 0, none⟩) 0 0) [] from HO.out).keep (by rw [hsb]; exact hb5)
                      have bW5 : Below w.heap.size w R1 := bO.trans (hb5.mono (by have := bO.size; omega))
                      have HO5 : Hid (Own R1 w.heap.size (.slice (some ⟨w.heap.size, 0, none⟩) 0 0) []) := oO5
                      clear hfin HI5 HD5 HW5 oT5 oO5
                      simp only [List.length_nil]
                      go_wp2_with fail
                      go_loopw [7, 18] (fun q i wq => ∃ (k ob oc : Nat), k ≤ N ∧ i = .int .i64 k ∧ q = .slice (some ⟨ob, 0, none⟩) (outK sn5 k).length oc ∧ Own wq w.heap.size (.slice (some ⟨ob, 0, none⟩) (outK sn5 k).length oc) (outK sn5 k) ∧ OwnG shB 4 wq sb (.slice (some ⟨sb, 0, none⟩) N N) sn5 ∧ Below w.heap.size w wq) (fun _ i _ => N - (intOf i).toNat)
                      case atStart => exact ⟨0, _, _, Nat.zero_le _, rfl, rfl, HO5.out, oS5, bW5⟩
                      case round =>
                        obtain ⟨k7, ob, oc, hk7, rfl, rfl, oO, oS7, bW7⟩ := hrel
                        clear HO5 oS5 bW5
                        generalize wr = R4 at *
                        by_cases hlt : k7 < N
                        · have hki : (k7 : Int) < (N : Int) := by omega
                          have hkl : k7 < sn5.length := by omega
                          have cS := oS7.cell k7 hkl 0 (by decide)
                          have hput : k7 * shB.n + 0 = k7 := by show k7 * 1 + 0 = k7; omega
                          rw [hput] at cS
                          have cS2 : R4.cell? ⟨sb, k7, none⟩ = some (.bool sn5[k7]) := cS
                          have hsu := outK_succ sn5 k7
                          have hge : sn5.getD k7 false = sn5[k7] := by simp [List.getD, hkl]
                          rw [hge] at hsu
                          have hol := outK_len sn5 k7
                          clear cS hput hge
                          cases hbv : sn5[k7]
                          · rw [hbv, if_neg (by decide)] at hsu
                            rw [hbv] at cS2
                            have HSu : Hid (outK sn5 (k7 + 1) = outK sn5 k7) := hsu
                            clear hsu
                            go_wp2
                            go_roundw
                            case rel => exact ⟨k7 + 1, ob, oc, by omega, by go_num, by rw [HSu.out], by rw [HSu.out]; exact oO, oS7, bW7⟩
                            case measure => simp [intOf]; omega
                          · rw [hbv, if_pos rfl] at hsu
                            rw [hbv] at cS2
                            have HSu : Hid (outK sn5 (k7 + 1) = outK sn5 k7 ++ [(k7 : Int) + 1]) := hsu
                            clear hsu
                            generalize outK sn5 k7 = OK7 at *
                            have hYb : -9223372036854775808 ≤ (k7 : Int) + 1 ∧ (k7 : Int) + 1 < 9223372036854775808 := by omega
                            have al : Below R4.heap.size R4 (R4.alloc (.cells #[.int .i64 ((k7 : Int) + 1)] 2)) := (Below.refl _ _).alloc (Nat.le_refl _) _
                            have oO8 := oO.keep al
                            have oS8 := oS7.keep al
                            have hwsz : w.heap.size ≤ R4.heap.size := bW7.size
                            have bW8 := bW7.trans (al.mono hwsz)
                            have cA : (R4.alloc (.cells #[.int .i64 ((k7 : Int) + 1)] 2)).cell? ⟨R4.heap.size, 0, none⟩ = some (.int .i64 ((k7 : Int) + 1)) := by rw [World.cell?_alloc_at _ _ _ _ rfl]; rfl
                            have hna := own_apart oS8 oO8 (by decide)
                            have hollt := (oO8.lt ob rfl)
                            have hsz8 : w.heap.size ≤ (R4.alloc (.cells #[.int .i64 ((k7 : Int) + 1)] 2)).heap.size := by have := al.size; omega
                            go_wp2_with (at_builtin; refine wpList_append_intL rfl (.tmp 205) (.tmp 208) 23 rfl Try.underlying23 w.heap.size _ OK7 ((k7 : Int) + 1) hYb R4.heap.size 1 rfl rfl oO8 cA (by omega) hsz8 ?_; intro ob' oc' w' oO9 hg9 hl9 hz9)
                            have oS9 := oS8.but hg9 (.inr (fun e => hna e.symm))
                            have bW9 := bW8.trans (gb_to hg9 (fun q hq => by have e : ob = q := Option.some.inj hq; omega) hsz8)
                            go_roundw
                            case rel => exact ⟨k7 + 1, ob', oc', by omega, by go_num, by rw [HSu.out]; simp, by rw [HSu.out]; simpa using oO9, oS9, bW9⟩
                            case measure => simp [intOf]; omega
                        · obtain rfl : N = k7 := by omega
                          have hfo : outK sn5 N = ansR N hs rs := HFin.out
                          rw [hfo] at oO
                          try rw [hfo]
                          clear hfo
                          go_wp2
                          go_ret
                          exact ⟨_, _, rfl, oO, bW7⟩
                    · rw [List.concat_eq_append] at e5
                      subst e5
                      have hlen5 : (ts' ++ [x]).length = ts'.length + 1 := by simp
                      obtain ⟨TL, hTL⟩ : ∃ TL, ts'.length = TL := ⟨_, rfl⟩
                      rw [hlen5, hTL] at oT5
                      rw [hlen5, hTL]
                      obtain ⟨hI6, hSx⟩ := HI5.out.pop
                      have hD6 := HD5.out.pop (tb := tb5) (tc := tc5)
                      rw [hTL] at hD6
                      have hx1 := hSx.1
                      have hx2 := hSx.le
                      rw [hI6.len] at hx2
                      have hRx := hI6.snd x hSx
                      have cX : R1.cell? ⟨tb5, TL, none⟩ = some (.int .i64 x) := by
                        have h1 := oT5.cell TL (by simp; omega)
                        rw [List.getD, List.getElem?_append_right (by omega), hTL, Nat.sub_self] at h1
                        exact h1
                      have hcap : TL + 1 ≤ tc5 := by
                        rcases oT5.shape with ⟨h1, _⟩ | ⟨g, cp, h1, _, _, h2⟩
                        · cases h1
                        · simp only [Value.slice.injEq] at h1
                          have := h1.2.1
                          have := h1.2.2
                          omega
                      have hTb : TL + 1 ≤ 2 * N + RL := by
                        have h1 : lft sn5 (ts' ++ [x]) = 2 * sn5.count false + (TL + 1) := by unfold lft; rw [hlen5, hTL]
                        omega
                      obtain ⟨i, hi⟩ : ∃ i : Nat, x = (i : Int) + 1 := ⟨(x - 1).toNat, by omega⟩
                      have hiN : i < N := by omega
                      have hil : i < sls.length := by rw [HNX.out.len]; exact hiN
                      have hrow := HNX.out.row i hil
                      obtain ⟨sa, sc, hsv⟩ := hrow.form
                      have cN := HNX.out.cell i hil
                      rw [hsv] at cN hrow
                      have hrowc : ∀ W : World, (∀ i, nb ≤ i → i < M4 → W.heap[i]? = Q3.heap[i]?) → W.cell? ⟨nb, i, none⟩ = some (.slice sa (adj hs i).length sc) ∧ ∀ k, k < (adj hs i).length → ∃ g, sa = some ⟨g, 0, none⟩ ∧ (adj hs i).length ≤ sc ∧ W.cell? ⟨g, k, none⟩ = some (.int .i64 ((adj hs i).getD k 0)) := by
                        intro W hW
                        refine ⟨(win_cell hW (Nat.le_refl _) hnM).trans cN, fun k hk => ?_⟩
                        rcases hrow.shape with ⟨h1, h2⟩ | ⟨g, cp, h1, h2, h3, h4⟩
                        · rw [h2] at hk; simp at hk
                        · simp only [Value.slice.injEq] at h1
                          obtain ⟨rfl, _, rfl⟩ := h1
                          exact ⟨g, rfl, h4, (win_cell hW (by omega) (by omega)).trans (hrow.cell k hk)⟩
                      have hadjm : ∀ k (h : k < (adj hs i).length), Rch hs rs ((adj hs i).getD k 0) ∧ 1 ≤ (adj hs i).getD k 0 ∧ (adj hs i).getD k 0 ≤ N := by
                        intro k h
                        have e1 : (adj hs i).getD k 0 = (adj hs i)[k] := by simp [List.getD, h]
                        rw [e1]
                        obtain ⟨e, he, h1, h2⟩ := adj_mem.1 (List.getElem_mem h)
                        have h3 := HE.out e he
                        rw [← h2]
                        refine ⟨Rch.step ?_ he, h3.2.2.1, h3.2.2.2⟩
                        rw [h1, ← hi]; exact hRx
                      have hlast : ∀ sn', (∀ k, k < (adj hs i).length → Sn sn' ((adj hs i).getD k 0)) → ∀ e ∈ hs, e.a = x → Sn sn' e.b := by
                        intro sn' h e he hx
                        have hm : e.b ∈ adj hs i := adj_mem.2 ⟨e, he, by rw [hx, hi], rfl⟩
                        obtain ⟨k, hk, hk2⟩ := List.getElem_of_mem hm
                        have := h k hk
                        rw [← hk2]
                        simpa [List.getD, hk] using this
                      have hla := adj_len hs i
                      rw [HHL.out] at hla
                      generalize adj hs i = LI at *
                      obtain ⟨LL, hLL⟩ : ∃ LL, LI.length = LL := ⟨_, rfl⟩
                      rw [hLL] at hla hrowc hadjm hlast
                      have HRC : Hid _ := hrowc
                      have HAM : Hid _ := hadjm
                      have HLST : Hid _ := hlast
                      have HI6 : Hid _ := hI6
                      have HD6 : Hid (DSt N sb tb0 nb M4 Q3 W1 (.slice (some ⟨tb5, 0, none⟩) TL tc5) R1 sn5 ts') := hD6
                      have hlt6 : lft sn5 ts' + 1 ≤ gk := by
                        have h1 : lft sn5 (ts' ++ [x]) = lft sn5 ts' + 1 := by unfold lft; rw [hlen5]; omega
                        omega
                      have hXI : x - 1 = (i : Int) := by omega
                      have hiI : (i : Int) < (N : Int) := by omega
                      have HX : Hid (x = (i : Int) + 1) := hi
                      clear hrowc hadjm hlast hI6 hD6 hrow cN hi hsv hRx hSx HD5 HI5 oS5
                      obtain ⟨l6, hl6⟩ : ∃ l, lft sn5 ts' = l := ⟨_, rfl⟩
                      rw [hl6] at hlt6
                      have HL6 : Hid (lft sn5 ts' = l6) := hl6
                      have HLL : Hid (LI.length = LL) := hLL
                      have HTL : Hid (ts'.length = TL) := hTL
                      clear hl6 hLL hTL hlen5 hlg oT5
                      go_wp2_with fail
                      go_loopw [10, 16] (fun q kk wq => ∃ (k : Nat) (sn : List Bool) (ts : List Int), k ≤ LL ∧ kk = .int .i64 k ∧ DSt N sb tb0 nb M4 Q3 W1 q wq sn ts ∧ DI N hs rs sn ts (fun y => y = x) ∧ (∀ m, m < k → Sn sn (LI.getD m 0)) ∧ lft sn ts ≤ l6) (fun _ kk _ => LL - (intOf kk).toNat)
                      case atStart => exact ⟨0, sn5, ts', Nat.zero_le _, rfl, HD6.out, HI6.out, fun m hm => absurd hm (by omega), by rw [HL6.out]; exact Nat.le_refl _⟩
                      case round =>
                        obtain ⟨k6, sn6, ts6, hk6, rfl, hD7, hI7, hS7, hl7⟩ := hrel
                        clear HD6 HI6 HL6 cX
                        generalize wr = R2 at *
                        obtain ⟨tb6, tc6, rfl, oT6, oS6, ht6, hw6, hM6, hb6⟩ := id hD7
                        have HD7 : Hid (DSt N sb tb0 nb M4 Q3 W1 (.slice (some ⟨tb6, 0, none⟩) ts6.length tc6) R2 sn6 ts6) := hD7
                        have HI7 : Hid _ := hI7
                        have HS7 : Hid _ := hS7
                        obtain ⟨cN, hrc⟩ := HRC.out R2 hw6
                        have HRR : Hid _ := hrc
                        clear hD7 hI7 hS7 hrc hw6
                        by_cases hlt : k6 < LL
                        · have hki : (k6 : Int) < (LL : Int) := by omega
                          obtain ⟨g, rfl, hcl, cY⟩ := HRR.out k6 hlt
                          obtain ⟨hRy, hy1, hy2⟩ := HAM.out k6 hlt
                          have hSk : ∀ sn', (∀ m, m < k6 → Sn sn' (LI.getD m 0)) → Sn sn' (LI.getD k6 0) → ∀ m, m < k6 + 1 → Sn sn' (LI.getD m 0) := by
                            intro sn' h1 h2 m hm
                            rcases (by omega : m < k6 ∨ m = k6) with h | h
                            · exact h1 m h
                            · rw [h]; exact h2
                          generalize LI.getD k6 0 = y at *
                          obtain ⟨j, hj⟩ : ∃ j : Nat, y = (j : Int) + 1 := ⟨(y - 1).toNat, by omega⟩
                          have hjN : j < N := by omega
                          have hjl : j < sn6.length := by rw [HI7.out.len]; exact hjN
                          have hYJ : y - 1 = (j : Int) := by omega
                          have hjI : (j : Int) < (N : Int) := by omega
                          have cS := oS6.cell j hjl 0 (by decide)
                          have hput : j * shB.n + 0 = j := by show j * 1 + 0 = j; omega
                          rw [hput] at cS
                          have cS2 : R2.cell? ⟨sb, j, none⟩ = some (.bool sn6[j]) := cS
                          have fS := oS6.frozen j
                          have hSn : Sn sn6 y ↔ sn6[j] = true := by
                            unfold Sn
                            rw [show (y - 1).toNat = j by omega]
                            simp [List.getD, hjl]
                            omega
                          have hHK : Hid _ := hSk
                          have HRy : Hid (Rch hs rs y) := hRy
                          clear cS hput hj hSk hRy
                          cases hbv : sn6[j]
                          · rw [hbv] at cS2
                            have hnS : ¬ Sn sn6 y := fun h => by rw [hSn, hbv] at h; cases h
                            have hpu := HI7.out.push hy1 hy2 HRy.out
                            have hlp := lft_push (todo := ts6) hy1 (by rw [HI7.out.len]; exact hy2) hnS
                            have hset : (y - 1).toNat = j := by omega
                            rw [hset] at hpu hlp
                            have hDm := HD7.out.mark (by omega) hsbnb j hjl
                            have hSo : ∀ m, m < k6 → Sn (sn6.set j true) (LI.getD m 0) := fun m hm => by
                              have := (HS7.out m hm).set (y := y) hy1 (by rw [HI7.out.len]; exact hy2)
                              rw [hset] at this; exact this
                            have hSo2 : Sn (sn6.set j true) y := by
                              have := Sn.new (sn := sn6) hy1 (by rw [HI7.out.len]; exact hy2)
                              rw [hset] at this; exact this
                            have hSall := hHK.out _ hSo hSo2
                            have HSall : Hid _ := hSall
                            have HPu : Hid _ := hpu
                            have HDm : Hid (DSt N sb tb0 nb M4 Q3 W1 (.slice (some ⟨tb6, 0, none⟩) ts6.length tc6) (R2.setCell ⟨sb, j, none⟩ (.bool true)) (sn6.set j true) ts6) := hDm
                            have hl8 : lft (sn6.set j true) (ts6 ++ [y]) ≤ l6 := by omega
                            have hT6 : ts6.length ≤ l6 := by unfold lft at hl7; omega
                            clear hpu hlp hset hDm hSo hSo2 hSall hSn hnS HD7 HI7 HS7 hHK HRy oT6 oS6
                            go_upto_region 36 with fail
                            generalize R2.setCell ⟨sb, j, none⟩ (.bool true) = R3 at *
                            have hs3 : sb ≤ R3.heap.size := by
                              obtain ⟨_, _, _, _, h1, _⟩ := HDm.out
                              have := (h1.lt sb rfl).2
                              omega
                            have al : Below R3.heap.size R3 (R3.alloc (.cells #[.int .i64 y] 2)) := (Below.refl _ _).alloc (Nat.le_refl _) _
                            have hDn := HDm.out.keep al hs3
                            obtain ⟨_, _, e8, oT8, _⟩ := id hDn
                            simp only [Value.slice.injEq, Option.some.injEq, Addr.mk.injEq, and_true, true_and] at e8
                            obtain ⟨e81, e82⟩ := e8
                            rw [← e81, ← e82] at oT8
                            have HDn : Hid (DSt N sb tb0 nb M4 Q3 W1 (.slice (some ⟨tb6, 0, none⟩) ts6.length tc6) (R3.alloc (.cells #[.int .i64 y] 2)) (sn6.set j true) ts6) := hDn
                            have cA : (R3.alloc (.cells #[.int .i64 y] 2)).cell? ⟨R3.heap.size, 0, none⟩ = some (.int .i64 y) := by rw [World.cell?_alloc_at _ _ _ _ rfl]; rfl
                            have hto := (oT8.lt tb6 rfl)
                            clear hDn e81 e82 al cS2 fS cY cN HDm
                            go_wp2_with (at_builtin; refine wpList_append_intL rfl (.tmp 192) (.tmp 194) 23 rfl Try.underlying23 tb0 _ ts6 y (by omega) R3.heap.size 1 rfl rfl oT8 cA (by omega) (by omega) ?_; intro tb' tc' w' oT9 hg9 hl9 hz9)
                            have hD9 := HDn.out.push oT9 hg9 hl9 (by omega)
                            go_roundw
                            case rel => exact ⟨k6 + 1, sn6.set j true, ts6 ++ [y], by omega, by go_num, hD9, HPu.out, HSall.out, hl8⟩
                            case measure => simp [intOf]; omega
                          · rw [hbv] at cS2
                            have hSall := hHK.out _ HS7.out (hSn.2 hbv)
                            clear hHK hSn HRy
                            go_wp2
                            go_roundw
                            case rel => exact ⟨k6 + 1, sn6, ts6, by omega, by go_num, HD7.out, HI7.out, hSall, hl7⟩
                            case measure => simp [intOf]; omega
                        · obtain rfl : LL = k6 := by omega
                          have hI8 := HI7.out.done (HLST.out sn6 HS7.out)
                          have HI8 : Hid _ := hI8
                          clear hI8 HI7 HS7 HRR
                          go_wp2_with fail
                          go_roundg l6
                          case measure => omega
                          case rel => exact ⟨sn6, ts6, hl7, by omega, HD7.out, HI8.out⟩
end Go.Proofs.Ytjnalkeopehlbaa
