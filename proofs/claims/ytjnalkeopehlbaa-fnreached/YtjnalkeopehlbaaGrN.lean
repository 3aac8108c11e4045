import Derived.Test.YtjnalkeopehlbaaMgF
namespace Go.Proofs.Ytjnalkeopehlbaa
open Go.RowKit Go.Maps
set_option linter.unusedVariables false
set_option linter.unusedSimpArgs false

theorem OwnG.empty {α : Type} (S : Sh α) (T : TypeId) (w : World) : OwnG S T (w.alloc (.cells #[] T)) w.heap.size (.slice (some ⟨w.heap.size, 0, none⟩) 0 0) [] :=
  ⟨⟨by simp, .inr ⟨w.heap.size, 0, #[], rfl, Nat.le_refl _, heap_alloc_new w _, Nat.le_refl _, by simp [maxLen], by simp, by simp⟩⟩, by simp, by simp⟩
theorem MK.start {vb N1 : Nat} {W1 w2 : World} {xs : List (Option Nat)} (h : OwnG shQ 56 w2 vb (.slice (some ⟨vb, 0, none⟩) N1 N1) xs) (hl : xs.length = N1) (hb : Below vb W1 w2) : MK w2.heap.size vb N1 W1 w2 0 :=
  ⟨⟨xs, h, hl, fun j hj => absurd hj (Nat.not_lt_zero _)⟩, TS.zero _ _ _ _, by omega, (h.lt vb rfl).2, hb⟩
set_option maxRecDepth 100000 in
set_option maxHeartbeats 1500000 in
theorem reachI_any (n : Int) (v u : Value) (hs : List Gp) (rs : List Int) (w : World) (hx : RdGo w v hs) (hy : Rd w u rs) (hhl : hs.length ≤ 1048576) (hrl : rs.length ≤ 1048576) :
    Calls Try.prog 11 #[.int .i64 n, v, u] w fun e w' => ∃ a c, e = .returned (.slice a (ansR n hs rs).length c) ∧ Own w' w.heap.size (.slice a (ansR n hs rs).length c) (ansR n hs rs) ∧ Below w.heap.size w w' := by
  obtain ⟨a, cap, rfl, hl, hz, hn0, hc⟩ := id hx
  obtain ⟨a', cap', rfl, hl', hz', hn0', hc'⟩ := id hy
  have bO : Below w.heap.size w (w.alloc (.cells #[] 2)) := (Below.refl _ _).alloc (Nat.le_refl _) _
  have oO := Own.empty w
  have hbad : ¬ OkR n hs rs → ∀ w', Below (w.alloc (.cells #[] 2)).heap.size (w.alloc (.cells #[] 2)) w' → ∃ a c, Ending.returned (.slice (some ⟨w.heap.size, 0, none⟩) 0 0) = .returned (.slice a (ansR n hs rs).length c) ∧ Own w' w.heap.size (.slice a (ansR n hs rs).length c) (ansR n hs rs) ∧ Below w.heap.size w w' := by
    intro h w' hb
    rw [ansR_bad h]
    exact ⟨_, _, rfl, oO.keep hb, bO.trans (hb.mono bO.size)⟩
  have HB : Hid _ := hbad
  clear hbad
  by_cases h0 : n < 0
  · go_enter Try.func11, Try.ntmps11
    go_wp2
    go_ret
    exact HB.out (fun h => by have := h.1; omega) _ (Below.refl _ _)
  by_cases h1 : 2000 < n
  · go_enter Try.func11, Try.ntmps11
    go_wp2
    go_ret
    exact HB.out (fun h => by have := h.2.1; omega) _ (Below.refl _ _)
  obtain ⟨N, rfl⟩ : ∃ N : Nat, n = N := ⟨n.toNat, by omega⟩
  have hN : N ≤ 2000 := by omega
  clear h0 h1
  have h0 : ¬ (N : Int) < 0 := by omega
  have h1 : ¬ (2000 : Int) < (N : Int) := by omega
  obtain ⟨HL, hHL⟩ : ∃ HL, hs.length = HL := ⟨_, rfl⟩
  obtain ⟨RL, hRL⟩ : ∃ RL, rs.length = RL := ⟨_, rfl⟩
  have HHL : Hid (hs.length = HL) := hHL
  have HRL : Hid (rs.length = RL) := hRL
  rw [hHL] at hhl
  rw [hRL] at hrl
  rw [hHL, hRL]
  have HC : Hid _ := hc
  have HC' : Hid _ := hc'
  have HZ : Hid _ := hz
  have HZ' : Hid _ := hz'
  have HO : Hid _ := oO
  clear hHL hRL hc hc' hz hz' hl hl' hn0 hn0' hx hy oO
  obtain ⟨N1, hN1⟩ : ∃ N1, N + 1 = N1 := ⟨_, rfl⟩
  have hni : (N : Int) + 1 = (N1 : Int) := by omega
  obtain ⟨i0, hi0, hz0, hz1, hz2⟩ := info_parts Try.info56
  go_enter Try.func11, Try.ntmps11
  go_upto_region 4 with fail
  generalize hw1 : w.alloc (.cells #[] 2) = w1 at *
  clear hw1
  go_wp2_with (at_make; refine wpList_make_full _ rfl _ _ 55 rfl w1.heap.size 56 i0 _ 1 Try.underlying55 hi0 hz0 hz1 .i64 .i64 _ _ N1 rfl rfl rfl rfl (by rw [hz2]; omega) (by unfold maxLen; omega) (Nat.le_refl _) ?_; intro w2 hown hgrow)
  have oX : OwnG shQ 56 w2 w1.heap.size (.slice (some ⟨w1.heap.size, 0, none⟩) N1 N1) (List.replicate N1 none) := OwnG.made1 none rfl rfl trivial rfl (by omega) hown
  have b2 : Below w1.heap.size w1 w2 := (Below.refl _ _).grown hgrow (Nat.le_refl _) (by intro k h; cases h)
  have hM := MK.start oX (by simp) b2
  have HM : Hid _ := hM
  clear hM oX b2 hown hgrow i0 hi0 hz0 hz1 hz2
  generalize hvb : w1.heap.size = vb at *
  generalize hs0 : w2.heap.size = s0 at *
  go_loopw [30] (fun i wr => ∃ k : Nat, k ≤ N1 ∧ i = .int .i64 k ∧ MK s0 vb N1 w1 wr k) (fun i _ => N1 - (intOf i).toNat)
  case atStart => exact ⟨0, Nat.zero_le _, rfl, HM.out⟩
  case round =>
    obtain ⟨k, hk, rfl, hM⟩ := hrel
    clear HM
    generalize wr = Q1 at *
    by_cases hlt : k < N1
    · obtain ⟨⟨v, c1⟩, f1, hM2⟩ := hM.round hlt
      have HM2 : Hid _ := hM2
      clear hM hM2
      have hlti : (k : Int) < (N1 : Int) := by omega
      go_wp2_with (go_at_call 28; refine (newThing_any k _).mono ?_; rintro e w' ⟨rfl, rfl⟩)
      go_roundw
      case rel => exact ⟨k + 1, by omega, by go_num, HM2.out⟩
      case measure => simp [intOf]; omega
    · obtain rfl : N1 = k := by omega
      have hL := hM.done
      have HL0 : Hid (LH s0 vb N1 w1 Q1 (hs.take 0)) := hL
      have hQb : Below vb w1 Q1 := hL.below
      clear hM hk hlt hL
      go_wp2_with fail
      go_loopw [41] (fun i wr => ∃ k : Nat, k ≤ HL ∧ i = .int .i64 k ∧ OkE N (hs.take k) ∧ LH s0 vb N1 w1 wr (hs.take k)) (fun i _ => HL - (intOf i).toNat)
      case atStart => exact ⟨0, Nat.zero_le _, rfl, by simp [OkE], HL0.out⟩
      case round =>
        obtain ⟨k, hk, rfl, hE, hLH⟩ := hrel
        clear HL0 hQb
        generalize wr = Q2 at *
        by_cases hlt : k < HL
        · have hkl : k < hs.length := by rw [HHL.out]; exact hlt
          obtain ⟨b, off, rfl, hb, hcell⟩ := HC.out (by omega)
          have hbv : b < vb := by rw [← hvb]; exact Nat.lt_of_lt_of_le hb bO.size
          obtain ⟨d0, d1, d2⟩ := RdGo.at (fun k hk j hj => (hLH.below.cell (p := ⟨b, _, none⟩) hbv).trans ((bO.cell (p := ⟨b, _, none⟩) hb).trans (hcell k hk j hj))) k hkl
          have hok := HZ.out hs[k] (List.getElem_mem hkl)
          have hst := fun h => hE.step hkl h
          have HST : Hid _ := hst
          have hnb : ¬ (1 ≤ hs[k].a ∧ hs[k].a ≤ N ∧ 1 ≤ hs[k].b ∧ hs[k].b ≤ N) → ¬ OkR N hs rs := fun h1 h2 => h1 (h2.2.2.1 hs[k] (List.getElem_mem hkl))
          have HNB : Hid _ := hnb
          have hcl : ∀ i j : Nat, i < N1 → j < N1 → hs[k].a = (i : Int) → hs[k].b = (j : Int) → ∀ w2, Below Q2.heap.size Q2 w2 → Calls Try.prog 30 #[.pointer (some ⟨s0 + 2 * i + 1, 0, none⟩), .pointer (some ⟨s0 + 2 * j + 1, 0, none⟩)] w2 fun e w' => e = .returned (.tuple #[]) ∧ LH s0 vb N1 w1 w' (hs.take (k + 1)) ∧ (∀ b, Q2.heap.size ≤ b → b < w2.heap.size → w'.heap[b]? = w2.heap[b]?) ∧ w2.heap.size ≤ w'.heap.size := fun i j hi hj ha hb2 w2 hw2 => by
            rw [List.take_succ_eq_append_getElem hkl]
            exact hLH.hold hw2 (by simp; omega) i j hi hj hs[k] ha hb2
          have HCL : Hid _ := hcl
          obtain ⟨ha, hbb⟩ := hok.2
          generalize hs[k].c = C at *
          generalize hs[k].a = A at *
          generalize hs[k].b = B at *
          clear hcell hst hnb hok hE hcl
          have hlti : (k : Int) < (HL : Int) := by omega
          have hbl := hLH.below
          have hsz2 := hLH.size
          have hvl := hLH.lt
          have hv2 : Below vb w1 (Q2.alloc (.cells #[.int .i64 C, .int .i64 A, .int .i64 B] 45)) := hbl.alloc (by omega) _
          by_cases g1 : 1 ≤ A ∧ A ≤ N
          · by_cases g2 : 1 ≤ B ∧ B ≤ N
            · have HS1 : Hid _ := HST.out ⟨g1.1, g1.2, g2.1, g2.2⟩
              obtain ⟨i, rfl⟩ : ∃ i : Nat, A = i := ⟨A.toNat, by omega⟩
              obtain ⟨j, rfl⟩ : ∃ j : Nat, B = j := ⟨B.toNat, by omega⟩
              have hi : i < N1 := by omega
              have hj : j < N1 := by omega
              have hii : (i : Int) < (N1 : Int) := by omega
              have hjj : (j : Int) < (N1 : Int) := by omega
              have e1 : (decide (1 ≤ (i : Int)) && decide ((i : Int) ≤ (N : Int))) = true := by simp; omega
              have e2 : (decide (1 ≤ (j : Int)) && decide ((j : Int) ≤ (N : Int))) = true := by simp; omega
              have al : Below Q2.heap.size Q2 (Q2.alloc (.cells #[.int .i64 C, .int .i64 i, .int .i64 j] 45)) := (Below.refl _ _).alloc (Nat.le_refl _) _
              have hLA := hLH.keep al
              have x1 : (Q2.alloc (.cells #[.int .i64 C, .int .i64 i, .int .i64 j] 45)).cell? ⟨Q2.heap.size, 1, none⟩ = some (.int .i64 i) := by rw [World.cell?_alloc_at _ _ _ _ rfl]; rfl
              have x2 : (Q2.alloc (.cells #[.int .i64 C, .int .i64 i, .int .i64 j] 45)).cell? ⟨Q2.heap.size, 2, none⟩ = some (.int .i64 j) := by rw [World.cell?_alloc_at _ _ _ _ rfl]; rfl
              have v1 := hLA.row i hi
              have v2 := hLA.row j hj
              have hK : Calls Try.prog 30 #[.pointer (some ⟨s0 + 2 * i + 1, 0, none⟩), .pointer (some ⟨s0 + 2 * j + 1, 0, none⟩)] (Q2.alloc (.cells #[.int .i64 C, .int .i64 i, .int .i64 j] 45)).drew fun e w' => e = .returned (.tuple #[]) ∧ LH s0 vb N1 w1 w' (hs.take (k + 1)) ∧ (∀ b, Q2.heap.size ≤ b → b < (Q2.alloc (.cells #[.int .i64 C, .int .i64 i, .int .i64 j] 45)).drew.heap.size → w'.heap[b]? = (Q2.alloc (.cells #[.int .i64 C, .int .i64 i, .int .i64 j] 45)).drew.heap[b]?) ∧ (Q2.alloc (.cells #[.int .i64 C, .int .i64 i, .int .i64 j] 45)).drew.heap.size ≤ w'.heap.size := HCL.out i j hi hj rfl rfl (Q2.alloc (.cells #[.int .i64 C, .int .i64 i, .int .i64 j] 45)).drew al.drew
              have hobl : Q2.heap.size < (Q2.alloc (.cells #[.int .i64 C, .int .i64 i, .int .i64 j] 45)).drew.heap.size := by show _ < (Q2.alloc _).heap.size; rw [World.size_alloc]; omega
              clear hLA HCL HNB al hv2 HST
              go_upto_region 15 with (go_at_call 29; refine (isNum_any _ _ _).mono ?_; rintro e w' ⟨rfl, rfl⟩; first | rw [e1] | rw [e2])
              generalize Q2.alloc (.cells #[.int .i64 C, .int .i64 i, .int .i64 j] 45) = Q3 at *
              generalize Q2.heap.size = ob at *
              clear d0 d1 d2 hLH hbl
              have x1d : Q3.drew.cell? ⟨ob, 1, none⟩ = some (.int .i64 i) := x1
              have x2d : Q3.drew.cell? ⟨ob, 2, none⟩ = some (.int .i64 j) := x2
              have hcont : ∀ w3 : World, (∀ b, ob ≤ b → b < Q3.drew.heap.size → w3.heap[b]? = Q3.drew.heap[b]?) → w3.cell? ⟨ob, 1, none⟩ = some (.int .i64 i) ∧ w3.cell? ⟨ob, 2, none⟩ = some (.int .i64 j) := fun w3 q3 => ⟨(World.cell?_of_block (a := ⟨ob, 1, none⟩) (q3 ob (Nat.le_refl _) hobl)).trans x1d, (World.cell?_of_block (a := ⟨ob, 2, none⟩) (q3 ob (Nat.le_refl _) hobl)).trans x2d⟩
              have HCo : Hid _ := hcont
              clear hcont x1d x2d
              go_region_held3 (fun W => W.cell? ⟨ob, 1, none⟩ = some (.int .i64 i) ∧ W.cell? ⟨ob, 2, none⟩ = some (.int .i64 j) ∧ W.cell? ⟨vb, i, none⟩ = some (.pointer (some ⟨s0 + 2 * i + 1, 0, none⟩)) ∧ W.cell? ⟨vb, j, none⟩ = some (.pointer (some ⟨s0 + 2 * j + 1, 0, none⟩))) (go_keep) (first | (go_at_call 30; refine hK.mono ?_; rintro e w3 ⟨rfl, hL3, q3, z3⟩; obtain ⟨y1, y2⟩ := HCo.out w3 q3; have HQ3 : Hid _ := q3; clear q3; have u1 := hL3.row i hi; have u2 := hL3.row j hj) | fail)
              go_wp2
              go_roundw
              case rel => exact ⟨k + 1, by omega, by go_num, HS1.out, hL3⟩
              case measure => simp [intOf]; omega
            · have e1 : (decide (1 ≤ A) && decide (A ≤ (N : Int))) = true := by simp [g1]
              have e2 : (decide (1 ≤ B) && decide (B ≤ (N : Int))) = false := by
                rw [Bool.and_eq_false_iff]; simp only [decide_eq_false_iff_not]; omega
              go_wp2_with (go_at_call 29; refine (isNum_any _ _ _).mono ?_; rintro e w' ⟨rfl, rfl⟩; first | rw [e1] | rw [e2])
              go_ret
              exact HB.out (HNB.out (by omega)) _ hv2
          · have e1 : (decide (1 ≤ A) && decide (A ≤ (N : Int))) = false := by
              rw [Bool.and_eq_false_iff]; simp only [decide_eq_false_iff_not]; omega
            go_wp2_with (go_at_call 29; refine (isNum_any _ _ _).mono ?_; rintro e w' ⟨rfl, rfl⟩; rw [e1])
            go_ret
            exact HB.out (HNB.out (by omega)) _ hv2
        · obtain rfl : HL = k := by omega
          have HE : Hid (OkE N hs) := by
            show OkE N hs
            rw [← HHL.out, List.take_length] at hE
            exact hE
          rw [← HHL.out, List.take_length] at hLH
          have HLH : Hid (LH s0 vb N1 w1 Q2 hs) := hLH
          have hvs : vb < Q2.heap.size := Nat.lt_of_lt_of_le hLH.lt hLH.size
          have oF : OwnG shT 56 (Q2.alloc (.cells #[] 56)) Q2.heap.size (.slice (some ⟨Q2.heap.size, 0, none⟩) 0 0) ([].map fun i => s0 + 2 * i + 1) := OwnG.empty _ _ _
          have bF : Below Q2.heap.size Q2 (Q2.alloc (.cells #[] 56)) := (Below.refl _ _).alloc (Nat.le_refl _) _
          have HF : Hid _ := oF
          clear hLH hE hk hlt oF
          go_wp2_with fail
          go_loopw [12, 73] (fun q i wr => ∃ (k fb fc : Nat) (fr : List Nat), k ≤ RL ∧ i = .int .i64 k ∧ q = .slice (some ⟨fb, 0, none⟩) fr.length fc ∧ OwnG shT 56 wr Q2.heap.size (.slice (some ⟨fb, 0, none⟩) fr.length fc) (fr.map fun i => s0 + 2 * i + 1) ∧ fr.map (fun i : Nat => (i : Int)) = rs.take k ∧ (∀ i ∈ fr, i < N1) ∧ OkT N (rs.take k) ∧ Below Q2.heap.size Q2 wr) (fun _ i _ => RL - (intOf i).toNat)
          case atStart => exact ⟨0, _, _, [], Nat.zero_le _, rfl, rfl, HF.out, by simp, by simp, by simp [OkT], bF⟩
          case round =>
            obtain ⟨k2, fb, fc, fr, hk, rfl, rfl, oF, hfr, hfn, hT, bQ⟩ := hrel
            clear HF bF
            generalize wr = Q3 at *
            by_cases hlt : k2 < RL
            · have hkl : k2 < rs.length := by rw [HRL.out]; exact hlt
              obtain ⟨b, off, rfl, hb, hcell⟩ := HC'.out (by omega)
              have hLq := HLH.out.keep bQ
              have hbv : b < vb := by rw [← hvb]; exact Nat.lt_of_lt_of_le hb bO.size
              have d0 := (hLq.below.cell (p := ⟨b, off + k2, none⟩) hbv).trans ((bO.cell (p := ⟨b, off + k2, none⟩) hb).trans (hcell k2 hkl))
              have hge : rs.getD k2 0 = rs[k2] := by simp [List.getD, hkl]
              rw [hge] at d0
              have hok := HZ'.out rs[k2] (List.getElem_mem hkl)
              have hst := fun h => hT.step hkl h
              have HST : Hid _ := hst
              have hnb : ¬ (1 ≤ rs[k2] ∧ rs[k2] ≤ N) → ¬ OkR N hs rs := fun h1 h2 => h1 (h2.2.2.2 rs[k2] (List.getElem_mem hkl))
              have HNB : Hid _ := hnb
              have hfs : ∀ i : Nat, rs[k2] = (i : Int) → (fr ++ [i]).map (fun i : Nat => (i : Int)) = rs.take (k2 + 1) := fun i hi => by
                rw [List.take_succ_eq_append_getElem hkl, List.map_append, hfr, hi]; rfl
              have HFS : Hid _ := hfs
              have HFL : Hid (fr.length = k2) := by
                have := congrArg List.length hfr
                simp at this
                show fr.length = k2
                omega
              have HFR : Hid _ := hfn
              have hbQ := hLq.below
              generalize rs[k2] = A at *
              clear hcell hst hnb hT hge hfs hfr hfn
              have hlti : (k2 : Int) < (RL : Int) := by omega
              by_cases g1 : 1 ≤ A ∧ A ≤ N
              · have HS1 : Hid _ := HST.out g1
                obtain ⟨i, rfl⟩ : ∃ i : Nat, A = i := ⟨A.toNat, by omega⟩
                have hi : i < N1 := by omega
                have hii : (i : Int) < (N1 : Int) := by omega
                have e1 : (decide (1 ≤ (i : Int)) && decide ((i : Int) ≤ (N : Int))) = true := by simp; omega
                have v1 := hLq.row i hi
                have HF1 : Hid _ := HFS.out i rfl
                have al : Below Q3.heap.size Q3 (Q3.alloc (.cells #[.pointer (some ⟨s0 + 2 * i + 1, 0, none⟩)] 56)) := (Below.refl _ _).alloc (Nat.le_refl _) _
                have oF2 := oF.keep al
                have cA : (Q3.alloc (.cells #[.pointer (some ⟨s0 + 2 * i + 1, 0, none⟩)] 56)).cell? ⟨Q3.heap.size, 0, none⟩ = some (.pointer (some ⟨s0 + 2 * i + 1, 0, none⟩)) := by rw [World.cell?_alloc_at _ _ _ _ rfl]; rfl
                have hcc : ∀ k (h : k < [s0 + 2 * i + 1].length), (Q3.alloc (.cells #[.pointer (some ⟨s0 + 2 * i + 1, 0, none⟩)] 56)).cell? ⟨Q3.heap.size, k, none⟩ = some (pk [s0 + 2 * i + 1][k]) := fun k hk => by
                  obtain rfl : k = 0 := by simpa using hk
                  exact cA
                have HCC : Hid _ := hcc
                have hml : (fr.map fun i => s0 + 2 * i + 1).length = fr.length := by simp
                have hsA := al.size
                have hq2 := bQ.size
                have bQ2 := bQ.trans (al.mono hq2)
                have hlen3 : (fr.map fun i => s0 + 2 * i + 1).length + [s0 + 2 * i + 1].length ≤ 16777216 := by rw [hml, HFL.out]; simp; omega
                have hBz : Q2.heap.size ≤ (Q3.alloc (.cells #[.pointer (some ⟨s0 + 2 * i + 1, 0, none⟩)] 56)).heap.size := by omega
                have hfb := (oF.lt fb rfl).1
                clear hcc hLq al HNB HST HFS oF
                go_wp2_with (first | (go_at_call 29; refine (isNum_any _ _ _).mono ?_; rintro e w9 ⟨rfl, hw9⟩; obtain rfl : Q3 = w9 := hw9.symm; rw [e1]) | (at_builtin; refine wpList_append_T rfl (.tmp 82) (.tmp 87) 55 rfl Try.underlying55 Q2.heap.size (.slice (some ⟨fb, 0, none⟩) fr.length fc) (fr.map fun i => s0 + 2 * i + 1) [s0 + 2 * i + 1] rfl oF2 Q3.heap.size 1 rfl Nat.zero_lt_one HCC.out hlen3 hBz ?_; intro b' c' w' oF4 hg4 hl4 hz4))
                have hg5 : World.grownBy _ w' (some fb) := hg4
                have bQ5 := bQ2.trans (gb_to (B := Q2.heap.size) hg5 (fun q hq => by have e := Option.some.inj hq; omega) hBz)
                have oF5 : OwnG shT 56 w' Q2.heap.size (.slice (some ⟨b', 0, none⟩) (fr ++ [i]).length c') ((fr ++ [i]).map fun i => s0 + 2 * i + 1) := by
                  rw [List.map_append, List.length_append]
                  rw [hml] at oF4
                  exact oF4
                go_roundw
                case rel => exact ⟨k2 + 1, b', c', fr ++ [i], by omega, by go_num, by simp, oF5, HF1.out, (fun x hx => by rw [List.mem_append, List.mem_singleton] at hx; rcases hx with hx | hx; exact HFR.out x hx; rw [hx]; exact hi), HS1.out, bQ5⟩
                case measure => simp [intOf]; omega
              · have e1 : (decide (1 ≤ A) && decide (A ≤ (N : Int))) = false := by
                  rw [Bool.and_eq_false_iff]; simp only [decide_eq_false_iff_not]; omega
                go_wp2_with (go_at_call 29; refine (isNum_any _ _ _).mono ?_; rintro e w' ⟨rfl, rfl⟩; rw [e1])
                go_ret
                exact HB.out (HNB.out (by omega)) _ hbQ
            · obtain rfl : RL = k2 := by omega
              rw [← HRL.out, List.take_length] at hfr hT
              have hOK : OkR N hs rs := ⟨by omega, by omega, HE.out, hT⟩
              have hfl : fr.length = rs.length := by
                have := congrArg List.length hfr
                simpa using this
              have hLq := HLH.out.keep bQ
              obtain ⟨cnt, rw_, ord, mp, hTS, hHI⟩ := HLH.out.all
              have hfb := (oF.lt fb rfl)
              have hTR := (hTS.rd fb hfb.1).same (w' := Q3) (fun b h1 h2 => bQ.block b h1) bQ.size
              have hsz : fr.length + wtR ord (List.replicate (N + 1) false) (N + 1) ≤ 8000000 := by
                rw [wtR_len, hN1, hfl, HRL.out]
                have := hHI.len
                rw [HHL.out] at this
                omega
              have hrc := reached_any N Q2.heap.size fb fc N1 Q3.heap.size (fun i => s0 + 2 * i + 1) ord fr Q3 hN hN1 rfl oF (by rw [hN1]; exact hTR) (fun i hi => by have := hfn i hi; omega) hsz bQ.size
              have hrch : ∀ i : Nat, RchI ord fr i ↔ Rch hs rs i := fun i => hHI.rch rs fr hfr hfn (by rw [show ((N1 : Int) - 1) = N by omega]; exact HE.out) i
              have hfin : ∀ sn : List Bool, (∀ i, sn.getD i false = true ↔ RchI ord fr i) → outN sn N1 = ansR N hs rs := fun sn h => by
                rw [← hN1]
                exact outN_ans hOK (fun i => (h i).trans (hrch i))
              have HFin : Hid _ := hfin
              have bq1 : Below vb w1 Q3 := hLq.below
              have hvq : vb < Q3.heap.size := Nat.lt_of_lt_of_le hvs bQ.size
              clear hrch hfin hTR hTS hHI hsz hfl hOK hT hfr hfn hLq HLH HE oF
              go_wp2_with (go_at_call 31; refine hrc.mono ?_; rintro e w4 ⟨sn, rfl, oS, hsl, hsn, b4⟩)
              have hst := HFin.out sn hsn
              have hvs4 := oS.lt Q3.heap.size rfl
              have bw4 : Below vb w1 w4 := bq1.trans (b4.mono (by omega))
              have oO4 : Own w4 w.heap.size (.slice (some ⟨w.heap.size, 0, none⟩) 0 0) [] := Own.keep HO.out (by rw [hvb]; exact bw4)
              have bw : Below w.heap.size w w4 := bO.trans (bw4.mono (by rw [← hvb]; exact bO.size))
              have hwv : w.heap.size < vb := by have := (Own.lt HO.out w.heap.size rfl).2; omega
              generalize hsb : Q3.heap.size = sb at *
              have HS0 : Hid (OwnG shB 4 w4 sb (.slice (some ⟨sb, 0, none⟩) N1 N1) sn) := oS
              have HO4 : Hid (Own w4 w.heap.size (.slice (some ⟨w.heap.size, 0, none⟩) 0 0) []) := oO4
              have HST : Hid _ := hst
              clear hrc HFin hsn oS oO4 hst HO
              go_loopw [7, 94] (fun q i wr => ∃ (k ob oc : Nat), k ≤ N1 ∧ i = .int .i64 k ∧ q = .slice (some ⟨ob, 0, none⟩) (outN sn k).length oc ∧ Own wr w.heap.size (.slice (some ⟨ob, 0, none⟩) (outN sn k).length oc) (outN sn k) ∧ OwnG shB 4 wr sb (.slice (some ⟨sb, 0, none⟩) N1 N1) sn ∧ Below w.heap.size w wr ∧ ob ≠ sb) (fun _ i _ => N1 - (intOf i).toNat)
              case atStart => exact ⟨0, _, _, Nat.zero_le _, rfl, rfl, HO4.out, HS0.out, bw, by omega⟩
              case round =>
                obtain ⟨k5, ob, oc, hk, rfl, rfl, oO, oS, bW, hne⟩ := hrel
                clear HS0 HO4
                generalize wr = Q5 at *
                by_cases hlt : k5 < N1
                · have hlti : (k5 : Int) < (N1 : Int) := by omega
                  have hjl : k5 < sn.length := by omega
                  have hput : k5 * shB.n + 0 = k5 := by show k5 * 1 + 0 = k5; omega
                  have cS := oS.cell k5 hjl 0 (by decide)
                  rw [hput] at cS
                  have cS2 : Q5.cell? ⟨sb, k5, none⟩ = some (.bool sn[k5]) := cS
                  have hgi : sn.getD k5 false = sn[k5] := by simp [List.getD, hjl]
                  have hou := outN_succ sn k5
                  have hol := outN_len sn k5
                  rw [hgi] at hou
                  have HOU : Hid _ := hou
                  clear cS hput hou hgi
                  cases hbv : sn[k5]
                  · rw [hbv] at cS2
                    have hou2 : outN sn (k5 + 1) = outN sn k5 := by
                      have := HOU.out
                      rw [hbv] at this
                      simpa using this
                    have HO2 : Hid _ := hou2
                    clear hou2 HOU
                    go_wp2
                    go_roundw
                    case rel => exact ⟨k5 + 1, ob, oc, by omega, by go_num, by rw [HO2.out], by rw [HO2.out]; exact oO, oS, bW, hne⟩
                    case measure => simp [intOf]; omega
                  · rw [hbv] at cS2
                    have hou2 : outN sn (k5 + 1) = outN sn k5 ++ [(k5 : Int)] := by
                      have := HOU.out
                      rw [hbv] at this
                      simpa using this
                    have HO2 : Hid _ := hou2
                    have al : Below Q5.heap.size Q5 (Q5.alloc (.cells #[.int .i64 k5] 2)) := (Below.refl _ _).alloc (Nat.le_refl _) _
                    have oO2 := Own.keep oO al
                    have oS2 := oS.keep al
                    have cA : (Q5.alloc (.cells #[.int .i64 k5] 2)).cell? ⟨Q5.heap.size, 0, none⟩ = some (.int .i64 k5) := by rw [World.cell?_alloc_at _ _ _ _ rfl]; rfl
                    have hw5 := bW.size
                    have bW2 := bW.trans (al.mono hw5)
                    have hz5 : w.heap.size ≤ (Q5.alloc (.cells #[.int .i64 k5] 2)).heap.size := bW2.size
                    have hob := (Own.lt oO ob rfl).1
                    have hsz := (oS2.lt sb rfl).2
                    obtain ⟨OUT, hOUT⟩ : ∃ l, outN sn k5 = l := ⟨_, rfl⟩
                    rw [hOUT] at oO2 hol HO2
                    have HOUT : Hid (outN sn k5 = OUT) := hOUT
                    rw [hOUT]
                    clear hou2 HOU oO al oS hOUT
                    go_wp2_with (at_builtin; refine wpList_append_intL rfl (.tmp 100) (.tmp 102) 23 rfl Try.underlying23 w.heap.size (.slice (some ⟨ob, 0, none⟩) OUT.length oc) OUT (k5 : Int) (by omega) Q5.heap.size 1 rfl rfl oO2 cA (by omega) hz5 ?_; intro b' c' w' oO4 hg4 hl4 hz4)
                    have hg5 : World.grownBy _ w' (some ob) := hg4
                    have bW5 := bW2.trans (gb_to (B := w.heap.size) hg5 (fun q hq => by have e := Option.some.inj hq; omega) hz5)
                    have oS5 := oS2.but hg5 (.inr (by show some sb ≠ some ob; intro e; exact hne (Option.some.inj e).symm))
                    have hne5 : b' ≠ sb := by
                      rcases hl4 with e | e
                      · have e2 : ob = b' := Option.some.inj e
                        omega
                      · omega
                    go_roundw
                    case rel => exact ⟨k5 + 1, b', c', by omega, by go_num, by rw [HO2.out]; simp, by rw [HO2.out]; simpa using oO4, oS5, bW5, hne5⟩
                    case measure => simp [intOf]; omega
                · obtain rfl : N1 = k5 := by omega
                  go_wp2
                  go_ret
                  rw [HST.out] at oO ⊢
                  exact ⟨_, _, rfl, oO, bW⟩
end Go.Proofs.Ytjnalkeopehlbaa
