import Derived.Test.YtfbibbjiomfncaaDaD
import Derived.Deep.DeepCutAuto
import Derived.Deep.RegionHeld3
import Derived.Deep.RegionHeldLaw
import Derived.Deep.Cut
namespace Go.Proofs.Ytfbibbjiomfncaa
open Go.RowKit Go.Lib
set_option linter.unusedVariables false
set_option linter.unusedSimpArgs false

/-- What l9Draw leaves. -/
def DCp (w : World) (g : Nat) (a : Option Addr) (n c : Nat) (bs : List Int) (e : Ending) (w' : World) : Prop := ∃ u ps cs, e = .returned u ∧ CR w' w.heap.size u ps cs ∧ cs.length ≤ 201 ∧ Drawn w w' g a n c bs

set_option maxRecDepth 100000 in
set_option maxHeartbeats 4000000 in
theorem drawC_any (w : World) (g : Nat) (a : Option Addr) (n c : Nat) (bs : List Int) (hR : Rdr w g a n c bs) (hbz : ∀ b off, 0 < n → a = some ⟨b, off, none⟩ → b < w.heap.size) :
    Calls Try.prog 59 #[.pointer (some ⟨g, 0, none⟩)] w (DCp w g a n c bs) := by
  have hS := dr_size_any w g a n c bs 5 14 (by omega) (by omega) (by omega) (by omega) hR
  have hB4 := fun W h => dr_below_any W g a n c bs 4 (by omega) (by omega) h
  have hBG := fun W m hm h => dr_belowG_any W g a n c bs m hm h
  have hO := fun W m h1 h2 h => dr_once_any W g a n c bs m h1 h2 h
  have hDA := fun W (h : Rdr W g a n c bs) (hz : w.heap.size ≤ W.heap.size) => drawAttrs_any W g a n c bs h (fun b off h0 e => Nat.lt_of_lt_of_le (hbz b off h0 e) hz)
  have hglt := hR.lt
  go_enter Try.func59, Try.ntmps59
  go_wp2_with fail
  refine hS.mono ?_
  rintro e w1 ⟨N, rfl, hN1, hN14, hD1⟩
  have hsz1 := hD1.gb.size
  have C0 := CO.nil w1 w.heap.size hsz1
  have D0 := hD1.below ((Below.refl _ w1).alloc (Nat.le_refl _) (.cells #[] 54))
  clear hS hD1
  go_wp2_with fail
  go_loopw [4, 5] (fun v i wr => ∃ (k : Nat) (ps : List Sp) (cs : List Cl), k ≤ N ∧ cs.length = k ∧ i = .int .i64 k ∧ CO wr w.heap.size v ps cs ∧ Hid (∀ x ∈ cs, x.b.length ≤ 4) ∧ Drawn w wr g a n c bs) (fun _ i _ => N - (RowKit.intOf i).toNat)
  case atStart => exact ⟨0, [], [], Nat.zero_le _, rfl, rfl, C0, (by intro x hx; simp at hx), D0⟩
  case round =>
    obtain ⟨k, ps, cs, hk, hck, rfl, hC, HBL, hD⟩ := hrel
    clear C0 D0
    generalize wr = W1 at *
    have HCK : Hid (cs.length = k) := hck
    clear hck
    obtain ⟨va, vc, ev⟩ := hC.out.form
    have HPL : Hid (ps.length = k) := by rw [Hid, hC.len]; exact HCK.out
    rw [HPL.out] at ev
    subst ev
    have hszW := hD.gb.size
    have hgW : g < W1.heap.size := hD.rd.lt
    have hbzW : ∀ b off, 0 < n → a = some ⟨b, off, none⟩ → b < W1.heap.size := fun b off h0 e => Nat.lt_of_lt_of_le (hbz b off h0 e) hszW
    by_cases hlt : k < N
    · have hlti : (k : Int) < (N : Int) := by omega
      have OE := Own.empty W1
      have DE := (Drawn.refl hD.rd).below ((Below.refl _ W1).alloc (Nat.le_refl _) (.cells #[] 2))
      go_wp2_with fail
      refine (hB4 _ DE.rd).mono ?_
      rintro e w2 ⟨K4, rfl, hK4, hD2⟩
      have O2 := OE.but hD2.gb (.inr (by simp [Value.ownBlock]; omega))
      have D2 := DE.trans hD2
      clear OE DE hD2
      go_wp2_with fail
      go_loopw [6, 8] (fun bv jv wq => ∃ (j : Nat) (zs : List Int), j ≤ K4 ∧ zs.length ≤ j ∧ jv = .int .i64 j ∧ Own wq W1.heap.size bv zs ∧ Drawn W1 wq g a n c bs) (fun _ jv _ => K4 - (RowKit.intOf jv).toNat)
      case atStart => exact ⟨0, [], Nat.zero_le _, by simp, rfl, O2, D2⟩
      case round =>
        obtain ⟨j, zs, hj, hzj, rfl, hOz, hDz⟩ := hrel
        clear O2 D2
        generalize wr = W2 at *
        obtain ⟨za, zc, ez⟩ := hOz.form
        subst ez
        have hzl : zs.length ≤ 4 := by omega
        have hobz : ∀ q, (Value.slice za zs.length zc).ownBlock = some q → q ≠ g := fun q hq e => by have := (hOz.lt q hq).1; omega
        by_cases hjk : j < K4 ∧ 0 < k
        · obtain ⟨hjK, hk0⟩ := hjk
          have hji : (j : Int) < (K4 : Int) := by omega
          have hki : (0 : Int) < (k : Int) := by omega
          go_wp2_with fail
          refine (hBG _ k (by omega) hDz.rd).mono ?_
          rintro e w3 ⟨x, rfl, hx, hD3⟩
          have D3 := hDz.trans hD3
          have O3 := hOz.but hD3.gb (by cases hb : (Value.slice za zs.length zc).ownBlock with | none => exact .inl rfl | some q => exact .inr (by simp; exact hobz q hb))
          have hxb : x ≤ 300 := by omega
          clear hD3 hDz hOz hx
          go_wp2_with fail
          refine (hO _ 2 (by omega) (by omega) D3.rd).mono ?_
          rintro e w4 ⟨b2, rfl, hD4⟩
          have D4 := D3.trans hD4
          have O4 := O3.but hD4.gb (by cases hb : (Value.slice za zs.length zc).ownBlock with | none => exact .inl rfl | some q => exact .inr (by simp; exact hobz q hb))
          clear D3 O3 hD4
          cases b2
          · obtain ⟨X, hX⟩ : ∃ X : Int, (x : Int) = X := ⟨_, rfl⟩
            have hXb : -1000 ≤ X ∧ X ≤ 1000 := by omega
            rw [hX]
            clear hX hxb
            obtain ⟨ZN, hZN⟩ : ∃ ZN, zs.length = ZN := ⟨_, rfl⟩
            have HZN : Hid (zs.length = ZN) := hZN
            have OZ := O4
            have DZ := D4
            rw [hZN] at OZ hzl ⊢
            clear hZN O4 D4
            go_wp2_with fail
            go_loopw [10, 11] (fun t q wq => ∃ (qn : Nat) (tb : Bool), qn ≤ ZN ∧ q = .int .i64 qn ∧ t = .bool tb ∧ wq = w4) (fun _ q _ => ZN - (RowKit.intOf q).toNat)
            case atStart => exact ⟨0, false, Nat.zero_le _, rfl, rfl, rfl⟩
            case round =>
              obtain ⟨qn, tb, hq, rfl, rfl, hw⟩ := hrel
              have hw' := hw.symm
              subst hw'
              by_cases hqz : qn < ZN
              · have hqi : (qn : Int) < (ZN : Int) := by omega
                cases tb
                · obtain ⟨oa, oc, eo, _, _, _, hcz⟩ := OZ.rd
                  simp only [Value.slice.injEq] at eo
                  obtain ⟨eo1, -, eo3⟩ := eo
                  subst eo1 eo3
                  obtain ⟨b0, off0, rfl, hb0, hcell0⟩ := hcz (by rw [HZN.out]; omega)
                  have d0 := hcell0 qn (by rw [HZN.out]; exact hqz)
                  generalize zs.getD qn 0 = Zq at d0
                  clear hcell0 hcz
                  by_cases hzx : Zq = X
                  · have hzb : (Zq == X) = true := by simp [hzx]
                    clear hzx
                    go_wp2_with fail
                    go_roundw
                    case rel => exact ⟨qn + 1, true, by omega, by go_num, rfl, by trivial⟩
                    case measure => simp [RowKit.intOf]; omega
                  · have hzb : (Zq == X) = false := by simp [hzx]
                    clear hzx
                    go_wp2_with fail
                    go_roundw
                    case rel => exact ⟨qn + 1, false, by omega, by go_num, rfl, by trivial⟩
                    case measure => simp [RowKit.intOf]; omega
                · go_wp2_with fail
                  go_roundw
                  case rel => exact ⟨qn + 1, true, by omega, by go_num, rfl, by trivial⟩
                  case measure => simp [RowKit.intOf]; omega
              · obtain rfl : ZN = qn := by omega
                have hqi : ¬ (ZN : Int) < (ZN : Int) := by omega
                cases tb
                · skip
                  have OA := OZ.alloc (.cells #[.int .i64 X] 2)
                  have DA := DZ.below ((Below.refl _ _).alloc (Nat.le_refl _) (.cells #[.int .i64 X] 2))
                  have hszA := DA.gb.size
                  go_wp2_with (at_builtin; refine wpList_append_gb rfl _ _ 51 rfl Try.underlying51 W1.heap.size _ _ zs [X] (ZN + 1) (by simp [HZN.out]) rfl rfl OA (Rd.one w4 w4.heap.size rfl 2 (by omega) (by omega)) (by simp) (by omega) hszA ?_; intro a5 c5 w5 hO5 hg5)
                  have D5 := DA.grown hg5 (fun q hq => (OA.lt q hq).1) hgW hbzW
                  go_roundw
                  case rel => exact ⟨j + 1, zs ++ [X], by omega, by simp; have := HZN.out; omega, by go_num, hO5, D5⟩
                  case measure => simp [RowKit.intOf]; omega
                · go_wp2_with fail
                  refine (hO _ 50 (by omega) (by omega) DZ.rd).mono ?_
                  rintro e w9 ⟨b9, rfl, hD9⟩
                  have D9 := DZ.trans hD9
                  have O9 := OZ.but hD9.gb (by cases hb : (Value.slice za ZN zc).ownBlock with | none => exact .inl rfl | some q => exact .inr (by simp; rw [← HZN.out] at hb; exact hobz q hb))
                  clear DZ OZ hD9
                  cases b9
                  · go_wp2_with fail
                    go_roundw
                    case rel => exact ⟨j + 1, zs, by omega, by omega, by go_num, by rw [← HZN.out] at O9; first | exact O9 | (rw [HZN.out] at O9; exact O9), D9⟩
                    case measure => simp [RowKit.intOf]; omega
                  · skip
                    have OA := O9.alloc (.cells #[.int .i64 X] 2)
                    have DA := D9.below ((Below.refl _ _).alloc (Nat.le_refl _) (.cells #[.int .i64 X] 2))
                    have hszA := DA.gb.size
                    go_wp2_with (at_builtin; refine wpList_append_gb rfl _ _ 51 rfl Try.underlying51 W1.heap.size _ _ zs [X] (ZN + 1) (by simp [HZN.out]) rfl rfl OA (Rd.one w9 w9.heap.size rfl 2 (by omega) (by omega)) (by simp) (by omega) hszA ?_; intro a5 c5 w5 hO5 hg5)
                    have D5 := DA.grown hg5 (fun q hq => (OA.lt q hq).1) hgW hbzW
                    go_roundw
                    case rel => exact ⟨j + 1, zs ++ [X], by omega, by simp; have := HZN.out; omega, by go_num, hO5, D5⟩
                    case measure => simp [RowKit.intOf]; omega
          · go_wp2_with fail
            refine (hBG _ k (by omega) D4.rd).mono ?_
            rintro e w5 ⟨y, rfl, hy, hD5⟩
            have D5 := D4.trans hD5
            have O5 := O4.but hD5.gb (by cases hb : (Value.slice za zs.length zc).ownBlock with | none => exact .inl rfl | some q => exact .inr (by simp; exact hobz q hb))
            clear D4 O4 hD5
            obtain ⟨ym, hym⟩ : ∃ ym, y % 3 = ym := ⟨_, rfl⟩
            have hym3 : ym < 3 := by omega
            have htm : Int.tmod (y : Int) 3 = (ym : Int) := by rw [← hym, show (3 : Int) = ((3 : Nat) : Int) from rfl, ← Int.ofNat_tmod]
            have hmd2 : (y : Int) % 3 = (ym : Int) := by rw [← hym]; rfl
            have hyb : y ≤ 300 := by omega
            have wk1 : IntKind.i64.wrap ((k : Int) - 1) = (k : Int) - 1 := by rw [IntKind.wrap_i64]; omega
            have wk2 : IntKind.i64.wrap ((k : Int) - 1 - (ym : Int)) = (k : Int) - 1 - (ym : Int) := by rw [IntKind.wrap_i64]; omega
            have wk3 : IntKind.i64.wrap (ym : Int) = (ym : Int) := by rw [IntKind.wrap_i64]; omega
            obtain ⟨X, hX⟩ : ∃ X : Int, (k : Int) - 1 - (ym : Int) = X := ⟨_, rfl⟩
            have hXb : -1000 ≤ X ∧ X ≤ 1000 := by omega
            rw [hX] at wk2
            have HXX : Hid ((k : Int) - 1 - (ym : Int) = X) := hX
            clear hym hy
            by_cases hX0 : X < 0
            · obtain ⟨Y, hY⟩ : ∃ Y : Int, (0 : Int) = Y := ⟨_, rfl⟩
              have hYb : -1000 ≤ Y ∧ Y ≤ 1000 := by omega
              clear hY
              obtain ⟨ZN, hZN⟩ : ∃ ZN, zs.length = ZN := ⟨_, rfl⟩
              have HZN : Hid (zs.length = ZN) := hZN
              have OZ := O5
              have DZ := D5
              rw [hZN] at OZ hzl ⊢
              clear hZN O5 D5
              go_wp2_with fail
              go_loopw [10, 11] (fun t q wq => ∃ (qn : Nat) (tb : Bool), qn ≤ ZN ∧ q = .int .i64 qn ∧ t = .bool tb ∧ wq = w5) (fun _ q _ => ZN - (RowKit.intOf q).toNat)
              case atStart => exact ⟨0, false, Nat.zero_le _, rfl, rfl, rfl⟩
              case round =>
                obtain ⟨qn, tb, hq, rfl, rfl, hw⟩ := hrel
                have hw' := hw.symm
                subst hw'
                by_cases hqz : qn < ZN
                · have hqi : (qn : Int) < (ZN : Int) := by omega
                  cases tb
                  · obtain ⟨oa, oc, eo, _, _, _, hcz⟩ := OZ.rd
                    simp only [Value.slice.injEq] at eo
                    obtain ⟨eo1, -, eo3⟩ := eo
                    subst eo1 eo3
                    obtain ⟨b0, off0, rfl, hb0, hcell0⟩ := hcz (by rw [HZN.out]; omega)
                    have d0 := hcell0 qn (by rw [HZN.out]; exact hqz)
                    generalize zs.getD qn 0 = Zq at d0
                    clear hcell0 hcz
                    by_cases hzx : Zq = (0 : Int)
                    · have hzb : (Zq == (0 : Int)) = true := by simp [hzx]
                      clear hzx
                      go_wp2_with fail
                      go_roundw
                      case rel => exact ⟨qn + 1, true, by omega, by go_num, rfl, by trivial⟩
                      case measure => simp [RowKit.intOf]; omega
                    · have hzb : (Zq == (0 : Int)) = false := by simp [hzx]
                      clear hzx
                      go_wp2_with fail
                      go_roundw
                      case rel => exact ⟨qn + 1, false, by omega, by go_num, rfl, by trivial⟩
                      case measure => simp [RowKit.intOf]; omega
                  · go_wp2_with fail
                    go_roundw
                    case rel => exact ⟨qn + 1, true, by omega, by go_num, rfl, by trivial⟩
                    case measure => simp [RowKit.intOf]; omega
                · obtain rfl : ZN = qn := by omega
                  have hqi : ¬ (ZN : Int) < (ZN : Int) := by omega
                  cases tb
                  · skip
                    have OA := OZ.alloc (.cells #[.int .i64 (0 : Int)] 2)
                    have DA := DZ.below ((Below.refl _ _).alloc (Nat.le_refl _) (.cells #[.int .i64 (0 : Int)] 2))
                    have hszA := DA.gb.size
                    go_wp2_with (at_builtin; refine wpList_append_gb rfl _ _ 51 rfl Try.underlying51 W1.heap.size _ _ zs [(0 : Int)] (ZN + 1) (by simp [HZN.out]) rfl rfl OA (Rd.one w5 w5.heap.size rfl 2 (by omega) (by omega)) (by simp) (by omega) hszA ?_; intro a5 c5 w5 hO5 hg5)
                    have D5 := DA.grown hg5 (fun q hq => (OA.lt q hq).1) hgW hbzW
                    go_roundw
                    case rel => exact ⟨j + 1, zs ++ [(0 : Int)], by omega, by simp; have := HZN.out; omega, by go_num, hO5, D5⟩
                    case measure => simp [RowKit.intOf]; omega
                  · go_wp2_with fail
                    refine (hO _ 50 (by omega) (by omega) DZ.rd).mono ?_
                    rintro e w9 ⟨b9, rfl, hD9⟩
                    have D9 := DZ.trans hD9
                    have O9 := OZ.but hD9.gb (by cases hb : (Value.slice za ZN zc).ownBlock with | none => exact .inl rfl | some q => exact .inr (by simp; rw [← HZN.out] at hb; exact hobz q hb))
                    clear DZ OZ hD9
                    cases b9
                    · go_wp2_with fail
                      go_roundw
                      case rel => exact ⟨j + 1, zs, by omega, by omega, by go_num, by rw [← HZN.out] at O9; first | exact O9 | (rw [HZN.out] at O9; exact O9), D9⟩
                      case measure => simp [RowKit.intOf]; omega
                    · skip
                      have OA := O9.alloc (.cells #[.int .i64 (0 : Int)] 2)
                      have DA := D9.below ((Below.refl _ _).alloc (Nat.le_refl _) (.cells #[.int .i64 (0 : Int)] 2))
                      have hszA := DA.gb.size
                      go_wp2_with (at_builtin; refine wpList_append_gb rfl _ _ 51 rfl Try.underlying51 W1.heap.size _ _ zs [(0 : Int)] (ZN + 1) (by simp [HZN.out]) rfl rfl OA (Rd.one w9 w9.heap.size rfl 2 (by omega) (by omega)) (by simp) (by omega) hszA ?_; intro a5 c5 w5 hO5 hg5)
                      have D5 := DA.grown hg5 (fun q hq => (OA.lt q hq).1) hgW hbzW
                      go_roundw
                      case rel => exact ⟨j + 1, zs ++ [(0 : Int)], by omega, by simp; have := HZN.out; omega, by go_num, hO5, D5⟩
                      case measure => simp [RowKit.intOf]; omega
            · skip
              obtain ⟨ZN, hZN⟩ : ∃ ZN, zs.length = ZN := ⟨_, rfl⟩
              have HZN : Hid (zs.length = ZN) := hZN
              have OZ := O5
              have DZ := D5
              rw [hZN] at OZ hzl ⊢
              clear hZN O5 D5
              go_wp2_with fail
              go_loopw [10, 11] (fun t q wq => ∃ (qn : Nat) (tb : Bool), qn ≤ ZN ∧ q = .int .i64 qn ∧ t = .bool tb ∧ wq = w5) (fun _ q _ => ZN - (RowKit.intOf q).toNat)
              case atStart => exact ⟨0, false, Nat.zero_le _, rfl, rfl, rfl⟩
              case round =>
                obtain ⟨qn, tb, hq, rfl, rfl, hw⟩ := hrel
                have hw' := hw.symm
                subst hw'
                by_cases hqz : qn < ZN
                · have hqi : (qn : Int) < (ZN : Int) := by omega
                  cases tb
                  · obtain ⟨oa, oc, eo, _, _, _, hcz⟩ := OZ.rd
                    simp only [Value.slice.injEq] at eo
                    obtain ⟨eo1, -, eo3⟩ := eo
                    subst eo1 eo3
                    obtain ⟨b0, off0, rfl, hb0, hcell0⟩ := hcz (by rw [HZN.out]; omega)
                    have d0 := hcell0 qn (by rw [HZN.out]; exact hqz)
                    generalize zs.getD qn 0 = Zq at d0
                    clear hcell0 hcz
                    by_cases hzx : Zq = X
                    · have hzb : (Zq == X) = true := by simp [hzx]
                      clear hzx
                      go_wp2_with fail
                      go_roundw
                      case rel => exact ⟨qn + 1, true, by omega, by go_num, rfl, by trivial⟩
                      case measure => simp [RowKit.intOf]; omega
                    · have hzb : (Zq == X) = false := by simp [hzx]
                      clear hzx
                      go_wp2_with fail
                      go_roundw
                      case rel => exact ⟨qn + 1, false, by omega, by go_num, rfl, by trivial⟩
                      case measure => simp [RowKit.intOf]; omega
                  · go_wp2_with fail
                    go_roundw
                    case rel => exact ⟨qn + 1, true, by omega, by go_num, rfl, by trivial⟩
                    case measure => simp [RowKit.intOf]; omega
                · obtain rfl : ZN = qn := by omega
                  have hqi : ¬ (ZN : Int) < (ZN : Int) := by omega
                  cases tb
                  · skip
                    have OA := OZ.alloc (.cells #[.int .i64 X] 2)
                    have DA := DZ.below ((Below.refl _ _).alloc (Nat.le_refl _) (.cells #[.int .i64 X] 2))
                    have hszA := DA.gb.size
                    go_wp2_with (at_builtin; refine wpList_append_gb rfl _ _ 51 rfl Try.underlying51 W1.heap.size _ _ zs [X] (ZN + 1) (by simp [HZN.out]) rfl rfl OA (Rd.one w5 w5.heap.size rfl 2 (by omega) (by omega)) (by simp) (by omega) hszA ?_; intro a5 c5 w5 hO5 hg5)
                    have D5 := DA.grown hg5 (fun q hq => (OA.lt q hq).1) hgW hbzW
                    go_roundw
                    case rel => exact ⟨j + 1, zs ++ [X], by omega, by simp; have := HZN.out; omega, by go_num, hO5, D5⟩
                    case measure => simp [RowKit.intOf]; omega
                  · go_wp2_with fail
                    refine (hO _ 50 (by omega) (by omega) DZ.rd).mono ?_
                    rintro e w9 ⟨b9, rfl, hD9⟩
                    have D9 := DZ.trans hD9
                    have O9 := OZ.but hD9.gb (by cases hb : (Value.slice za ZN zc).ownBlock with | none => exact .inl rfl | some q => exact .inr (by simp; rw [← HZN.out] at hb; exact hobz q hb))
                    clear DZ OZ hD9
                    cases b9
                    · go_wp2_with fail
                      go_roundw
                      case rel => exact ⟨j + 1, zs, by omega, by omega, by go_num, by rw [← HZN.out] at O9; first | exact O9 | (rw [HZN.out] at O9; exact O9), D9⟩
                      case measure => simp [RowKit.intOf]; omega
                    · skip
                      have OA := O9.alloc (.cells #[.int .i64 X] 2)
                      have DA := D9.below ((Below.refl _ _).alloc (Nat.le_refl _) (.cells #[.int .i64 X] 2))
                      have hszA := DA.gb.size
                      go_wp2_with (at_builtin; refine wpList_append_gb rfl _ _ 51 rfl Try.underlying51 W1.heap.size _ _ zs [X] (ZN + 1) (by simp [HZN.out]) rfl rfl OA (Rd.one w9 w9.heap.size rfl 2 (by omega) (by omega)) (by simp) (by omega) hszA ?_; intro a5 c5 w5 hO5 hg5)
                      have D5 := DA.grown hg5 (fun q hq => (OA.lt q hq).1) hgW hbzW
                      go_roundw
                      case rel => exact ⟨j + 1, zs ++ [X], by omega, by simp; have := HZN.out; omega, by go_num, hO5, D5⟩
                      case measure => simp [RowKit.intOf]; omega
        · by_cases hjK : j < K4
          · have hji : (j : Int) < (K4 : Int) := by omega
            have hki : ¬ (0 : Int) < (k : Int) := by omega
            obtain ⟨ZN, hZN⟩ : ∃ ZN, zs.length = ZN := ⟨_, rfl⟩
            have HZN : Hid (zs.length = ZN) := hZN
            rw [hZN] at hOz hobz hzl ⊢
            clear hZN
            go_wp2_with fail
            refine (hO _ 4 (by omega) (by omega) hDz.rd).mono ?_
            rintro e w3 ⟨b4, rfl, hD3⟩
            have D3 := hDz.trans hD3
            have O3 := hOz.but hD3.gb (by cases hb : (Value.slice za ZN zc).ownBlock with | none => exact .inl rfl | some q => exact .inr (by simp; exact hobz q hb))
            clear hD3 hDz hOz
            cases b4
            · go_wp2_with fail
              go_loopw [12] (fun xv wq => ∃ (xn : Nat) (zf : List Int), xn ≤ ZN ∧ xv = .int .i64 xn ∧ Hid (zf.length = ZN) ∧ Own wq W1.heap.size (.slice za ZN zc) zf ∧ Drawn W1 wq g a n c bs) (fun xv _ => ZN - (RowKit.intOf xv).toNat)
              case atStart => exact ⟨0, zs, Nat.zero_le _, rfl, HZN, O3, D3⟩
              case round =>
                obtain ⟨xn, zf, hxn, rfl, HZF, OF, DF⟩ := hrel
                clear O3 D3
                generalize wr = W5 at *
                by_cases hxz : xn < ZN
                · have hxi : (xn : Int) < (ZN : Int) := by omega
                  go_wp2_with fail
                  go_loopw [13] (fun yv wq => ∃ (yn : Nat) (zf : List Int), xn < yn ∧ yn ≤ ZN ∧ yv = .int .i64 yn ∧ Hid (zf.length = ZN) ∧ Own wq W1.heap.size (.slice za ZN zc) zf ∧ Drawn W1 wq g a n c bs) (fun yv _ => ZN - (RowKit.intOf yv).toNat)
                  case atStart => exact ⟨xn + 1, zf, by omega, by omega, by go_num, HZF, OF, DF⟩
                  case round =>
                    obtain ⟨yn, zg, hxy, hyn, rfl, HZG, OG, DG⟩ := hrel
                    clear OF DF HZF
                    generalize wr = W6 at *
                    by_cases hyz : yn < ZN
                    · have hyi : (yn : Int) < (ZN : Int) := by omega
                      rcases OG.shape with ⟨e0, _⟩ | ⟨gb, gc, e0, hgb, hgl, _⟩
                      · simp at e0; omega
                      simp only [Value.slice.injEq] at e0
                      obtain ⟨rfl, -, rfl⟩ := e0
                      have hxl : xn < zg.length := by rw [HZG.out]; exact hxz
                      have hyl : yn < zg.length := by rw [HZG.out]; exact hyz
                      have d0 := OG.cell xn hxl
                      have d1 := OG.cell yn hyl
                      have f0 := OG.frozen xn
                      have f1 := OG.frozen yn
                      have b0 := OG.2.2.get xn
                      have b1 := OG.2.2.get yn
                      have hne : ¬ yn = xn := by omega
                      have hne' : ¬ xn = yn := by omega
                      have hgbg : gb ≠ g := by omega
                      generalize zg.getD xn 0 = Zx at *
                      generalize zg.getD yn 0 = Zy at *
                      have OH := (OG.store xn b1.1 b1.2).store yn b0.1 b0.2
                      have g1 := gb_trans (gb_set W6 gb xn (.int .i64 Zy)) (gb_set _ gb yn (.int .i64 Zx))
                      have DH := DG.grown g1 (fun q hq => by cases hq; exact hgb) hgW hbzW
                      by_cases hgt : Zx < Zy
                      · go_wp2_with fail
                        go_region_held3 (fun W => W.cell? ⟨gb, xn, none⟩ = some (.int .i64 Zx) ∧ W.cell? ⟨gb, yn, none⟩ = some (.int .i64 Zy)) (go_keep) (fail)
                        all_goals
                          go_wp2_with fail
                          go_roundw
                          case rel => exact ⟨yn + 1, (zg.set xn Zy).set yn Zx, by omega, by omega, by go_num, (by show _ = _; simp; exact HZG.out), OH.drew, DH.below (Below.refl _ _).drew⟩
                          case measure => simp [RowKit.intOf]; omega
                      · go_wp2_with fail
                        go_region_held3 (fun W => W.cell? ⟨gb, xn, none⟩ = some (.int .i64 Zx) ∧ W.cell? ⟨gb, yn, none⟩ = some (.int .i64 Zy)) (go_keep) (fail)
                        all_goals
                          go_wp2_with fail
                          go_roundw
                          case rel => exact ⟨yn + 1, zg, by omega, by omega, by go_num, HZG, OG.drew, DG.below (Below.refl _ _).drew⟩
                          case measure => simp [RowKit.intOf]; omega
                    · obtain rfl : ZN = yn := by omega
                      have hyi : ¬ (ZN : Int) < (ZN : Int) := by omega
                      go_wp2_with fail
                      go_roundw
                      case rel => exact ⟨xn + 1, zg, by omega, by go_num, HZG, OG, DG⟩
                      case measure => simp [RowKit.intOf]; omega
                · obtain rfl : ZN = xn := by omega
                  have hxi : ¬ (ZN : Int) < (ZN : Int) := by omega
                  go_wp2_with fail
                  refine (hDA _ DF.rd (Nat.le_trans hszW DF.gb.size)).mono ?_
                  rintro e wE ⟨u, xs, rfl, hxs, OX, hDE⟩
                  have DE := DF.trans hDE
                  have OB := OF.but hDE.gb (by cases hb : (Value.slice za ZN zc).ownBlock with | none => exact .inl rfl | some q => exact .inr (by simp; exact hobz q hb))
                  obtain ⟨ua, uc, eu⟩ := OX.form
                  subst eu
                  have hszE := DE.gb.size
                  have CE := hC.but DE.gb (fun q hq => by cases hq; exact hglt)
                  have OXE : OwnA wE w.heap.size (.slice ua xs.length uc) xs := OX.mono (Nat.le_trans hszW DF.gb.size)
                  have OBE : Own wE w.heap.size (.slice za ZN zc) zf := OB.mono hszW
                  have hy3 : ∀ q (hq : q < ps.length), ps[q].s1.ownBlock = none ∨ ps[q].s1.ownBlock ≠ (Value.slice za ZN zc).ownBlock := fun q hq => by
                    cases hob : ps[q].s1.ownBlock with
                    | none => exact .inl rfl
                    | some z =>
                      right
                      have h1 := ((hC.row q hq (by rw [← hC.len]; exact hq)).1.lt z hob).2
                      intro e2
                      have h2 := (OB.lt z e2.symm).1
                      omega
                  have bM : Below wE.heap.size wE (wE.alloc (.cells #[.slice za ZN zc, .slice ua xs.length uc] 54)) := (Below.refl _ wE).alloc (Nat.le_refl _) _
                  have CM := CE.keep bM
                  have DM := DE.below bM
                  have hszM := DM.gb.size
                  go_wp2_with (at_builtin; refine wpList_append_one (S := shP) Try.info54 rfl (by omega) rfl _ _ 25 rfl Try.underlying25 w.heap.size _ ps (⟨za, ZN, zc, ua, xs.length, uc⟩ : Sp) trivial wE.heap.size 1 rfl rfl CM.out (sp_new wE ⟨za, ZN, zc, ua, xs.length, uc⟩ _ _ rfl) (by have := HPL.out; omega) (by omega) ?_; intro a' c' w' hO' hg')
                  have CF := CM.snoc (p := ⟨za, ZN, zc, ua, xs.length, uc⟩) (OBE.keep bM) (OXE.keep bM) hy3 hO' hg'
                  have DF := (hD.trans DM).grown hg' (fun q hq => (CM.out.lt q hq).1) hglt hbz
                  simp only [List.length_append, List.length_singleton] at CF
                  go_roundw
                  case rel => exact ⟨k + 1, _, _, by omega, by simp [HCK.out], by go_num, CF, (by
                    intro x hx
                    rcases List.mem_append.mp hx with h | h
                    · exact HBL.out x h
                    · simp at h; subst h; have := HZF.out; exact (show zf.length ≤ 4 by omega)), DF⟩
                  case measure => simp [RowKit.intOf]; omega
            · skip
              go_wp2_with fail
              refine (hDA _ D3.rd (Nat.le_trans hszW D3.gb.size)).mono ?_
              rintro e wE ⟨u, xs, rfl, hxs, OX, hDE⟩
              have DE := D3.trans hDE
              have OB := O3.but hDE.gb (by cases hb : (Value.slice za ZN zc).ownBlock with | none => exact .inl rfl | some q => exact .inr (by simp; exact hobz q hb))
              obtain ⟨ua, uc, eu⟩ := OX.form
              subst eu
              have hszE := DE.gb.size
              have CE := hC.but DE.gb (fun q hq => by cases hq; exact hglt)
              have OXE : OwnA wE w.heap.size (.slice ua xs.length uc) xs := OX.mono (Nat.le_trans hszW D3.gb.size)
              have OBE : Own wE w.heap.size (.slice za ZN zc) zs := OB.mono hszW
              have hy3 : ∀ q (hq : q < ps.length), ps[q].s1.ownBlock = none ∨ ps[q].s1.ownBlock ≠ (Value.slice za ZN zc).ownBlock := fun q hq => by
                cases hob : ps[q].s1.ownBlock with
                | none => exact .inl rfl
                | some z =>
                  right
                  have h1 := ((hC.row q hq (by rw [← hC.len]; exact hq)).1.lt z hob).2
                  intro e2
                  have h2 := (OB.lt z e2.symm).1
                  omega
              have bM : Below wE.heap.size wE (wE.alloc (.cells #[.slice za ZN zc, .slice ua xs.length uc] 54)) := (Below.refl _ wE).alloc (Nat.le_refl _) _
              have CM := CE.keep bM
              have DM := DE.below bM
              have hszM := DM.gb.size
              go_wp2_with (at_builtin; refine wpList_append_one (S := shP) Try.info54 rfl (by omega) rfl _ _ 25 rfl Try.underlying25 w.heap.size _ ps (⟨za, ZN, zc, ua, xs.length, uc⟩ : Sp) trivial wE.heap.size 1 rfl rfl CM.out (sp_new wE ⟨za, ZN, zc, ua, xs.length, uc⟩ _ _ rfl) (by have := HPL.out; omega) (by omega) ?_; intro a' c' w' hO' hg')
              have CF := CM.snoc (p := ⟨za, ZN, zc, ua, xs.length, uc⟩) (OBE.keep bM) (OXE.keep bM) hy3 hO' hg'
              have DF := (hD.trans DM).grown hg' (fun q hq => (CM.out.lt q hq).1) hglt hbz
              simp only [List.length_append, List.length_singleton] at CF
              go_roundw
              case rel => exact ⟨k + 1, _, _, by omega, by simp [HCK.out], by go_num, CF, (by
                intro x hx
                rcases List.mem_append.mp hx with h | h
                · exact HBL.out x h
                · simp at h; subst h; have := HZN.out; exact (show zs.length ≤ 4 by omega)), DF⟩
              case measure => simp [RowKit.intOf]; omega
          · have hji : ¬ (j : Int) < (K4 : Int) := by omega
            obtain ⟨ZN, hZN⟩ : ∃ ZN, zs.length = ZN := ⟨_, rfl⟩
            have HZN : Hid (zs.length = ZN) := hZN
            rw [hZN] at hOz hobz hzl ⊢
            clear hZN
            go_wp2_with fail
            refine (hO _ 4 (by omega) (by omega) hDz.rd).mono ?_
            rintro e w3 ⟨b4, rfl, hD3⟩
            have D3 := hDz.trans hD3
            have O3 := hOz.but hD3.gb (by cases hb : (Value.slice za ZN zc).ownBlock with | none => exact .inl rfl | some q => exact .inr (by simp; exact hobz q hb))
            clear hD3 hDz hOz
            cases b4
            · go_wp2_with fail
              go_loopw [12] (fun xv wq => ∃ (xn : Nat) (zf : List Int), xn ≤ ZN ∧ xv = .int .i64 xn ∧ Hid (zf.length = ZN) ∧ Own wq W1.heap.size (.slice za ZN zc) zf ∧ Drawn W1 wq g a n c bs) (fun xv _ => ZN - (RowKit.intOf xv).toNat)
              case atStart => exact ⟨0, zs, Nat.zero_le _, rfl, HZN, O3, D3⟩
              case round =>
                obtain ⟨xn, zf, hxn, rfl, HZF, OF, DF⟩ := hrel
                clear O3 D3
                generalize wr = W5 at *
                by_cases hxz : xn < ZN
                · have hxi : (xn : Int) < (ZN : Int) := by omega
                  go_wp2_with fail
                  go_loopw [13] (fun yv wq => ∃ (yn : Nat) (zf : List Int), xn < yn ∧ yn ≤ ZN ∧ yv = .int .i64 yn ∧ Hid (zf.length = ZN) ∧ Own wq W1.heap.size (.slice za ZN zc) zf ∧ Drawn W1 wq g a n c bs) (fun yv _ => ZN - (RowKit.intOf yv).toNat)
                  case atStart => exact ⟨xn + 1, zf, by omega, by omega, by go_num, HZF, OF, DF⟩
                  case round =>
                    obtain ⟨yn, zg, hxy, hyn, rfl, HZG, OG, DG⟩ := hrel
                    clear OF DF HZF
                    generalize wr = W6 at *
                    by_cases hyz : yn < ZN
                    · have hyi : (yn : Int) < (ZN : Int) := by omega
                      rcases OG.shape with ⟨e0, _⟩ | ⟨gb, gc, e0, hgb, hgl, _⟩
                      · simp at e0; omega
                      simp only [Value.slice.injEq] at e0
                      obtain ⟨rfl, -, rfl⟩ := e0
                      have hxl : xn < zg.length := by rw [HZG.out]; exact hxz
                      have hyl : yn < zg.length := by rw [HZG.out]; exact hyz
                      have d0 := OG.cell xn hxl
                      have d1 := OG.cell yn hyl
                      have f0 := OG.frozen xn
                      have f1 := OG.frozen yn
                      have b0 := OG.2.2.get xn
                      have b1 := OG.2.2.get yn
                      have hne : ¬ yn = xn := by omega
                      have hne' : ¬ xn = yn := by omega
                      have hgbg : gb ≠ g := by omega
                      generalize zg.getD xn 0 = Zx at *
                      generalize zg.getD yn 0 = Zy at *
                      have OH := (OG.store xn b1.1 b1.2).store yn b0.1 b0.2
                      have g1 := gb_trans (gb_set W6 gb xn (.int .i64 Zy)) (gb_set _ gb yn (.int .i64 Zx))
                      have DH := DG.grown g1 (fun q hq => by cases hq; exact hgb) hgW hbzW
                      by_cases hgt : Zx < Zy
                      · go_wp2_with fail
                        go_region_held3 (fun W => W.cell? ⟨gb, xn, none⟩ = some (.int .i64 Zx) ∧ W.cell? ⟨gb, yn, none⟩ = some (.int .i64 Zy)) (go_keep) (fail)
                        all_goals
                          go_wp2_with fail
                          go_roundw
                          case rel => exact ⟨yn + 1, (zg.set xn Zy).set yn Zx, by omega, by omega, by go_num, (by show _ = _; simp; exact HZG.out), OH.drew, DH.below (Below.refl _ _).drew⟩
                          case measure => simp [RowKit.intOf]; omega
                      · go_wp2_with fail
                        go_region_held3 (fun W => W.cell? ⟨gb, xn, none⟩ = some (.int .i64 Zx) ∧ W.cell? ⟨gb, yn, none⟩ = some (.int .i64 Zy)) (go_keep) (fail)
                        all_goals
                          go_wp2_with fail
                          go_roundw
                          case rel => exact ⟨yn + 1, zg, by omega, by omega, by go_num, HZG, OG.drew, DG.below (Below.refl _ _).drew⟩
                          case measure => simp [RowKit.intOf]; omega
                    · obtain rfl : ZN = yn := by omega
                      have hyi : ¬ (ZN : Int) < (ZN : Int) := by omega
                      go_wp2_with fail
                      go_roundw
                      case rel => exact ⟨xn + 1, zg, by omega, by go_num, HZG, OG, DG⟩
                      case measure => simp [RowKit.intOf]; omega
                · obtain rfl : ZN = xn := by omega
                  have hxi : ¬ (ZN : Int) < (ZN : Int) := by omega
                  go_wp2_with fail
                  refine (hDA _ DF.rd (Nat.le_trans hszW DF.gb.size)).mono ?_
                  rintro e wE ⟨u, xs, rfl, hxs, OX, hDE⟩
                  have DE := DF.trans hDE
                  have OB := OF.but hDE.gb (by cases hb : (Value.slice za ZN zc).ownBlock with | none => exact .inl rfl | some q => exact .inr (by simp; exact hobz q hb))
                  obtain ⟨ua, uc, eu⟩ := OX.form
                  subst eu
                  have hszE := DE.gb.size
                  have CE := hC.but DE.gb (fun q hq => by cases hq; exact hglt)
                  have OXE : OwnA wE w.heap.size (.slice ua xs.length uc) xs := OX.mono (Nat.le_trans hszW DF.gb.size)
                  have OBE : Own wE w.heap.size (.slice za ZN zc) zf := OB.mono hszW
                  have hy3 : ∀ q (hq : q < ps.length), ps[q].s1.ownBlock = none ∨ ps[q].s1.ownBlock ≠ (Value.slice za ZN zc).ownBlock := fun q hq => by
                    cases hob : ps[q].s1.ownBlock with
                    | none => exact .inl rfl
                    | some z =>
                      right
                      have h1 := ((hC.row q hq (by rw [← hC.len]; exact hq)).1.lt z hob).2
                      intro e2
                      have h2 := (OB.lt z e2.symm).1
                      omega
                  have bM : Below wE.heap.size wE (wE.alloc (.cells #[.slice za ZN zc, .slice ua xs.length uc] 54)) := (Below.refl _ wE).alloc (Nat.le_refl _) _
                  have CM := CE.keep bM
                  have DM := DE.below bM
                  have hszM := DM.gb.size
                  go_wp2_with (at_builtin; refine wpList_append_one (S := shP) Try.info54 rfl (by omega) rfl _ _ 25 rfl Try.underlying25 w.heap.size _ ps (⟨za, ZN, zc, ua, xs.length, uc⟩ : Sp) trivial wE.heap.size 1 rfl rfl CM.out (sp_new wE ⟨za, ZN, zc, ua, xs.length, uc⟩ _ _ rfl) (by have := HPL.out; omega) (by omega) ?_; intro a' c' w' hO' hg')
                  have CF := CM.snoc (p := ⟨za, ZN, zc, ua, xs.length, uc⟩) (OBE.keep bM) (OXE.keep bM) hy3 hO' hg'
                  have DF := (hD.trans DM).grown hg' (fun q hq => (CM.out.lt q hq).1) hglt hbz
                  simp only [List.length_append, List.length_singleton] at CF
                  go_roundw
                  case rel => exact ⟨k + 1, _, _, by omega, by simp [HCK.out], by go_num, CF, (by
                    intro x hx
                    rcases List.mem_append.mp hx with h | h
                    · exact HBL.out x h
                    · simp at h; subst h; have := HZF.out; exact (show zf.length ≤ 4 by omega)), DF⟩
                  case measure => simp [RowKit.intOf]; omega
            · skip
              go_wp2_with fail
              refine (hDA _ D3.rd (Nat.le_trans hszW D3.gb.size)).mono ?_
              rintro e wE ⟨u, xs, rfl, hxs, OX, hDE⟩
              have DE := D3.trans hDE
              have OB := O3.but hDE.gb (by cases hb : (Value.slice za ZN zc).ownBlock with | none => exact .inl rfl | some q => exact .inr (by simp; exact hobz q hb))
              obtain ⟨ua, uc, eu⟩ := OX.form
              subst eu
              have hszE := DE.gb.size
              have CE := hC.but DE.gb (fun q hq => by cases hq; exact hglt)
              have OXE : OwnA wE w.heap.size (.slice ua xs.length uc) xs := OX.mono (Nat.le_trans hszW D3.gb.size)
              have OBE : Own wE w.heap.size (.slice za ZN zc) zs := OB.mono hszW
              have hy3 : ∀ q (hq : q < ps.length), ps[q].s1.ownBlock = none ∨ ps[q].s1.ownBlock ≠ (Value.slice za ZN zc).ownBlock := fun q hq => by
                cases hob : ps[q].s1.ownBlock with
                | none => exact .inl rfl
                | some z =>
                  right
                  have h1 := ((hC.row q hq (by rw [← hC.len]; exact hq)).1.lt z hob).2
                  intro e2
                  have h2 := (OB.lt z e2.symm).1
                  omega
              have bM : Below wE.heap.size wE (wE.alloc (.cells #[.slice za ZN zc, .slice ua xs.length uc] 54)) := (Below.refl _ wE).alloc (Nat.le_refl _) _
              have CM := CE.keep bM
              have DM := DE.below bM
              have hszM := DM.gb.size
              go_wp2_with (at_builtin; refine wpList_append_one (S := shP) Try.info54 rfl (by omega) rfl _ _ 25 rfl Try.underlying25 w.heap.size _ ps (⟨za, ZN, zc, ua, xs.length, uc⟩ : Sp) trivial wE.heap.size 1 rfl rfl CM.out (sp_new wE ⟨za, ZN, zc, ua, xs.length, uc⟩ _ _ rfl) (by have := HPL.out; omega) (by omega) ?_; intro a' c' w' hO' hg')
              have CF := CM.snoc (p := ⟨za, ZN, zc, ua, xs.length, uc⟩) (OBE.keep bM) (OXE.keep bM) hy3 hO' hg'
              have DF := (hD.trans DM).grown hg' (fun q hq => (CM.out.lt q hq).1) hglt hbz
              simp only [List.length_append, List.length_singleton] at CF
              go_roundw
              case rel => exact ⟨k + 1, _, _, by omega, by simp [HCK.out], by go_num, CF, (by
                intro x hx
                rcases List.mem_append.mp hx with h | h
                · exact HBL.out x h
                · simp at h; subst h; have := HZN.out; exact (show zs.length ≤ 4 by omega)), DF⟩
              case measure => simp [RowKit.intOf]; omega
    · obtain rfl : N = k := by omega
      have hlti : ¬ (N : Int) < (N : Int) := by omega
      go_wp2_with fail
      refine (hO _ 20 (by omega) (by omega) hD.rd).mono ?_
      rintro e w2 ⟨b20, rfl, hD2⟩
      have D2 := hD.trans hD2
      have C2 := hC.but hD2.gb (fun q hq => by cases hq; exact hglt)
      clear hD hC hD2
      cases b20
      · have C3 := C2.cr
        clear C2
        go_wp2_with fail
        refine (hO _ 60 (by omega) (by omega) D2.rd).mono ?_
        rintro e wP ⟨b60, rfl, hDP⟩
        have DP := D2.trans hDP
        have CP := C3.but hDP.gb (fun q hq => by cases hq; exact hglt)
        clear D2 C3 hDP
        cases b60
        · go_wp2_with fail
          go_ret
          exact ⟨_, _, _, rfl, CP, (by have := HCK.out; omega), DP⟩
        · go_wp2_with fail
          go_loopw [4] (fun ov wq => ∃ (M : Nat) (ps : List Sp) (cs : List Cl) (oa : Option Addr) (oc : Nat), ov = .slice oa M oc ∧ Hid (cs.length = M) ∧ 1 ≤ M ∧ M ≤ 201 ∧ CR wq w.heap.size (.slice oa M oc) ps cs ∧ Drawn w wq g a n c bs) (fun ov _ => 201 - slL ov)
          case atStart => exact ⟨N, _, _, _, _, rfl, HCK, by omega, by omega, CP, DP⟩
          case round =>
            obtain ⟨M, ps, cs, oa, oc, rfl, HM, hM1, hM2, CQ, DQ⟩ := hrel
            clear CP DP
            generalize wr = W8 at *
            go_wp2_with fail
            refine (hBG _ 2 (by omega) DQ.rd).mono ?_
            rintro e w9 ⟨y, rfl, hy, hD9⟩
            have D9 := DQ.trans hD9
            have C9 := CQ.but hD9.gb (fun q hq => by cases hq; exact hglt)
            have hy1 : y ≤ 1 := by omega
            clear DQ CQ hD9
            by_cases hMy : M < 200 + y
            · have hMi : (M : Int) < 200 + (y : Int) := by omega
              have HPM : Hid (ps.length = M) := by rw [Hid, C9.len]; exact HM.out
              have bI : Below w9.heap.size w9 (w9.alloc (.cells #[.int .i64 ((M : Int) - 1)] 2)) := (Below.refl _ w9).alloc (Nat.le_refl _) _
              have OI := Own.lit1 w9 w9.heap.size rfl (x := (M : Int) - 1) (by omega) (by omega)
              have wM : IntKind.i64.wrap ((M : Int) - 1) = (M : Int) - 1 := by rw [IntKind.wrap_i64]; omega
              have h9 := D9.gb.size
              have CI := C9.keep bI
              have DI := D9.below bI
              have bJ : Below (w9.alloc (.cells #[.int .i64 ((M : Int) - 1)] 2)).heap.size (w9.alloc (.cells #[.int .i64 ((M : Int) - 1)] 2)) ((w9.alloc (.cells #[.int .i64 ((M : Int) - 1)] 2)).alloc (.cells #[.slice (some ⟨w9.heap.size, 0, none⟩) 1 1, .slice none 0 0] 54)) := (Below.refl _ _).alloc (Nat.le_refl _) _
              have CJ := CI.keep bJ
              have DJ := DI.below bJ
              have OJ := (OI.mono h9).keep bJ
              have OK : OwnA ((w9.alloc (.cells #[.int .i64 ((M : Int) - 1)] 2)).alloc (.cells #[.slice (some ⟨w9.heap.size, 0, none⟩) 1 1, .slice none 0 0] 54)) w.heap.size (.slice none 0 0) [] := OwnG.nil _ _ _ _
              go_wp2_with (at_builtin; refine wpList_append_one (S := shP) Try.info54 rfl (by omega) rfl _ _ 25 rfl Try.underlying25 w.heap.size _ ps (⟨some ⟨w9.heap.size, 0, none⟩, 1, 1, none, 0, 0⟩ : Sp) trivial (w9.heap.size + 1) 1 rfl rfl CJ.out (sp_new _ ⟨some ⟨w9.heap.size, 0, none⟩, 1, 1, none, 0, 0⟩ _ _ (by simp)) (by have := HPM.out; omega) (by simp; omega) ?_; intro a' c' w' hO' hg')
              have CF := CJ.snoc (p := ⟨some ⟨w9.heap.size, 0, none⟩, 1, 1, none, 0, 0⟩) OJ OK hO' hg'
              have DF := DJ.grown hg' (fun q hq => (CJ.out.lt q hq).1) hglt hbz
              simp only [List.length_append, List.length_singleton, HPM.out] at CF
              go_roundw
              case rel => exact ⟨M + 1, _, _, _, _, by first | rfl | rw [HPM.out], (by show _ = _; simp; exact HM.out), by omega, by omega, CF, DF⟩
              case measure => simp [slL, HPM.out]; omega
            · have hMi : ¬ (M : Int) < 200 + (y : Int) := by omega
              go_wp2_with fail
              go_ret
              exact ⟨_, _, _, rfl, C9, (by have := HM.out; omega), D9⟩
      · have hN0 : (0 : Int) < (N : Int) := by omega
        go_wp2_with fail
        refine (hBG _ N (by omega) D2.rd).mono ?_
        rintro e w3 ⟨x, rfl, hx, hD3⟩
        have D3 := D2.trans hD3
        have C3 := C2.but hD3.gb (fun q hq => by cases hq; exact hglt)
        clear D2 C2 hD3
        have hxN : x < N := by omega
        have hxi : (x : Int) < (N : Int) := by omega
        have hxp : x < ps.length := by rw [HPL.out]; exact hxN
        have hxc : x < cs.length := by rw [HCK.out]; exact hxN
        rcases C3.out.shape with ⟨e0, _⟩ | ⟨gv, cv, e0, hgv, hgvl, _⟩
        · simp at e0; omega
        simp only [Value.slice.injEq] at e0
        obtain ⟨rfl, -, rfl⟩ := e0
        have q0 := C3.out.cell x hxp 0 (by decide)
        simp only [show shP.n = 2 from rfl, Nat.add_zero, shP, List.getElem?_cons_zero] at q0
        have qf := C3.out.frozen (x * 2)
        have hOx := (C3.row x hxp hxc).1
        have hbl : cs[x].b.length ≤ 4 := HBL.out _ (List.getElem_mem hxc)
        have C3o := C3
        obtain ⟨sa, sc, es⟩ := hOx.form
        have HES : Hid (ps[x].s1 = .slice sa cs[x].b.length sc) := es
        obtain ⟨SN, hSN⟩ : ∃ SN, cs[x].b.length = SN := ⟨_, rfl⟩
        have HSN : Hid (cs[x].b.length = SN) := hSN
        rw [es, hSN] at q0
        rw [es, hSN] at hOx
        rw [hSN] at hbl
        have bD : Below w3.heap.size w3 w3.drew := (Below.refl _ w3).drew
        have HB2 := hBG w3.drew (N + 2) (by omega) (D3.below bD).rd
        rw [show ((N + 2 : Nat) : Int) = (N : Int) + 2 by push_cast; rfl] at HB2
        have wN : IntKind.i64.wrap ((N : Int) + 2) = (N : Int) + 2 := by rw [IntKind.wrap_i64]; omega
        have hgvg : gv ≠ g := by omega
        clear es hSN
        go_upto_region 37 with fail
        go_cut [] from 134 (fun wc => ∃ (PS : List Sp) (CS : List Cl), CR wc w.heap.size (.slice (some ⟨gv, 0, none⟩) N vc) PS CS ∧ Hid (CS.length = N) ∧ Drawn w wc g a n c bs)
        case first =>
          refine wp_region_held_drew (S := fun _ => True) (by kernel_rfl) trivial (fun hHeld => ?_)
          refine' wpAnyH_take (i := 0) (oi := _) (v := _) ?hit0 (by kernel_rfl) (by kernel_rfl) (by kernel_rfl) ?hqt0 (Or.inl ⟨?hgt0, ?hyt0⟩) (by assumption) ?restt0
          case hit0 => (rw [List.getElem?_toArray]; exact rfl)
          case hgt0 => rfl
          case hyt0 => (intro w hSw; (try dsimp only at hSw); go_simp; try with_reducible rfl)
          case hqt0 => exact fun _ _ _ h => h
          try simp only [Act.put, List.setIfInBounds_toArray, List.set_cons_zero, List.set_cons_succ]
          refine' wpAnyH_take (i := 1) (oi := _) (v := _) ?hit1 (by kernel_rfl) (by kernel_rfl) (by kernel_rfl) ?hqt1 (Or.inl ⟨?hgt1, ?hyt1⟩) (by assumption) ?restt1
          case hit1 => (rw [List.getElem?_toArray]; exact rfl)
          case hgt1 => rfl
          case hyt1 => (intro w hSw; (try dsimp only at hSw); go_simp; try with_reducible rfl)
          case hqt1 => exact fun _ _ _ h => h
          try simp only [Act.put, List.setIfInBounds_toArray, List.set_cons_zero, List.set_cons_succ]
          refine' wpAnyH_take (i := 2) (oi := _) (v := _) ?hit2 (by kernel_rfl) (by kernel_rfl) (by kernel_rfl) ?hqt2 (Or.inl ⟨?hgt2, ?hyt2⟩) (by assumption) ?restt2
          case hit2 => (rw [List.getElem?_toArray]; exact rfl)
          case hgt2 => rfl
          case hyt2 => (intro w hSw; (try dsimp only at hSw); go_simp; try with_reducible rfl)
          case hqt2 => exact fun _ _ _ h => h
          try simp only [Act.put, List.setIfInBounds_toArray, List.set_cons_zero, List.set_cons_succ]
          refine' wpAnyH_take (i := 3) (oi := _) (v := _) ?hit3 (by kernel_rfl) (by kernel_rfl) (by kernel_rfl) ?hqt3 (Or.inl ⟨?hgt3, ?hyt3⟩) (by assumption) ?restt3
          case hit3 => (rw [List.getElem?_toArray]; exact rfl)
          case hgt3 => rfl
          case hyt3 => (intro w hSw; (try dsimp only at hSw); go_simp; try with_reducible rfl)
          case hqt3 => exact fun _ _ _ h => h
          try simp only [Act.put, List.setIfInBounds_toArray, List.set_cons_zero, List.set_cons_succ]
          refine' wpAnyH_take (i := 4) (oi := _) (v := _) ?hit4 (by kernel_rfl) (by kernel_rfl) (by kernel_rfl) ?hqt4 (Or.inl ⟨?hgt4, ?hyt4⟩) (by assumption) ?restt4
          case hit4 => (rw [List.getElem?_toArray]; exact rfl)
          case hgt4 => rfl
          case hyt4 => (intro w hSw; (try dsimp only at hSw); go_simp; try with_reducible rfl)
          case hqt4 => exact fun _ _ _ h => h
          try simp only [Act.put, List.setIfInBounds_toArray, List.set_cons_zero, List.set_cons_succ]
          refine' wpAnyH_take (i := 5) (oi := _) (v := _) ?hit5 (by kernel_rfl) (by kernel_rfl) (by kernel_rfl) ?hqt5 (Or.inl ⟨?hgt5, ?hyt5⟩) (by assumption) ?restt5
          case hit5 => (rw [List.getElem?_toArray]; exact rfl)
          case hgt5 => rfl
          case hyt5 => (intro w hSw; (try dsimp only at hSw); go_simp; try with_reducible rfl)
          case hqt5 => exact fun _ _ _ h => h
          try simp only [Act.put, List.setIfInBounds_toArray, List.set_cons_zero, List.set_cons_succ]
          refine' wpAnyH_take (i := 7) (oi := _) (v := _) ?hit7 (by kernel_rfl) (by kernel_rfl) (by kernel_rfl) ?hqt7 (Or.inl ⟨?hgt7, ?hyt7⟩) (by assumption) ?restt7
          case hit7 => (rw [List.getElem?_toArray]; exact rfl)
          case hgt7 => rfl
          case hyt7 => (intro w hSw; (try dsimp only at hSw); go_simp; try with_reducible rfl)
          case hqt7 => exact fun _ _ _ h => h
          try simp only [Act.put, List.setIfInBounds_toArray, List.set_cons_zero, List.set_cons_succ]
          refine' wpAnyH_take (i := 8) (oi := _) (v := _) ?hit8 (by kernel_rfl) (by kernel_rfl) (by kernel_rfl) ?hqt8 (Or.inl ⟨?hgt8, ?hyt8⟩) (by assumption) ?restt8
          case hit8 => (rw [List.getElem?_toArray]; exact rfl)
          case hgt8 => rfl
          case hyt8 => (intro w hSw; (try dsimp only at hSw); go_simp; try with_reducible rfl)
          case hqt8 => exact fun _ _ _ h => h
          try simp only [Act.put, List.setIfInBounds_toArray, List.set_cons_zero, List.set_cons_succ]
          refine' wpAnyH_take (i := 9) (oi := _) (v := _) ?hit9 (by kernel_rfl) (by kernel_rfl) (by kernel_rfl) ?hqt9 (Or.inl ⟨?hgt9, ?hyt9⟩) (by assumption) ?restt9
          case hit9 => (rw [List.getElem?_toArray]; exact rfl)
          case hgt9 => rfl
          case hyt9 => (intro w hSw; (try dsimp only at hSw); go_simp; try with_reducible rfl)
          case hqt9 => exact fun _ _ _ h => h
          try simp only [Act.put, List.setIfInBounds_toArray, List.set_cons_zero, List.set_cons_succ]
          refine' wpAnyH_take (i := 10) (oi := _) (v := _) ?hit10 (by kernel_rfl) (by kernel_rfl) (by kernel_rfl) ?hqt10 (Or.inl ⟨?hgt10, ?hyt10⟩) (by assumption) ?restt10
          case hit10 => (rw [List.getElem?_toArray]; exact rfl)
          case hgt10 => rfl
          case hyt10 => (intro w hSw; (try dsimp only at hSw); go_simp; try with_reducible rfl)
          case hqt10 => exact fun _ _ _ h => h
          try simp only [Act.put, List.setIfInBounds_toArray, List.set_cons_zero, List.set_cons_succ]
          refine wpAnyH_ready (rs := [6, 11]) (by kernel_rfl) (by simp) ?_
          refine AllReadyH.cons rfl (fun K hK => ?_) (AllReadyH.cons rfl (fun K hK => ?_) AllReadyH.nil)
          · skip
            go_simp
            refine hK.out _ _ trivial (fun hHeld => ?_)
            clear hK K
            refine wpAnyH_ready (rs := [11]) (by kernel_rfl) (by simp) ?_
            refine AllReadyH.cons rfl (fun K hK => ?_) AllReadyH.nil
            go_simp
            go_wp2_with (go_at_call 61; refine HB2.mono ?_; rintro e w4 ⟨y, rfl, hy, hD4⟩)
            have hyb : y ≤ 300 := by omega
            have wY : IntKind.i64.wrap ((y : Int) - 1) = (y : Int) - 1 := by rw [IntKind.wrap_i64]; omega
            have hszw4 := hD4.gb.size
            have hgv4 : gv < w4.heap.size := Nat.lt_of_lt_of_le hgvl hszw4
            have y0 := dr_gb_cell hD4.gb hgvg hgvl q0
            have y1 := (((Below.refl _ w4).alloc (Nat.le_refl _) (.cells #[.int .i64 ((y : Int) - 1)] 2) : Below w4.heap.size w4 _).cell (p := ⟨gv, x * 2, none⟩) hgv4).trans y0
            have C4 := ((C3.keep bD).but hD4.gb (fun q hq => (by cases hq; exact hglt))).keep ((Below.refl _ w4).alloc (Nat.le_refl _) (.cells #[.int .i64 ((y : Int) - 1)] 2))
            have D4 := ((D3.below bD).trans hD4).below ((Below.refl _ w4).alloc (Nat.le_refl _) (.cells #[.int .i64 ((y : Int) - 1)] 2))
            have O4 := (C4.row x hxp hxc).1
            rw [HES.out, HSN.out] at O4
            have R4 := Rd.one w4 w4.heap.size rfl 2 (z := (y : Int) - 1) (by omega) (by omega)
            have hne5 := own_apart C4.out O4 (by decide)
            have hgvs : gv < (w4.alloc (.cells #[.int .i64 ((y : Int) - 1)] 2)).heap.size := by simp; omega
            refine hK.out _ _ trivial (fun hHeld => ?_)
            clear hK K
            refine wpAnyH_ready (rs := [12]) (by kernel_rfl) (by simp) ?_
            refine AllReadyH.cons rfl (fun K hK => ?_) AllReadyH.nil
            go_simp
            refine hK.out _ _ trivial (fun hHeld => ?_)
            clear hK K
            refine wpAnyH_ready (rs := [13]) (by kernel_rfl) (by simp) ?_
            refine AllReadyH.cons rfl (fun K hK => ?_) AllReadyH.nil
            go_simp
            refine hK.out _ _ trivial (fun hHeld => ?_)
            clear hK K
            refine wpAnyH_ready (rs := [14]) (by kernel_rfl) (by simp) ?_
            refine AllReadyH.cons rfl (fun K hK => ?_) AllReadyH.nil
            refine step_append_rd rfl (.tmp 140) (.tmp 147) 51 rfl Try.underlying51 w.heap.size (.slice sa SN sc) (.slice (some ⟨w4.heap.size, 0, none⟩) 1 1) cs[x].b [(y : Int) - 1] (by simp [Act.eval, Act.put]) (by simp [Act.eval, Act.put]) O4 R4 (by have := HSN.out; simp; omega) D4.gb.size ?_
            intro a' c' w5 hO5 hg5'
            have z0 := (World.cell?_of_block (a := ⟨gv, x * 2, none⟩) (hg5'.block gv hgvs (fun e => hne5 e.symm))).trans y1
            have zf : w5.frozen? ⟨gv, x * 2, none⟩ = false := ((World.frozen?_of_block (a := ⟨gv, x * 2, none⟩) (hg5'.block gv hgvs (fun e => hne5 e.symm))).trans (C4.out.frozen (x * 2)))
            refine hK.out _ _ trivial (fun hHeld => ?_)
            clear hK K
            refine wpAnyH_ready (rs := [15]) (by kernel_rfl) (by simp) ?_
            refine AllReadyH.cons rfl (fun K hK => ?_) AllReadyH.nil
            go_simp
            refine hK.out _ _ trivial (fun hHeld => ?_)
            clear hK K
            refine wpAnyH_ready (rs := [16]) (by kernel_rfl) (by simp) ?_
            refine AllReadyH.cons rfl (fun K hK => ?_) AllReadyH.nil
            go_simp
            refine hK.out _ _ trivial (fun hHeld => ?_)
            clear hK K
            refine wpAnyH_ready (rs := [17]) (by kernel_rfl) (by simp) ?_
            refine AllReadyH.cons rfl (fun K hK => ?_) AllReadyH.nil
            go_simp
            refine hK.out _ _ trivial (fun hHeld => ?_)
            clear hK K
            refine wpAnyH_done (by kernel_rfl) ?_ _
            have C6 := C4.more x hxp hxc a' _ c' _ hO5 (by rw [HES.out, HSN.out]; exact hg5')
            have D6 := (D4.grown hg5' (fun q hq => (O4.lt q hq).1) hglt hbz).grown (gb_set w5 gv (x * 2) (.slice a' (cs[x].b ++ [(y : Int) - 1]).length c')) (fun q hq => by cases hq; exact hgv) hglt hbz
            simp only [List.length_append, List.length_singleton] at C6 D6
            go_wp2_with fail
            go_meet
            case rel => exact ⟨_, _, C6, (by show _ = _; rw [List.length_set]; exact HCK.out), D6⟩
          · skip
            go_simp
            go_wp2_with (go_at_call 61; refine HB2.mono ?_; rintro e w4 ⟨y, rfl, hy, hD4⟩)
            have hyb : y ≤ 300 := by omega
            have wY : IntKind.i64.wrap ((y : Int) - 1) = (y : Int) - 1 := by rw [IntKind.wrap_i64]; omega
            have hszw4 := hD4.gb.size
            have hgv4 : gv < w4.heap.size := Nat.lt_of_lt_of_le hgvl hszw4
            have y0 := dr_gb_cell hD4.gb hgvg hgvl q0
            have y1 := (((Below.refl _ w4).alloc (Nat.le_refl _) (.cells #[.int .i64 ((y : Int) - 1)] 2) : Below w4.heap.size w4 _).cell (p := ⟨gv, x * 2, none⟩) hgv4).trans y0
            have C4 := ((C3.keep bD).but hD4.gb (fun q hq => (by cases hq; exact hglt))).keep ((Below.refl _ w4).alloc (Nat.le_refl _) (.cells #[.int .i64 ((y : Int) - 1)] 2))
            have D4 := ((D3.below bD).trans hD4).below ((Below.refl _ w4).alloc (Nat.le_refl _) (.cells #[.int .i64 ((y : Int) - 1)] 2))
            have O4 := (C4.row x hxp hxc).1
            rw [HES.out, HSN.out] at O4
            have R4 := Rd.one w4 w4.heap.size rfl 2 (z := (y : Int) - 1) (by omega) (by omega)
            have hne5 := own_apart C4.out O4 (by decide)
            have hgvs : gv < (w4.alloc (.cells #[.int .i64 ((y : Int) - 1)] 2)).heap.size := by simp; omega
            refine hK.out _ _ trivial (fun hHeld => ?_)
            clear hK K
            refine wpAnyH_ready (rs := [6, 12]) (by kernel_rfl) (by simp) ?_
            refine AllReadyH.cons rfl (fun K hK => ?_) (AllReadyH.cons rfl (fun K hK => ?_) AllReadyH.nil)
            · skip
              go_simp
              refine hK.out _ _ trivial (fun hHeld => ?_)
              clear hK K
              refine wpAnyH_ready (rs := [12]) (by kernel_rfl) (by simp) ?_
              refine AllReadyH.cons rfl (fun K hK => ?_) AllReadyH.nil
              go_simp
              refine hK.out _ _ trivial (fun hHeld => ?_)
              clear hK K
              refine wpAnyH_ready (rs := [13]) (by kernel_rfl) (by simp) ?_
              refine AllReadyH.cons rfl (fun K hK => ?_) AllReadyH.nil
              go_simp
              refine hK.out _ _ trivial (fun hHeld => ?_)
              clear hK K
              refine wpAnyH_ready (rs := [14]) (by kernel_rfl) (by simp) ?_
              refine AllReadyH.cons rfl (fun K hK => ?_) AllReadyH.nil
              refine step_append_rd rfl (.tmp 140) (.tmp 147) 51 rfl Try.underlying51 w.heap.size (.slice sa SN sc) (.slice (some ⟨w4.heap.size, 0, none⟩) 1 1) cs[x].b [(y : Int) - 1] (by simp [Act.eval, Act.put]) (by simp [Act.eval, Act.put]) O4 R4 (by have := HSN.out; simp; omega) D4.gb.size ?_
              intro a' c' w5 hO5 hg5'
              have z0 := (World.cell?_of_block (a := ⟨gv, x * 2, none⟩) (hg5'.block gv hgvs (fun e => hne5 e.symm))).trans y1
              have zf : w5.frozen? ⟨gv, x * 2, none⟩ = false := ((World.frozen?_of_block (a := ⟨gv, x * 2, none⟩) (hg5'.block gv hgvs (fun e => hne5 e.symm))).trans (C4.out.frozen (x * 2)))
              refine hK.out _ _ trivial (fun hHeld => ?_)
              clear hK K
              refine wpAnyH_ready (rs := [15]) (by kernel_rfl) (by simp) ?_
              refine AllReadyH.cons rfl (fun K hK => ?_) AllReadyH.nil
              go_simp
              refine hK.out _ _ trivial (fun hHeld => ?_)
              clear hK K
              refine wpAnyH_ready (rs := [16]) (by kernel_rfl) (by simp) ?_
              refine AllReadyH.cons rfl (fun K hK => ?_) AllReadyH.nil
              go_simp
              refine hK.out _ _ trivial (fun hHeld => ?_)
              clear hK K
              refine wpAnyH_ready (rs := [17]) (by kernel_rfl) (by simp) ?_
              refine AllReadyH.cons rfl (fun K hK => ?_) AllReadyH.nil
              go_simp
              refine hK.out _ _ trivial (fun hHeld => ?_)
              clear hK K
              refine wpAnyH_done (by kernel_rfl) ?_ _
              have C6 := C4.more x hxp hxc a' _ c' _ hO5 (by rw [HES.out, HSN.out]; exact hg5')
              have D6 := (D4.grown hg5' (fun q hq => (O4.lt q hq).1) hglt hbz).grown (gb_set w5 gv (x * 2) (.slice a' (cs[x].b ++ [(y : Int) - 1]).length c')) (fun q hq => by cases hq; exact hgv) hglt hbz
              simp only [List.length_append, List.length_singleton] at C6 D6
              go_wp2_with fail
              go_meet
              case rel => exact ⟨_, _, C6, (by show _ = _; rw [List.length_set]; exact HCK.out), D6⟩
            · skip
              go_simp
              refine hK.out _ _ trivial (fun hHeld => ?_)
              clear hK K
              refine wpAnyH_ready (rs := [6, 13]) (by kernel_rfl) (by simp) ?_
              refine AllReadyH.cons rfl (fun K hK => ?_) (AllReadyH.cons rfl (fun K hK => ?_) AllReadyH.nil)
              · skip
                go_simp
                refine hK.out _ _ trivial (fun hHeld => ?_)
                clear hK K
                refine wpAnyH_ready (rs := [13]) (by kernel_rfl) (by simp) ?_
                refine AllReadyH.cons rfl (fun K hK => ?_) AllReadyH.nil
                go_simp
                refine hK.out _ _ trivial (fun hHeld => ?_)
                clear hK K
                refine wpAnyH_ready (rs := [14]) (by kernel_rfl) (by simp) ?_
                refine AllReadyH.cons rfl (fun K hK => ?_) AllReadyH.nil
                refine step_append_rd rfl (.tmp 140) (.tmp 147) 51 rfl Try.underlying51 w.heap.size (.slice sa SN sc) (.slice (some ⟨w4.heap.size, 0, none⟩) 1 1) cs[x].b [(y : Int) - 1] (by simp [Act.eval, Act.put]) (by simp [Act.eval, Act.put]) O4 R4 (by have := HSN.out; simp; omega) D4.gb.size ?_
                intro a' c' w5 hO5 hg5'
                have z0 := (World.cell?_of_block (a := ⟨gv, x * 2, none⟩) (hg5'.block gv hgvs (fun e => hne5 e.symm))).trans y1
                have zf : w5.frozen? ⟨gv, x * 2, none⟩ = false := ((World.frozen?_of_block (a := ⟨gv, x * 2, none⟩) (hg5'.block gv hgvs (fun e => hne5 e.symm))).trans (C4.out.frozen (x * 2)))
                refine hK.out _ _ trivial (fun hHeld => ?_)
                clear hK K
                refine wpAnyH_ready (rs := [15]) (by kernel_rfl) (by simp) ?_
                refine AllReadyH.cons rfl (fun K hK => ?_) AllReadyH.nil
                go_simp
                refine hK.out _ _ trivial (fun hHeld => ?_)
                clear hK K
                refine wpAnyH_ready (rs := [16]) (by kernel_rfl) (by simp) ?_
                refine AllReadyH.cons rfl (fun K hK => ?_) AllReadyH.nil
                go_simp
                refine hK.out _ _ trivial (fun hHeld => ?_)
                clear hK K
                refine wpAnyH_ready (rs := [17]) (by kernel_rfl) (by simp) ?_
                refine AllReadyH.cons rfl (fun K hK => ?_) AllReadyH.nil
                go_simp
                refine hK.out _ _ trivial (fun hHeld => ?_)
                clear hK K
                refine wpAnyH_done (by kernel_rfl) ?_ _
                have C6 := C4.more x hxp hxc a' _ c' _ hO5 (by rw [HES.out, HSN.out]; exact hg5')
                have D6 := (D4.grown hg5' (fun q hq => (O4.lt q hq).1) hglt hbz).grown (gb_set w5 gv (x * 2) (.slice a' (cs[x].b ++ [(y : Int) - 1]).length c')) (fun q hq => by cases hq; exact hgv) hglt hbz
                simp only [List.length_append, List.length_singleton] at C6 D6
                go_wp2_with fail
                go_meet
                case rel => exact ⟨_, _, C6, (by show _ = _; rw [List.length_set]; exact HCK.out), D6⟩
              · skip
                go_simp
                refine hK.out _ _ trivial (fun hHeld => ?_)
                clear hK K
                refine wpAnyH_ready (rs := [6]) (by kernel_rfl) (by simp) ?_
                refine AllReadyH.cons rfl (fun K hK => ?_) AllReadyH.nil
                go_simp
                refine hK.out _ _ trivial (fun hHeld => ?_)
                clear hK K
                refine wpAnyH_ready (rs := [14]) (by kernel_rfl) (by simp) ?_
                refine AllReadyH.cons rfl (fun K hK => ?_) AllReadyH.nil
                refine step_append_rd rfl (.tmp 140) (.tmp 147) 51 rfl Try.underlying51 w.heap.size (.slice sa SN sc) (.slice (some ⟨w4.heap.size, 0, none⟩) 1 1) cs[x].b [(y : Int) - 1] (by simp [Act.eval, Act.put]) (by simp [Act.eval, Act.put]) O4 R4 (by have := HSN.out; simp; omega) D4.gb.size ?_
                intro a' c' w5 hO5 hg5'
                have z0 := (World.cell?_of_block (a := ⟨gv, x * 2, none⟩) (hg5'.block gv hgvs (fun e => hne5 e.symm))).trans y1
                have zf : w5.frozen? ⟨gv, x * 2, none⟩ = false := ((World.frozen?_of_block (a := ⟨gv, x * 2, none⟩) (hg5'.block gv hgvs (fun e => hne5 e.symm))).trans (C4.out.frozen (x * 2)))
                refine hK.out _ _ trivial (fun hHeld => ?_)
                clear hK K
                refine wpAnyH_ready (rs := [15]) (by kernel_rfl) (by simp) ?_
                refine AllReadyH.cons rfl (fun K hK => ?_) AllReadyH.nil
                go_simp
                refine hK.out _ _ trivial (fun hHeld => ?_)
                clear hK K
                refine wpAnyH_ready (rs := [16]) (by kernel_rfl) (by simp) ?_
                refine AllReadyH.cons rfl (fun K hK => ?_) AllReadyH.nil
                go_simp
                refine hK.out _ _ trivial (fun hHeld => ?_)
                clear hK K
                refine wpAnyH_ready (rs := [17]) (by kernel_rfl) (by simp) ?_
                refine AllReadyH.cons rfl (fun K hK => ?_) AllReadyH.nil
                go_simp
                refine hK.out _ _ trivial (fun hHeld => ?_)
                clear hK K
                refine wpAnyH_done (by kernel_rfl) ?_ _
                have C6 := C4.more x hxp hxc a' _ c' _ hO5 (by rw [HES.out, HSN.out]; exact hg5')
                have D6 := (D4.grown hg5' (fun q hq => (O4.lt q hq).1) hglt hbz).grown (gb_set w5 gv (x * 2) (.slice a' (cs[x].b ++ [(y : Int) - 1]).length c')) (fun q hq => by cases hq; exact hgv) hglt hbz
                simp only [List.length_append, List.length_singleton] at C6 D6
                go_wp2_with fail
                go_meet
                case rel => exact ⟨_, _, C6, (by show _ = _; rw [List.length_set]; exact HCK.out), D6⟩
        case rest =>
          obtain ⟨PS7, CS7, C6, HC6, D6⟩ := hcut
          generalize wc = W7 at *
          clear C3 D3 C3o HB2 q0 qf hOx
          go_wp2_with fail
          refine (hO _ 60 (by omega) (by omega) D6.rd).mono ?_
          rintro e wP ⟨b60, rfl, hDP⟩
          have DP := D6.trans hDP
          have CP := C6.but hDP.gb (fun q hq => by cases hq; exact hglt)
          clear D6 C6 hDP
          cases b60
          · go_wp2_with fail
            go_ret
            exact ⟨_, _, _, rfl, CP, (by have := HC6.out; omega), DP⟩
          · go_wp2_with fail
            go_loopw [4] (fun ov wq => ∃ (M : Nat) (ps : List Sp) (cs : List Cl) (oa : Option Addr) (oc : Nat), ov = .slice oa M oc ∧ Hid (cs.length = M) ∧ 1 ≤ M ∧ M ≤ 201 ∧ CR wq w.heap.size (.slice oa M oc) ps cs ∧ Drawn w wq g a n c bs) (fun ov _ => 201 - slL ov)
            case atStart => exact ⟨N, _, _, _, _, rfl, HC6, by omega, by omega, CP, DP⟩
            case round =>
              obtain ⟨M, ps, cs, oa, oc, rfl, HM, hM1, hM2, CQ, DQ⟩ := hrel
              clear CP DP
              generalize wr = W8 at *
              go_wp2_with fail
              refine (hBG _ 2 (by omega) DQ.rd).mono ?_
              rintro e w9 ⟨y, rfl, hy, hD9⟩
              have D9 := DQ.trans hD9
              have C9 := CQ.but hD9.gb (fun q hq => by cases hq; exact hglt)
              have hy1 : y ≤ 1 := by omega
              clear DQ CQ hD9
              by_cases hMy : M < 200 + y
              · have hMi : (M : Int) < 200 + (y : Int) := by omega
                have HPM : Hid (ps.length = M) := by rw [Hid, C9.len]; exact HM.out
                have bI : Below w9.heap.size w9 (w9.alloc (.cells #[.int .i64 ((M : Int) - 1)] 2)) := (Below.refl _ w9).alloc (Nat.le_refl _) _
                have OI := Own.lit1 w9 w9.heap.size rfl (x := (M : Int) - 1) (by omega) (by omega)
                have wM : IntKind.i64.wrap ((M : Int) - 1) = (M : Int) - 1 := by rw [IntKind.wrap_i64]; omega
                have h9 := D9.gb.size
                have CI := C9.keep bI
                have DI := D9.below bI
                have bJ : Below (w9.alloc (.cells #[.int .i64 ((M : Int) - 1)] 2)).heap.size (w9.alloc (.cells #[.int .i64 ((M : Int) - 1)] 2)) ((w9.alloc (.cells #[.int .i64 ((M : Int) - 1)] 2)).alloc (.cells #[.slice (some ⟨w9.heap.size, 0, none⟩) 1 1, .slice none 0 0] 54)) := (Below.refl _ _).alloc (Nat.le_refl _) _
                have CJ := CI.keep bJ
                have DJ := DI.below bJ
                have OJ := (OI.mono h9).keep bJ
                have OK : OwnA ((w9.alloc (.cells #[.int .i64 ((M : Int) - 1)] 2)).alloc (.cells #[.slice (some ⟨w9.heap.size, 0, none⟩) 1 1, .slice none 0 0] 54)) w.heap.size (.slice none 0 0) [] := OwnG.nil _ _ _ _
                go_wp2_with (at_builtin; refine wpList_append_one (S := shP) Try.info54 rfl (by omega) rfl _ _ 25 rfl Try.underlying25 w.heap.size _ ps (⟨some ⟨w9.heap.size, 0, none⟩, 1, 1, none, 0, 0⟩ : Sp) trivial (w9.heap.size + 1) 1 rfl rfl CJ.out (sp_new _ ⟨some ⟨w9.heap.size, 0, none⟩, 1, 1, none, 0, 0⟩ _ _ (by simp)) (by have := HPM.out; omega) (by simp; omega) ?_; intro a' c' w' hO' hg')
                have CF := CJ.snoc (p := ⟨some ⟨w9.heap.size, 0, none⟩, 1, 1, none, 0, 0⟩) OJ OK hO' hg'
                have DF := DJ.grown hg' (fun q hq => (CJ.out.lt q hq).1) hglt hbz
                simp only [List.length_append, List.length_singleton, HPM.out] at CF
                go_roundw
                case rel => exact ⟨M + 1, _, _, _, _, by first | rfl | rw [HPM.out], (by show _ = _; simp; exact HM.out), by omega, by omega, CF, DF⟩
                case measure => simp [slL, HPM.out]; omega
              · have hMi : ¬ (M : Int) < 200 + (y : Int) := by omega
                go_wp2_with fail
                go_ret
                exact ⟨_, _, _, rfl, C9, (by have := HM.out; omega), D9⟩
end Go.Proofs.Ytfbibbjiomfncaa
