import Derived.Test.YtjnalkeopehlbaaMgE
import Derived.Deep.LoopGhost
namespace Go.Proofs.Ytjnalkeopehlbaa
open Go.RowKit Go.Maps
set_option linter.unusedVariables false
set_option linter.unusedSimpArgs false

theorem tab15 (x : Nat) (hx : x < 15) : ∃ y : Int, (#[.int .i64 1, .int .i64 1, .int .i64 2, .int .i64 2, .int .i64 2, .int .i64 3, .int .i64 5, .int .i64 5, .int .i64 6, .int .i64 7, .int .i64 8, .int .i64 9, .int .i64 10, .int .i64 4, .int .i64 11] : Array Value)[x]? = some (.int .i64 y) ∧ 1 ≤ y ∧ y ≤ 11 := by
  match x, hx with
  | 0, _ => exact ⟨_, rfl, by decide, by decide⟩
  | 1, _ => exact ⟨_, rfl, by decide, by decide⟩
  | 2, _ => exact ⟨_, rfl, by decide, by decide⟩
  | 3, _ => exact ⟨_, rfl, by decide, by decide⟩
  | 4, _ => exact ⟨_, rfl, by decide, by decide⟩
  | 5, _ => exact ⟨_, rfl, by decide, by decide⟩
  | 6, _ => exact ⟨_, rfl, by decide, by decide⟩
  | 7, _ => exact ⟨_, rfl, by decide, by decide⟩
  | 8, _ => exact ⟨_, rfl, by decide, by decide⟩
  | 9, _ => exact ⟨_, rfl, by decide, by decide⟩
  | 10, _ => exact ⟨_, rfl, by decide, by decide⟩
  | 11, _ => exact ⟨_, rfl, by decide, by decide⟩
  | 12, _ => exact ⟨_, rfl, by decide, by decide⟩
  | 13, _ => exact ⟨_, rfl, by decide, by decide⟩
  | 14, _ => exact ⟨_, rfl, by decide, by decide⟩
set_option maxRecDepth 100000 in
set_option maxHeartbeats 4000000 in
theorem drawGN_any (w : World) (a : Option Addr) (n c : Nat) (bs : List Int) (h : Src w a n c bs) :
    Calls Try.prog 25 #[.slice a n c] w fun e w' => ∃ (ops : List Gp) (a1 : Option Addr) (c1 : Nat), e = .returned (.slice a1 ops.length c1) ∧ ops.length ≤ 2001 ∧ OwnGo 45 w' w.heap.size (.slice a1 ops.length c1) ops ∧ Below w.heap.size w w' := by
  have hOp := dr_open_any w a n c bs h
  have HSrc : Hid (∀ b off, 0 < n → a = some ⟨b, off, none⟩ → b < w.heap.size) := fun b off h0 e => by
    obtain ⟨b', off', e', hlt, _⟩ := h.by_ h0
    rw [e] at e'
    simp only [Option.some.injEq, Addr.mk.injEq] at e'
    rw [e'.1]; exact hlt
  clear h
  go_enter Try.func25, Try.ntmps25
  go_wp2_with fail
  refine hOp.mono ?_
  rintro e w1 ⟨g, rfl, hgz, hR, b1⟩
  clear hOp
  have hglt := hR.lt
  have hb1z := b1.size
  have HBZ : Hid (∀ b off, 0 < n → a = some ⟨b, off, none⟩ → b < w1.heap.size) := fun b off h0 e => Nat.lt_of_lt_of_le (HSrc.out b off h0 e) hb1z
  have hS := dr_size_any w1 g a n c bs 4 80 (by omega) (by omega) (by omega) (by omega) hR
  rw [show ((4 : Nat) : Int) = 4 from rfl, show ((80 : Nat) : Int) = 80 from rfl] at hS
  have HB1 : Hid (Below w.heap.size w w1) := b1
  clear b1 hR
  go_wp2_with fail
  refine hS.mono ?_
  rintro e w2 ⟨N, rfl, hN1, hN2, hD2⟩
  clear hS
  have hsz2 := hD2.gb.size
  have HO0 : Hid (OwnG shGo 45 (w2.alloc (.cells #[] 45)) w1.heap.size (.slice (some ⟨w2.heap.size, 0, none⟩) 0 0) []) := (OwnG.emptyD shGo 45 w2).mono hsz2
  have HDa : Hid (Drawn w1 (w2.alloc (.cells #[] 45)) g a n c bs) := hD2.below ((Below.refl _ w2).alloc (Nat.le_refl _) (.cells #[] 45))
  have hB15 := fun W (h : Rdr W g a n c bs) => dr_below_any W g a n c bs 15 (by omega) (by omega) h
  have hB4 := fun W (h : Rdr W g a n c bs) => dr_below_any W g a n c bs 4 (by omega) (by omega) h
  clear hD2
  go_wp2
  go_loopw [5, 6, 7] (fun v m i wr => ∃ (k md : Nat) (ops : List Gp), k ≤ N ∧ ops.length = k ∧ i = .int .i64 k ∧ m = .int .i64 md ∧ md ≤ k ∧ OwnG shGo 45 wr w1.heap.size v ops ∧ Drawn w1 wr g a n c bs) (fun _ _ i _ => N - (RowKit.intOf i).toNat)
  case atStart => exact ⟨0, 0, [], Nat.zero_le _, rfl, rfl, rfl, Nat.le_refl _, HO0.out, HDa.out⟩
  case round =>
    obtain ⟨k, md, ops, hk, hlen, rfl, rfl, hmdk, hO, hD⟩ := hrel
    clear HO0 HDa
    obtain ⟨va, vc, hv⟩ := hO.form
    subst hv
    have HL : Hid (ops.length = k) := hlen
    have hopl : ops.length ≤ 256 := by omega
    by_cases hlt : k < N
    · clear hlen
      have hO1 := hO.alloc (.cells #[.int .i64 1, .int .i64 1, .int .i64 2, .int .i64 2, .int .i64 2, .int .i64 3, .int .i64 5, .int .i64 5, .int .i64 6, .int .i64 7, .int .i64 8, .int .i64 9, .int .i64 10, .int .i64 4, .int .i64 11] 2)
      have hDA := hD.below ((Below.refl _ _).alloc (Nat.le_refl _) (.cells #[.int .i64 1, .int .i64 1, .int .i64 2, .int .i64 2, .int .i64 2, .int .i64 3, .int .i64 5, .int .i64 5, .int .i64 6, .int .i64 7, .int .i64 8, .int .i64 9, .int .i64 10, .int .i64 4, .int .i64 11] 2))
      go_wp2_with fail
      refine (hB15 _ hDA.rd).mono ?_
      rintro e w4 ⟨x, rfl, hx, hD4⟩
      obtain ⟨y, hy, hy0, hy1⟩ := tab15 x hx
      have hcl := dr_lit_cell hD.rd.lt hD4.gb hy
      have hxz : (x : Int) < 15 := by omega
      have hO2 := hO1.drawn hglt hD4
      have hDB := hDA.trans hD4
      clear hy hO1 hDA hD4 hO hD
      by_cases hm3 : md < 3
      · have hm3i : (md : Int) < 3 := by omega
        have hBM := fun W (h : Rdr W g a n c bs) => dr_belowG_any W g a n c bs ((md + 1) + 1) (by omega) h
        have hmd : ((((md + 1)) + 1 : Nat) : Int) = (md : Int) + 1 + 1 := by omega
        simp only [hmd] at hBM
        clear hmd
        go_wp2_with fail
        refine (hBM _ hDB.rd).mono ?_
        rintro e w5 ⟨x2, rfl, hx2, hD5⟩
        have hO5 := hO2.drawn hglt hD5
        have hDC := hDB.trans hD5
        have hx2b : x2 ≤ 200 := by omega
        clear hO2 hDB hD5 hx2 hcl
        go_wp2_with fail
        refine (hBM _ hDC.rd).mono ?_
        rintro e w6 ⟨y2, rfl, hy2, hD6⟩
        have hO6 := hO5.drawn hglt hD6
        have hDD := hDC.trans hD6
        have hy2b : y2 ≤ 200 := by omega
        clear hO5 hDC hD6 hy2 hBM
        have hwx : IntKind.i64.wrap (1 + (x2 : Int)) = 1 + (x2 : Int) := wrap_smallD (by omega) (by omega)
        have hwy : IntKind.i64.wrap (1 + (y2 : Int)) = 1 + (y2 : Int) := wrap_smallD (by omega) (by omega)
        have hsz5 := hDD.gb.size
        have HDC : Hid (Drawn w1 w6 g a n c bs) := hDD
        have HLT : Hid (∀ j, (Value.slice va ops.length vc).ownBlock = some j → w1.heap.size ≤ j) := fun j hj => (hO6.lt j hj).1
        clear hB15 hB4
        go_wp2_with (at_builtin; refine wpList_append_one (S := shGo) Try.info45 rfl (by omega) rfl _ _ 26 rfl Try.underlying26 w1.heap.size _ ops (⟨1, 1 + (x2 : Int), (1 + (y2 : Int))⟩ : Gp) ⟨⟨by show -9223372036854775808 ≤ (1 : Int); omega, by show (1 : Int) < _; omega⟩, ⟨by show -9223372036854775808 ≤ 1 + (x2 : Int); omega, by show 1 + (x2 : Int) < _; omega⟩, ⟨by show -9223372036854775808 ≤ (1 + (y2 : Int)); omega, by show (1 + (y2 : Int)) < _; omega⟩⟩ w6.heap.size 1 rfl rfl (hO6.alloc _) (gp_new _ (⟨1, 1 + (x2 : Int), (1 + (y2 : Int))⟩ : Gp) _ _ (by simp)) (by omega) (by simp; omega) ?_; intro a' c' w' hO' hg')
        have hDf : Drawn w1 w' g a n c bs := (HDC.out.below ((Below.refl _ _).alloc (Nat.le_refl _) _)).grown hg' HLT.out hglt HBZ.out
        go_roundw
        case rel => exact ⟨k + 1, (md + 1), ops ++ [(⟨1, 1 + (x2 : Int), (1 + (y2 : Int))⟩ : Gp)], by omega, by simp [HL.out], by go_num, by first | rfl | go_num, by omega, by simpa using hO', hDf⟩
        case measure => simp [RowKit.intOf]; omega
      · have hm3i : ¬ (md : Int) < 3 := by omega
        by_cases hy1 : y = 1
        · subst hy1
          have hBM := fun W (h : Rdr W g a n c bs) => dr_belowG_any W g a n c bs ((md + 1) + 1) (by omega) h
          have hmd : ((((md + 1)) + 1 : Nat) : Int) = (md : Int) + 1 + 1 := by omega
          simp only [hmd] at hBM
          clear hmd
          go_wp2_with fail
          refine (hBM _ hDB.rd).mono ?_
          rintro e w5 ⟨x2, rfl, hx2, hD5⟩
          have hO5 := hO2.drawn hglt hD5
          have hDC := hDB.trans hD5
          have hx2b : x2 ≤ 200 := by omega
          clear hO2 hDB hD5 hx2 hcl
          go_wp2_with fail
          refine (hBM _ hDC.rd).mono ?_
          rintro e w6 ⟨y2, rfl, hy2, hD6⟩
          have hO6 := hO5.drawn hglt hD6
          have hDD := hDC.trans hD6
          have hy2b : y2 ≤ 200 := by omega
          clear hO5 hDC hD6 hy2 hBM
          have hwx : IntKind.i64.wrap (1 + (x2 : Int)) = 1 + (x2 : Int) := wrap_smallD (by omega) (by omega)
          have hwy : IntKind.i64.wrap (1 + (y2 : Int)) = 1 + (y2 : Int) := wrap_smallD (by omega) (by omega)
          have hsz5 := hDD.gb.size
          have HDC : Hid (Drawn w1 w6 g a n c bs) := hDD
          have HLT : Hid (∀ j, (Value.slice va ops.length vc).ownBlock = some j → w1.heap.size ≤ j) := fun j hj => (hO6.lt j hj).1
          clear hB15 hB4
          go_wp2_with (at_builtin; refine wpList_append_one (S := shGo) Try.info45 rfl (by omega) rfl _ _ 26 rfl Try.underlying26 w1.heap.size _ ops (⟨1, 1 + (x2 : Int), (1 + (y2 : Int))⟩ : Gp) ⟨⟨by show -9223372036854775808 ≤ (1 : Int); omega, by show (1 : Int) < _; omega⟩, ⟨by show -9223372036854775808 ≤ 1 + (x2 : Int); omega, by show 1 + (x2 : Int) < _; omega⟩, ⟨by show -9223372036854775808 ≤ (1 + (y2 : Int)); omega, by show (1 + (y2 : Int)) < _; omega⟩⟩ w6.heap.size 1 rfl rfl (hO6.alloc _) (gp_new _ (⟨1, 1 + (x2 : Int), (1 + (y2 : Int))⟩ : Gp) _ _ (by simp)) (by omega) (by simp; omega) ?_; intro a' c' w' hO' hg')
          have hDf : Drawn w1 w' g a n c bs := (HDC.out.below ((Below.refl _ _).alloc (Nat.le_refl _) _)).grown hg' HLT.out hglt HBZ.out
          go_roundw
          case rel => exact ⟨k + 1, (md + 1), ops ++ [(⟨1, 1 + (x2 : Int), (1 + (y2 : Int))⟩ : Gp)], by omega, by simp [HL.out], by go_num, by first | rfl | go_num, by omega, by simpa using hO', hDf⟩
          case measure => simp [RowKit.intOf]; omega
        · have hye : (y == 1) = false := by rw [beq_eq_false_iff_ne]; exact hy1
          by_cases hy7 : y = 7
          · subst hy7
            have hBM := fun W (h : Rdr W g a n c bs) => dr_belowG_any W g a n c bs (md + 1) (by omega) h
            have hmd : (((md) + 1 : Nat) : Int) = (md : Int) + 1 := by omega
            simp only [hmd] at hBM
            clear hmd
            go_wp2_with fail
            refine (hBM _ hDB.rd).mono ?_
            rintro e w5 ⟨x2, rfl, hx2, hD5⟩
            have hO5 := hO2.drawn hglt hD5
            have hDC := hDB.trans hD5
            have hx2b : x2 ≤ 200 := by omega
            clear hO2 hDB hD5 hx2 hcl
            go_wp2_with fail
            refine (hBM _ hDC.rd).mono ?_
            rintro e w6 ⟨y2, rfl, hy2, hD6⟩
            have hO6 := hO5.drawn hglt hD6
            have hDD := hDC.trans hD6
            have hy2b : y2 ≤ 200 := by omega
            clear hO5 hDC hD6 hy2 hBM
            have hwx : IntKind.i64.wrap (1 + (x2 : Int)) = 1 + (x2 : Int) := wrap_smallD (by omega) (by omega)
            have hwy : IntKind.i64.wrap (1 + (y2 : Int)) = 1 + (y2 : Int) := wrap_smallD (by omega) (by omega)
            go_wp2_with fail
            refine (hB4 _ hDD.rd).mono ?_
            rintro e w7 ⟨z, rfl, hz, hD7⟩
            have hO7 := hO6.drawn hglt hD7
            have hDE := hDD.trans hD7
            clear hO6 hDD hD7
            have hsz5 := hDE.gb.size
            have HDC : Hid (Drawn w1 w7 g a n c bs) := hDE
            have HLT : Hid (∀ j, (Value.slice va ops.length vc).ownBlock = some j → w1.heap.size ≤ j) := fun j hj => (hO7.lt j hj).1
            clear hB15 hB4
            go_wp2_with (at_builtin; refine wpList_append_one (S := shGo) Try.info45 rfl (by omega) rfl _ _ 26 rfl Try.underlying26 w1.heap.size _ ops (⟨7, 1 + (x2 : Int), (z : Int)⟩ : Gp) ⟨⟨by show -9223372036854775808 ≤ (7 : Int); omega, by show (7 : Int) < _; omega⟩, ⟨by show -9223372036854775808 ≤ 1 + (x2 : Int); omega, by show 1 + (x2 : Int) < _; omega⟩, ⟨by show -9223372036854775808 ≤ (z : Int); omega, by show (z : Int) < _; omega⟩⟩ w7.heap.size 1 rfl rfl (hO7.alloc _) (gp_new _ (⟨7, 1 + (x2 : Int), (z : Int)⟩ : Gp) _ _ (by simp)) (by omega) (by simp; omega) ?_; intro a' c' w' hO' hg')
            have hDf : Drawn w1 w' g a n c bs := (HDC.out.below ((Below.refl _ _).alloc (Nat.le_refl _) _)).grown hg' HLT.out hglt HBZ.out
            go_roundw
            case rel => exact ⟨k + 1, md, ops ++ [(⟨7, 1 + (x2 : Int), (z : Int)⟩ : Gp)], by omega, by simp [HL.out], by go_num, by first | rfl | go_num, by omega, by simpa using hO', hDf⟩
            case measure => simp [RowKit.intOf]; omega
          · have hyf : (y == 7) = false := by rw [beq_eq_false_iff_ne]; exact hy7
            have hBM := fun W (h : Rdr W g a n c bs) => dr_belowG_any W g a n c bs (md + 1) (by omega) h
            have hmd : (((md) + 1 : Nat) : Int) = (md : Int) + 1 := by omega
            simp only [hmd] at hBM
            clear hmd
            go_wp2_with fail
            refine (hBM _ hDB.rd).mono ?_
            rintro e w5 ⟨x2, rfl, hx2, hD5⟩
            have hO5 := hO2.drawn hglt hD5
            have hDC := hDB.trans hD5
            have hx2b : x2 ≤ 200 := by omega
            clear hO2 hDB hD5 hx2 hcl
            go_wp2_with fail
            refine (hBM _ hDC.rd).mono ?_
            rintro e w6 ⟨y2, rfl, hy2, hD6⟩
            have hO6 := hO5.drawn hglt hD6
            have hDD := hDC.trans hD6
            have hy2b : y2 ≤ 200 := by omega
            clear hO5 hDC hD6 hy2 hBM
            have hwx : IntKind.i64.wrap (1 + (x2 : Int)) = 1 + (x2 : Int) := wrap_smallD (by omega) (by omega)
            have hwy : IntKind.i64.wrap (1 + (y2 : Int)) = 1 + (y2 : Int) := wrap_smallD (by omega) (by omega)
            have hsz5 := hDD.gb.size
            have HDC : Hid (Drawn w1 w6 g a n c bs) := hDD
            have HLT : Hid (∀ j, (Value.slice va ops.length vc).ownBlock = some j → w1.heap.size ≤ j) := fun j hj => (hO6.lt j hj).1
            clear hB15 hB4
            go_wp2_with (at_builtin; refine wpList_append_one (S := shGo) Try.info45 rfl (by omega) rfl _ _ 26 rfl Try.underlying26 w1.heap.size _ ops (⟨y, 1 + (x2 : Int), (1 + (y2 : Int))⟩ : Gp) ⟨⟨by show -9223372036854775808 ≤ y; omega, by show y < _; omega⟩, ⟨by show -9223372036854775808 ≤ 1 + (x2 : Int); omega, by show 1 + (x2 : Int) < _; omega⟩, ⟨by show -9223372036854775808 ≤ (1 + (y2 : Int)); omega, by show (1 + (y2 : Int)) < _; omega⟩⟩ w6.heap.size 1 rfl rfl (hO6.alloc _) (gp_new _ (⟨y, 1 + (x2 : Int), (1 + (y2 : Int))⟩ : Gp) _ _ (by simp)) (by omega) (by simp; omega) ?_; intro a' c' w' hO' hg')
            have hDf : Drawn w1 w' g a n c bs := (HDC.out.below ((Below.refl _ _).alloc (Nat.le_refl _) _)).grown hg' HLT.out hglt HBZ.out
            go_roundw
            case rel => exact ⟨k + 1, md, ops ++ [(⟨y, 1 + (x2 : Int), (1 + (y2 : Int))⟩ : Gp)], by omega, by simp [HL.out], by go_num, by first | rfl | go_num, by omega, by simpa using hO', hDf⟩
            case measure => simp [RowKit.intOf]; omega
    · obtain rfl : N = k := by omega
      have hOn := dr_once_any _ g a n c bs 60 (by omega) (by omega) hD.rd
      rw [show ((60 : Nat) : Int) = 60 from rfl] at hOn
      have HO : Hid (OwnG shGo 45 wr w1.heap.size (.slice va ops.length vc) ops) := hO
      have HD : Hid (Drawn w1 wr g a n c bs) := hD
      have hni : ¬ ((N : Int) < (N : Int)) := by omega
      have HFin : Hid (∀ (W : World) (ops' : List Gp) (a1 : Option Addr) (c1 : Nat), OwnG shGo 45 W w1.heap.size (.slice a1 ops'.length c1) ops' → Drawn w1 W g a n c bs → OwnGo 45 W w.heap.size (.slice a1 ops'.length c1) ops' ∧ Below w.heap.size w W) := fun W ops' a1 c1 h7 h8 => ⟨h7.mono hb1z, HB1.out.trans (gb_to h8.gb (fun q hq => by have : g = q := Option.some.inj hq; omega) hb1z)⟩
      clear hO hD hlen hlt hB15 hB4
      go_wp2_with fail
      refine hOn.mono ?_
      rintro e w8 ⟨b, rfl, hD8⟩
      clear hOn
      have hO8 := HO.out.drawn hglt hD8
      have hD9 := HD.out.trans hD8
      clear hD8
      cases b
      · go_wp2
        obtain ⟨f1, f2⟩ := HFin.out w8 ops va vc hO8 hD9
        go_ret
        exact ⟨ops, va, vc, rfl, by omega, f1, f2⟩
      · have HO8 : Hid (OwnG shGo 45 w8 w1.heap.size (.slice va ops.length vc) ops) := hO8
        have HD9 : Hid (Drawn w1 w8 g a n c bs) := hD9
        have hB2 := fun W (h : Rdr W g a n c bs) => dr_below_any W g a n c bs 2 (by omega) (by omega) h
        simp only [show ((2 : Nat) : Int) = 2 from rfl] at hB2
        clear hO8 hD9
        go_wp2_with fail
        go_loopg [5] 2002 (fun gg v wq => ∃ (os : List Gp), OwnG shGo 45 wq w1.heap.size v os ∧ os.length ≤ 2001 ∧ 2002 - os.length ≤ gg ∧ Drawn w1 wq g a n c bs)
        case atStart => exact ⟨ops, HO8.out, by omega, by omega, HD9.out⟩
        case round =>
          obtain ⟨os, hOs, hol, hgg, hDs⟩ := hrel
          clear HO8 HD9
          obtain ⟨sa, sc, hv⟩ := hOs.form
          subst hv
          obtain ⟨OL, hOL⟩ : ∃ OL, os.length = OL := ⟨_, rfl⟩
          have HOL : Hid (os.length = OL) := hOL
          rw [hOL] at hOs hol hgg
          try rw [hOL]
          clear hOL
          go_wp2_with fail
          refine (hB2 _ hDs.rd).mono ?_
          rintro e w10 ⟨x, rfl, hx, hD10⟩
          have hOt := hOs.drawn hglt hD10
          have hDt := hDs.trans hD10
          clear hOs hDs hD10
          have hwx : IntKind.i64.wrap (2000 + (x : Int)) = 2000 + (x : Int) := wrap_smallD (by omega) (by omega)
          by_cases hc : OL < 2000 + x
          · have hci : (OL : Int) < 2000 + (x : Int) := by omega
            have HDC : Hid (Drawn w1 w10 g a n c bs) := hDt
            have HLT : Hid (∀ j, (Value.slice sa OL sc).ownBlock = some j → w1.heap.size ≤ j) := fun j hj => (hOt.lt j hj).1
            have hsz5 := hDt.gb.size
            have hlen2 : os.length + 1 ≤ 16777216 := by have := HOL.out; omega
            go_wp2_with (at_builtin; refine wpList_append_one (S := shGo) Try.info45 rfl (by omega) rfl _ _ 26 rfl Try.underlying26 w1.heap.size _ os (⟨10, 0, 0⟩ : Gp) ⟨⟨by decide, by decide⟩, ⟨by decide, by decide⟩, ⟨by decide, by decide⟩⟩ w10.heap.size 1 rfl rfl (hOt.alloc _) (gp_new _ (⟨10, 0, 0⟩ : Gp) _ _ (by simp)) hlen2 (by simp; omega) ?_; intro a' c' w' hO' hg')
            have hDf : Drawn w1 w' g a n c bs := (HDC.out.below ((Below.refl _ _).alloc (Nat.le_refl _) _)).grown hg' HLT.out hglt HBZ.out
            go_roundg (2002 - (OL + 1))
            case measure => omega
            case rel => exact ⟨os ++ [(⟨10, 0, 0⟩ : Gp)], by simpa using hO', by simp [HOL.out]; omega, by simp [HOL.out], hDf⟩
          · have hci : ¬ ((OL : Int) < 2000 + (x : Int)) := by omega
            go_wp2
            rw [← HOL.out] at hOt
            obtain ⟨f1, f2⟩ := HFin.out w10 os sa sc hOt hDt
            go_ret
            exact ⟨os, sa, sc, by rw [HOL.out]; rfl, by rw [HOL.out]; exact hol, f1, f2⟩
end Go.Proofs.Ytjnalkeopehlbaa
